import PyProof.Rows.All
import Wide.All
import OpenK.AllK
import Wide.FinOn
import PyProof.EqAt
import PyProof.EqKinds
import PyProof.TupleCall
import PyProof.ReprRoads
import HandS.ForMost
import HandS.Walk
import HandS.TupAny
import HandS.TupMul
import HandS.Zip
import HandS.Defaults
import HandS.Style
import HandS.Evl
import HandS.FStrTup
import PySem.Challenge.RW_partkits_k08_choices_and_wants
set_option Elab.async false
set_option linter.all false
set_option maxRecDepth 100000
set_option maxHeartbeats 4000000
namespace PK
open PySem PySem.Spec PyProof.Rows L2

/-! ### defs that show things: called where nothing is being shown -/
structure FnG (P : Program) (w : World) (K : PySem.W.Frag) (mg : Str → Option Value) (base : Heap) (CX : CXT)
    (k : Nat) (f : Addr) (fd : FuncData) (ps : List Str) (sp : Sp) : Prop where
  len : ∀ vs H Q E, sp vs H Q E → vs.length = ps.length
  go : ∀ {A : Around} {outer : List Env} {s : Shared} {H : Hp} {args : Args} {us : List Value} {vs : List V} {Q : VK} {E : XK},
    A.guards = some [] → Room k A → Env0 P w K mg base A outer s H → BindsTo s fd args (ps.zip us) → Vals vs us →
    sp vs H Q E → codeAny (model P w) A (.call (.ref f) args) (CR CX outer P w H s Q E) s
theorem FnG.of {P : Program} {w : World} {K : PySem.W.Frag} {mg : Str → Option Value} {base : Heap} {CX : CXT}
    {k : Nat} {f : Addr} {fd : FuncData} {ps : List Str} {sp : Sp} (F : FnOk P w K mg base CX k f fd ps sp) :
    FnG P w K mg base CX k f fd ps sp :=
  ⟨F.len, fun _ hr e0 hb hv hs => F.run _ _ _ _ _ _ _ _ _ hr e0 hb hv hs⟩

/-- the def's promise from its body, the body read where nothing is being shown -/
theorem fnG_of {CX : CXT} {P : Program} {w : World} {K : PySem.W.Frag} {mg : Str → Option Value} {base : Heap} {k : Nat} {f : Addr} {fd : FuncData}
    {x qual : Str} {st : Stmt} {N ps : List Str} {sp : Sp} (F : Fun K x qual st f fd) (S : FnScope N ps (defScope st))
    (len : ∀ vs H Q E, sp vs H Q E → vs.length = ps.length)
    (hbody : ∀ (cdv : Value) (A : Around) (outer : List Env) (s : Shared) (H : Hp) (vs : List V) (Q : VK) (E : XK), A.guards = some [] →
      Room k (A.deeper (envOfC qual (defScope st) s.heap.objs.size f cdv)) → sp vs H Q E →
      ∃ t, PSs (cxOf CX P w K mg base N qual (defScope st) f cdv A outer s H E) (defBody st) t ∧
        t { nx := fun _ H' => Q .non H', rt := Q } (start N vs) H) : FnG P w K mg base CX (k + 1) f fd ps sp := by
  obtain ⟨oc, od, kV, doc, pm, an, cdv, ct, osl, rfl, lk, hcd⟩ := F.ex
  refine ⟨len, fun {A outer s H args us vs Q E} hgd hr e0 hb hv hsp => ?_⟩
  have kept : ∀ b o, base.get? b = some o → s.heap.get? b = some o := fun b o e => (e0.bs b o e).1
  have KX := e0.mod.kin.keeps kept
  have noLim := e0.mod.nolimit.keeps kept
  refine codeAny_call_function hr.depth (KX _ _ lk) rfl S.co S.gen rfl (PySem.W.codeRec_of KX hcd) (hb _ _ _ _ ?_)
  refine wpAny_newFunctionEnv_cells S.kind (fun y hy => ?_) fun env he s1 hx => ?_
  · rcases S.par y.1 (List.of_mem_zip (show (y.1, y.2) ∈ ps.zip us from hy)).1 with q | q
    · exact Or.inl q
    · exact Or.inr ⟨q, PySem.W.cellsFrom_some _ _ _ (Or.inl q)⟩
  cases he
  refine ⟨noLim.keeps hx.toInCall.keep, codeAny_func ?_⟩
  obtain ⟨t, ht, hq⟩ := hbody cdv A outer s H vs Q E hgd (hr.deeper _) hsp
  have I := inv_start (CX := CX) (N := N) (E := E) S hr.hd e0 (len _ _ _ _ hsp) hv hx
  refine wpAny_mono (ht.run [] s1 _ H _ I hq) (fun fl s' hs => ?_) (fun _ _ h => h)
  cases fl with
  | ret u =>
    obtain ⟨v, σ', H', J, rv, q⟩ := hs
    exact ⟨v, H', J.os, J.bare, J.base, J.hok, rv, q⟩
  | next =>
    obtain ⟨σ', H', J, q⟩ := hs
    exact ⟨V.non, H', J.os, J.bare, J.base, J.hok, rfl, q⟩
  | brk => exact hs.elim fun _ h => h.elim fun _ h => h.2.elim
  | cont => exact hs.elim fun _ h => h.elim fun _ h => h.2.elim

section
variable {X : Cx} {CX : CXT} {k : Nat} {f : Addr} {fd : FuncData} {ps : List Str} {sp : Sp} {dvs : List V} {ds : List Value} {E : XK}
  {x : Str} {p pos : Pos} {e : Expr} {es : List Expr} {t : TA}
theorem pe_callG (F : FnG X.prog X.w X.K X.mg X.base CX k f fd ps sp) (hgd : X.A.guards = some []) (hr : Room k X.A) (hg : Gl X x)
    (hm : X.mg x = some (.ref f)) (hk : PySem.W.keepIn X.K (.ref f) = true) (hb : Binds X.K fd ps ds) (hd : Vals dvs ds) (hx : Passes CX X E)
    (ha : PA X (e :: es) t) (hdb : (x == ("__debug__" : Str)) = false := by decide)
    (he : starEach (e :: es) X.env = (false, eval e X.env) :: starEach es X.env := by rfl)
    (hpl : (backTo pos (starEach es X.env)).any (·.1) = false := by rfl) :
    PE X (.Call (.Name x p) (e :: es) [] pos) (tCall sp dvs E t) := by
  refine ⟨fun pins s σ H Q I h => wpAny_Call_Name_kw (ld_glob I hg hm ?_ hdb)⟩
  refine PySem.W.callWith_K (h₀ := X.base) I.ok.mod.kin hk (thn (ha.run pos pins s σ H _ I h) ?_) he hpl
  rintro us s1 ⟨vs, H1, J, r, q⟩
  refine ⟨J.kIn, ?_⟩
  have r2 : Vals (vs ++ dvs) (us ++ ds) := r.append hd
  have hl : (us ++ ds).length = ps.length := r2.length.symm.trans (F.len _ _ _ _ q)
  refine wpAny_call (codeAny_mono (F.go hgd hr J.env0 (hb s1 us J.kIn hl) r2 q) ?_)
  intro res s2 hq
  match res, hq with
  | .error er, hq => exact hx pins σ H1 s1 er s2 J hq
  | .ok (.ret u), hq => exact J.after hq
  | .ok .next, hq => exact hq.elim
  | .ok .brk, hq => exact hq.elim
  | .ok .cont, hq => exact hq.elim

/-- f(k = v, ..), no argument by its place -/
theorem pe_callK0 {ks : List Str} {kws : List Keyword} {tk : TA} {g : List Value → List Value → List Value} {gV : List V → List V → List V}
    (F : FnOk X.prog X.w X.K X.mg X.base CX k f fd ps sp) (hr : Room k X.A) (hg : Gl X x) (hm : X.mg x = some (.ref f))
    (hk : PySem.W.keepIn X.K (.ref f) = true) (hb : KBinds X.K fd ps ks g gV) (hx : Passes CX X E) (hkw : PK X kws tk)
    (hall : (backToKw pos (keywordEach kws X.env)).all (·.1.isSome) = true := by rfl)
    (hks : (backToKw pos (keywordEach kws X.env)).filterMap (·.1) = ks := by rfl)
    (hdb : (x == ("__debug__" : Str)) = false := by decide)
    (hpl : ((backTo pos (starEach [] X.env)).any (·.1) || (backToKw pos (keywordEach kws X.env)).any (·.1.isNone)) = false := by rfl) :
    PE X (.Call (.Name x p) [] kws pos) (tCallK sp gV E tNil tk) := by
  refine ⟨fun pins s σ H Q I h => wpAny_Call_Name_kw (ld_glob I hg hm ?_ hdb)⟩
  refine PySem.W.callWith_KW0 (h₀ := X.base) I.ok.mod.kin hk hall (thn (hkw.run pos pins s σ H _ I h) ?_) hpl
  rintro ws s2 ⟨zs, H2, J, rz, q⟩
  refine ⟨J.kIn, ?_⟩
  rw [hks]
  exact run_fnk (us := []) F hr hb hx J .nil rz q
end

/-! ### repr of data -/
theorem call_repr {X : Cx} {k : Nat} (hgd : X.A.guards = some []) (hr : Room k X.A) : CallR X (.builtin "repr")
    (fun xs H Q => ∃ a d, xs = [.ref a] ∧ Dp X.K H (.ref a) d ∧ d.showable = true ∧ d.hasDict = false ∧ d.depth ≤ 100 ∧
      d.shown.length ≤ sizeLine ∧ Q (.str d.shown) H) := by
  intro pins s σ H xs us Q I r h
  obtain ⟨a, d, rfl, hd, hs, hn, hdp, hz, q⟩ := h
  obtain ⟨u, rfl, rr⟩ := vals1 r
  cases rr
  obtain ⟨as, rd⟩ := Dp.reads I d _ _ hd rfl
  have hu := hr.un
  refine repr_of_reads' rd hs (fun e => by rw [hn] at e; cases e) hgd (by omega) (fun _ _ e => e) (fun h' u tk hk => ?_) hz
  exact ⟨.str _, H, I.kept (t' := tk) hk, ⟨_, rfl⟩, q⟩
end PK
namespace PK
open PySem PySem.Spec PyProof.Rows L2

section
variable {P : Program} {w : World} {K : PySem.W.Frag} {mg mb : Str → Option Value} {k : Nat} {fa a : Addr} {fd : FuncData} {x : Str} {sp : Sp}
  {s₁ : Shared} {vs : List Value} {ns : List Int}
abbrev AllTrue (s₁ : Shared) : Result → Shared → Prop :=
  fun r s' => r = .ok (.ret (.bool true)) ∧ OldK s₁.heap s'.heap ∧ s'.os = s₁.os ∧ AllBare s'.gens

/-- what is hidden are the tracked objects: here at most the script -/
theorem core_of {H : Hp} (KX : K.In s₁.heap) (hns : s₁.heap.Ns mainGlobals mg) (hb : s₁.heap.Ns builtinsNs mb)
    (hbb : ∀ y : Str, y ≠ "__name__" → mb y = bootBuiltins y) (hlim : s₁.heap.NoLimit) (hg : s₁.gens = #[])
    (ha : s₁.heap.get? a = some { cls := .type "list", data := .seq vs.toArray }) (hr : Room k callerA)
    (F : ∀ base : Heap, K.In base → base.Ns mainGlobals mg → FnG P w K mg base CX0 k fa fd [x] sp)
    (hbind : ∀ (s : Shared) (u : Value), BindsTo s fd ⟨[u], []⟩ [(x, u)])
    (hO : Only H) (hS : sp [.ref a] H (fun v _ => v = .bl true) fun _ _ _ => False) (hok : HOk P w H s₁.heap)
    (hA : ∀ b u, H b = some u → b = a) (hK : ∀ u, H a = some u → K.lookup a = none) :
    codeAny (model P w) callerA (.call (.ref fa) ⟨[.ref a], []⟩) (AllTrue s₁) s₁ := by
  have free : ∀ {b : Addr} {o : Obj}, s₁.heap.get? b = some o → (∀ es ep, o.data = .dict es ep → True) → (∃ es ep, o.data = .dict es ep) → H b = none := by
    intro b o e _ ⟨es, ep, d⟩
    cases q : H b with
    | none => rfl
    | some u =>
      have e1 := hA b u q
      rw [e1, ha] at e
      rw [← Option.some.inj e] at d
      cases d
  have toNs : ∀ {b : Addr} {m : Str → Option Value}, s₁.heap.Ns b m → (hidT s₁.heap H).Ns b m := by
    rintro b m ⟨o, es, ep, e, d, r⟩
    exact ⟨o, es, ep, hidT_get e (free e (fun _ _ _ => trivial) ⟨es, ep, d⟩), d, r⟩
  have KB : K.In (hidT s₁.heap H) := by
    intro b o e
    refine hidT_get (KX b o e) ?_
    cases q : H b with
    | none => rfl
    | some u =>
      have e1 := hA b u q
      subst e1
      rw [hK u q] at e
      cases e
  obtain ⟨mc, l1, l2⟩ := hlim
  have M : Mod K mg (hidT s₁.heap H) := ⟨KB, toNs hns, ⟨mb, toNs hb, hbb⟩, ⟨mc, toNs l1, l2⟩⟩
  have e0 : Env0 P w K mg (hidT s₁.heap H) callerA [] s₁ H :=
    { frames := rfl, mod := M, bs := fun b o e => of_hidT e, bsz := Nat.le_of_eq (hidT_size _ _), funs := trivial,
      frf := fun b z => absurd z (List.not_mem_nil), hok := hok, bare := .of_eq hg }
  refine codeAny_mono ((F _ KB (toNs hns)).go (us := [.ref a]) (vs := [.ref a]) rfl hr e0 (hbind s₁ (.ref a)) (.cons rfl .nil) hS) ?_
  intro res s' h
  match res, h with
  | .error _, h => exact h.elim
  | .ok .next, h => exact h.elim
  | .ok .brk, h => exact h.elim
  | .ok .cont, h => exact h.elim
  | .ok (.ret u), h =>
    obtain ⟨v, H', os, bare, un, hok', rv, ev⟩ := h
    have ev' : v = .bl true := ev
    subst ev'
    cases rv
    refine ⟨rfl, OldK.of_keep fun b o e => ?_, os, bare⟩
    rcases hO b with z | ⟨ob, xs, z⟩
    · exact un.keep b o e z (by intro z'; cases z') (by intro z'; cases z')
    · have z2 := hok' b _ (un.frzs b ob _ z)
      have z1 := hok b _ z
      have e1 : ob = o := Option.some.inj (z1.1.symm.trans e)
      rw [← e1]
      exact z2.1

theorem law_goG (KX : K.In s₁.heap) (hns : s₁.heap.Ns mainGlobals mg) (hb : s₁.heap.Ns builtinsNs mb)
    (hbb : ∀ y : Str, y ≠ "__name__" → mb y = bootBuiltins y) (hlim : s₁.heap.NoLimit) (hg : s₁.gens = #[])
    (ha : s₁.heap.get? a = some { cls := .type "list", data := .seq vs.toArray }) (hi : IntsAre vs ns) (hl : ns.length ≤ sizeLine) (hr : Room k callerA)
    (F : ∀ base : Heap, K.In base → base.Ns mainGlobals mg → FnG P w K mg base CX0 k fa fd [x] sp)
    (hbind : ∀ (s : Shared) (u : Value), BindsTo s fd ⟨[u], []⟩ [(x, u)])
    (hsp : ∀ H : Hp, Only H → SqL K H a (ns.map V.int) → sp [.ref a] H (fun v _ => v = .bl true) fun _ _ _ => False) :
    codeAny (model P w) callerA (.call (.ref fa) ⟨[.ref a], []⟩) (AllTrue s₁) s₁ := by
  have rv := vals_ints hi
  have lz : (ns.map V.int).length ≤ sizeLine := by rw [List.length_map]; exact hl
  cases hk : K.lookup a with
  | some o =>
    have e : o = _ := Option.some.inj ((KX a o hk).symm.trans ha)
    have hO : Only (fun _ => none) := fun _ => Or.inl rfl
    refine core_of (H := fun _ => none) KX hns hb hbb hlim hg ha hr F hbind hO (hsp _ hO ?_) (fun _ _ z => by cases z) (fun _ _ z => by cases z) (fun _ z => by cases z)
    refine Or.inr ⟨o, vs.toArray, 0, hk, ?_, ?_, ?_, ?_, ?_⟩
    · rw [e]
    · rw [e]
    · rw [e]
    · rw [List.size_toArray, hi.length]; exact hl
    · simpa using rv
  | none =>
    let ob : Obj := { cls := .type "list", data := .seq vs.toArray }
    let Hs : Hp := upd (fun _ => none) a (.frz ob (.lst (ns.map V.int)))
    have hO : Only Hs := fun b => by
      by_cases z : b = a
      · subst z
        exact Or.inr ⟨ob, _, upd_same⟩
      · exact Or.inl (upd_ne z)
    have only : ∀ b u, Hs b = some u → b = a ∧ u = .frz ob (.lst (ns.map V.int)) := fun b u q => by
      by_cases z : b = a
      · subst z
        rw [show Hs b = _ from upd_same] at q
        exact ⟨rfl, (Option.some.inj q).symm⟩
      · rw [show Hs b = _ from upd_ne z] at q
        cases q
    refine core_of (H := Hs) KX hns hb hbb hlim hg ha hr F hbind hO (hsp _ hO (Or.inl (Or.inr ⟨ob, upd_same⟩))) (fun b u q => ?_) (fun b u q => (only b u q).1) (fun _ _ => hk)
    obtain ⟨rfl, rfl⟩ := only b u q
    exact ⟨ha, lz, vs, 0, rv, ha⟩
end

theorem walk_ofG {l : PySem.W.OpenLaw} {n k : Nat} {q : Program} {loose : List Str} {XP : (Str → Option Value) → Heap → Prop} {YP : World → Heap → Prop}
    {d : DefRec} {K : Params → PySem.W.Frag} {sp : World → Sp} {x : Str}
    (hn : l.most = some n) (hn2 : n ≤ sizeLine) (hdf : d.params.defaults = []) (hr : Room k callerA)
    (hY : ∀ (w : World) (h : Heap), YP w h → (K w.params).In h)
    (F : ∀ (w : World) (mg : Str → Option Value) (fa : Addr) (h : Heap), (K w.params).In h → h.Ns mainGlobals mg → mg d.name = some (.ref fa) →
      ∃ fd : FuncData, (∀ (s : Shared) (u : Value), BindsTo s fd ⟨[u], []⟩ [(x, u)]) ∧
        ∀ base : Heap, (K w.params).In base → base.Ns mainGlobals mg → FnG l.prog w (K w.params) mg base CX0 k fa fd [x] (sp w))
    (hsp : ∀ (w : World) (H : Hp) (a : Addr) (ns : List Int), ns.length ≤ n → Only H → SqL (K w.params) H a (ns.map V.int) →
      sp w [.ref a] H (fun v _ => v = .bl true) fun _ _ _ => False) :
    PySem.W.WalkO q loose XP YP l.row.toRowW d [] (fun f vs => PySem.call f vs) := by
  refine Att.attach_call hn hdf ?_
  intro w s₀ s₁ mg mb fa o pm cd doc a vs ns G Y ho hd hcd hmg hobj hints hlen hg
  have KX := hY w _ Y
  obtain ⟨fd, hb, hF⟩ := F w mg fa _ KX G.T.g hmg
  exact law_goG KX G.T.g G.T.b G.T.builtins G.T.nolimit hg hobj hints (Nat.le_trans hlen hn2) hr hF hb fun H hO hS => hsp w H a ns hlen hO hS
end PK
namespace PK
open PySem PySem.Spec PyProof.Rows L2
section
open PySem.SeqAt
open PySem.AutoSeq1 (wpAny_loadPart')
open PySem.MeetsSeq PySem.MeetsSeq2 PySem.MeetsSeq3

theorem extend_tup (l b : Addr) (xs ys : Array Value) (n m : Nat) (dd : Option Addr) (sl : Array (Option Value))
    (h0 : ¬(!xs.isEmpty && Builtin.List.listTooLong (xs.size + ys.size)) = true) (h1 : xs.size ≤ sizeLine) (h2 : xs.size + ys.size ≤ sizeLine + 1) :
    Meets (Builtin.«list.extend» ⟨[.ref l, .ref b], []⟩)
      (fun _ R s => s.heap.get? l = some { cls := .type "list", dict := none, data := .seq xs n, slots := #[] } ∧
        s.heap.get? b = some { cls := .type "tuple", dict := dd, data := .seq ys m, slots := sl } ∧
        R (.ok (.ret Value.none)) { s with heap := s.heap.update l (Obj.mapSeq fun x => x ++ ys), toks := s.toks }) :=
  .of_wp fun prog w A R s h => by
    obtain ⟨hp, g, d, tk, os⟩ := s
    obtain ⟨hl, hb, h⟩ := h
    have f1 := AutoSeq1.idx_int
    have f2 := AutoSeq1.sub_tuple_tuple
    have f3 := AutoSeq1.sub_list_list
    have f4 := AutoSeq1.sub_tuple_list
    have f5 := AutoSeq1.sub_list_tuple
    have hz : (xs ++ ys).size ≤ sizeLine + 1 := by
      rw [Array.size_append]
      exact h2
    wp_walk using (wpAny_updateSeq hl rfl (hz := h1) (_hz' := hz)), wpAny_loadPart' hl, wpAny_loadPart' hb
    exact ⟨_, rfl, h⟩
end

section
variable {X : Cx}
/-- xs.extend(t), t a tuple -/
def rExtT (K : PySem.W.Frag) : V → List V → Hp → VK → Prop := fun x vs H Q => ∃ l b xs zs, x = .ref l ∧ vs = [.ref b] ∧ H l = some (.lst xs) ∧
  SqT K H b zs ∧ xs.length + zs.length ≤ sizeLine ∧ Q .non (upd H l (.lst (xs ++ zs)))
theorem mt_extT : MtM X "list.extend" (rExtT X.K) := by
  intro pins s σ H x vs v us Q I rx rv h
  obtain ⟨l, b, xs, zs, rfl, rfl, hH, hB, hz, q⟩ := h
  cases rx
  obtain ⟨u, rfl, ru⟩ := rv.one
  cases ru
  obtain ⟨z, its, n, r, hl, e⟩ := I.lstM hH
  obtain ⟨ys, ry, ⟨⟨cls, dd, data, sl⟩, ho, hc, m, hd⟩, zy⟩ := I.tuple hB
  simp only at hc hd
  subst hc hd
  have l1 := r.length
  have l2 := ry.length
  have hsz : its.toArray.size + ys.toArray.size ≤ sizeLine := by
    rw [List.size_toArray, List.size_toArray]
    omega
  have hlong : ¬ (!its.toArray.isEmpty && Builtin.List.listTooLong (its.toArray.size + ys.toArray.size)) = true := by
    rw [notLongL hsz, Bool.and_false]
    exact Bool.false_ne_true
  refine call_meets PySem.F.slot_list_extend ⟨_, e, rfl⟩ PySem.F.entry_list_extend (PySem.F.args_list_extend_2 _ _)
    (extend_tup l b its.toArray ys.toArray n m dd sl hlong (by rw [List.size_toArray]; omega) (by omega)) ⟨e, ho, ?_⟩
  refine ⟨.non, _, I.lset (its' := its ++ ys) hH e (by simp) (r.append ry) ?_, rfl, q⟩
  rw [List.length_append]
  omega
end

/-! ### t[::-1] -/
section
variable {prog : Program} {w : World} {A : Around} {E : Value → Shared → Prop} {s : Shared}
theorem places_rev (n : Nat) : Builtin.Slice.slicePlaces ((n : Int) - 1) (-1) (-1) = n := by
  unfold Builtin.Slice.slicePlaces
  have h1 : ¬ ((-1 : Int) > 0) := by omega
  simp only [h1, if_false]
  by_cases h : (n : Int) - 1 > -1
  · rw [if_pos h]
    have e : ((n : Int) - 1 - -1 - 1) / (- -1) = (n : Int) - 1 := by
      rw [Int.neg_neg, Int.ediv_one]
      omega
    rw [e]
    omega
  · rw [if_neg h]
    omega
theorem fm_congr {α β : Type} {f g : α → Option β} : ∀ {l : List α}, (∀ k ∈ l, f k = g k) → l.filterMap f = l.filterMap g
  | [], _ => rfl
  | x :: l, h => by
    rw [List.filterMap_cons, List.filterMap_cons, h x List.mem_cons_self, fm_congr fun k hk => h k (List.mem_cons_of_mem _ hk)]
theorem range_pick {α : Type} : ∀ l : List α, (List.range l.length).filterMap (fun k => l[k]?) = l
  | [] => rfl
  | a :: l => by
    rw [List.length_cons, List.range_succ_eq_map, List.filterMap_cons, List.filterMap_map]
    have e : ((fun k => (a :: l)[k]?) ∘ Nat.succ) = fun k => l[k]? := by
      funext k
      rfl
    rw [e, range_pick l]
    rfl
theorem pick_rev (xs : Array Value) : ((List.range xs.size).filterMap fun (k : Nat) => xs[(((xs.size : Int) - 1) + (k : Int) * (-1)).toNat]?).toArray = xs.toList.reverse.toArray := by
  congr 1
  have el : xs.size = xs.toList.reverse.length := by simp
  have e1 : ((List.range xs.size).filterMap fun (k : Nat) => xs[(((xs.size : Int) - 1) + (k : Int) * (-1)).toNat]?) = (List.range xs.size).filterMap fun k => xs.toList.reverse[k]? := by
    refine fm_congr fun k hk => ?_
    have hk' := List.mem_range.mp hk
    rw [List.getElem?_reverse (by simpa using hk')]
    have e2 : (((xs.size : Int) - 1) + (k : Int) * (-1)).toNat = xs.toList.length - 1 - k := by
      rw [Array.length_toList]
      omega
    rw [e2, Array.getElem?_toList]
  rw [e1, el]
  exact range_pick _
theorem applied_rev {sl : Addr} {n : Nat} {vl vu vs : Value} {R : Int × Int × Nat → Shared → Prop} (hs : s.heap.IsSliceOf sl vl vu vs)
    (pl : IsPart vl none) (pu : IsPart vu none) (pv : IsPart vs (some (-1))) (hR : R ((n : Int) - 1, -1, n) s) :
    wpAny (model prog w) A (Builtin.Slice.sliceApplied (.ref sl) (pure (n : Int))) R E s := by
  obtain ⟨os, hos, hcs, hds⟩ := id hs
  unfold Builtin.Slice.sliceApplied Builtin.Slice.sliceFields
  refine wpAny_bind (wpAny_bind (wpAny_field hos hds (x := vl) rfl (wpAny_bind (wpAny_field hos hds (x := vu) rfl (wpAny_bind (wpAny_field hos hds (x := vs) rfl (wpAny_pure ?_)))))))
  refine wpAny_bind (HT.slicePart_ pv ?_)
  show wpAny _ _ (if ((-1 : Int) == 0) = true then _ else _) _ _ s
  rw [if_neg (by decide)]
  refine wpAny_bind (HT.slicePart_ pl (wpAny_bind (HT.slicePart_ pu (wpAny_bind (wpAny_pure ?_)))))
  show wpAny _ _ (pure ((n : Int) - 1, (-1 : Int), Builtin.Slice.slicePlaces ((n : Int) - 1) (-1) (-1))) _ _ s
  rw [places_rev]
  exact wpAny_pure hR
theorem getItem_tup_rev {t sl : Addr} {items : Array Value} {vl vu vs : Value} {Q : Value → Shared → Prop} (ht : IsTup s.heap t items)
    (hs : s.heap.IsSliceOf sl vl vu vs) (pl : IsPart vl none) (pu : IsPart vu none) (pv : IsPart vs (some (-1)))
    (h : Q (.ref s.heap.objs.size) { s with heap := s.heap.push { cls := .type "tuple", data := .seq items.toList.reverse.toArray } })
    (hsz : items.size ≤ sizeLine) : wpAny (model prog w) A (getItem (.ref t) (.ref sl)) Q E s := by
  have htake : sizeOk (.seq items.toList.reverse.toArray) := by
    show items.toList.reverse.toArray.size ≤ sizeLine
    rw [List.size_toArray, List.length_reverse, Array.length_toList]
    exact hsz
  obtain ⟨os, hos, hcs, hds⟩ := id hs
  have hTs : s.TypeIs (.ref sl) "slice" := ⟨os, hos, hcs⟩
  unfold getItem
  try with_reducible refine wpAny_holding ?_
  first | refine wpAny_bind (wpAny_pure ?_) | skip
  refine wpAny_bind (wpAny_sequenceKey ht.typeIs (by decide) ?_)
  refine wpAny_bind (wpAny_callSpecial?_slot (name := Str.ofString "__getitem__") ht.typeIs PyProof.Rows.slot_tuple_getitem
    (wpAny_call_entry PyProof.Rows.slot_tuple_getitem ht.typeIs entry_tuple_getitem ?_ (args_tuple_getitem _ _)))
  show wpAny _ _ (Builtin.Tuple.tupleItemsOf (.ref t) >>= _) _ _ s
  refine wpAny_bind (tupleItemsOf_ ht (wpAny_bind (wpAny_typeOf hTs ?_)))
  rw [if_pos (by decide)]
  refine wpAny_bind (applied_rev hs pl pu pv ?_)
  have hno : ¬ ((((items.size : Int) - 1) == 0 && (-1 : Int) == 1 && items.size == items.size) = true) := by
    intro q
    rw [Bool.and_eq_true, Bool.and_eq_true] at q
    exact absurd q.1.2 (by decide)
  show wpAny _ _ (if (((items.size : Int) - 1) == 0 && (-1 : Int) == 1 && items.size == items.size) = true then _ else _) _ _ s
  rw [if_neg hno, pick_rev]
  first
    | exact wpAny_bind (m := Builtin.Tuple.tupleExact _) (wpAny_newObj_type (wpAny_pure ⟨_, rfl, wpAny_pure h⟩) htake)
    | exact wpAny_bind (wpAny_bind (m := Builtin.Tuple.tupleExact _) (wpAny_newObj_type (wpAny_pure ⟨_, rfl, wpAny_pure h⟩) htake))
end
section
variable {X : Cx}
def tRevT (K : PySem.W.Frag) (te : TE) : TE := fun σ H Q => te σ H fun x H1 => ∃ a xs, x = .ref a ∧ SqT K H1 a xs ∧
  ∀ p, H1 p = none → Q (.ref p) (upd H1 p (.tup xs.reverse))
theorem pe_revT {e : Expr} {te : TE} {k : Nat} {p1 p2 p3 pos : Pos} (he : PE X e te) :
    PE X (.Subscript e (.Slice none none (some (.UnaryOp .USub (.Constant (.int 1) k p1) p2)) p3) pos) (tRevT X.K te) := by
  refine ⟨fun pins s σ H Q I h => Subscript_ (thn (he.run pins s σ H _ I h) ?_)⟩
  rintro v s1 ⟨x, H1, I1, r1, a, xs, rfl, hx, q⟩
  cases r1
  have hst : PO X (some (.UnaryOp .USub (.Constant (.int 1) k p1) p2)) (tPart (tUn (rU fun i => .int (-i)) (tC (.int 1)))) := po_some (pe_un un_neg pe_int)
  refine wpAny_Slice (thn (po_none.run pins s1 σ H1 (fun o H' => o = none ∧ H' = H1) I1 ⟨rfl, rfl⟩) ?_)
  rintro vl s2 ⟨l, H2, I2, pl, rfl, rfl⟩
  refine thn (po_none.run pins s2 σ H2 (fun o H' => o = none ∧ H' = H2) I2 ⟨rfl, rfl⟩) ?_
  rintro vu s3 ⟨u, H3, I3, pu, rfl, rfl⟩
  refine thn (hst.run pins s3 σ H3 (fun o H' => o = some (-1) ∧ H' = H3) I3 ⟨1, rfl, -1, rfl, rfl, rfl⟩) ?_
  rintro vs s4 ⟨o, H4, I4, ps, rfl, rfl⟩
  have I5 : Inv X pins σ H4 { s4 with heap := s4.heap.push { cls := .type "slice", data := .fields #[vl, vu, vs] } } :=
    I4.kept (t' := s4.toks) fun b ob q => Heap.get?_push_of_some _ q
  obtain ⟨its, r, ht, hz⟩ := I5.tuple hx
  have hlen := r.length
  show wpAny (model X.prog X.w) X.A (subscriptTail e _ (.ref a) (.ref s4.heap.objs.size)) _ _ _
  refine tail_any (ops := [.ref a, .ref s4.heap.objs.size]) ht.typeIs (PyProof.Rows.slot_tuple_getitem.lookup) ?_ (by with_unfolding_all rfl)
  refine getItem_tup_rev ht (Heap.IsSliceOf.new _ vl vu vs) pl pu ps ?_ (by rw [List.size_toArray]; omega)
  refine ⟨.ref _, _, I5.laid (t' := s4.toks) (o := .tup xs.reverse) (fun b ob q => Heap.get?_push_of_some _ q) (Nat.le_refl _) ?_, rfl, q _ (I5.hok.fresh (Nat.le_refl _))⟩
  refine ⟨by rw [List.length_reverse]; exact hz, its.reverse, r.reverse, ⟨_, Heap.get?_push_size _ rfl, rfl, 0, rfl⟩⟩
end

/-! ### xs != [], xs == [] -/
section
open PySem.SeqAt
open PySem.AutoSeq1 (wpAny_loadPart')
open PySem.MeetsSeq PySem.MeetsSeq2 PySem.MeetsSeq3
theorem list_ne_sizes (l b : Addr) (xs ys : Array Value) (n m : Nat) (sl sl2 : Array (Option Value)) (hc : (xs.size != ys.size) = true) :
    Meets (Builtin.«list.__ne__» ⟨[.ref l, .ref b], []⟩)
      (fun _ R s => s.heap.get? l = some { cls := .type "list", dict := none, data := .seq xs n, slots := sl } ∧
        s.heap.get? b = some { cls := .type "list", dict := none, data := .seq ys m, slots := sl2 } ∧ R (.ok (.ret (.bool true))) s) :=
  .of_wp fun prog w A R s h => by
    obtain ⟨hp, g, d, tk, os⟩ := s
    obtain ⟨hl, hb, h⟩ := h
    have f3 := AutoSeq1.sub_list_list
    wp_walk using wpAny_loadPart' hl, wpAny_loadPart' hb
    exact ⟨_, rfl, h⟩
theorem list_eq_sizes (l b : Addr) (xs ys : Array Value) (n m : Nat) (sl sl2 : Array (Option Value)) (hc : (xs.size != ys.size) = true) :
    Meets (Builtin.«list.__eq__» ⟨[.ref l, .ref b], []⟩)
      (fun _ R s => s.heap.get? l = some { cls := .type "list", dict := none, data := .seq xs n, slots := sl } ∧
        s.heap.get? b = some { cls := .type "list", dict := none, data := .seq ys m, slots := sl2 } ∧ R (.ok (.ret (.bool false))) s) :=
  .of_wp fun prog w A R s h => by
    obtain ⟨hp, g, d, tk, os⟩ := s
    obtain ⟨hl, hb, h⟩ := h
    have f3 := AutoSeq1.sub_list_list
    wp_walk using wpAny_loadPart' hl, wpAny_loadPart' hb
    exact ⟨_, rfl, h⟩
end
section
variable {X : Cx}
def rNeNil (K : PySem.W.Frag) : R2 := fun x y H Q => ∃ a b xs, x = .ref a ∧ y = .ref b ∧ SqL K H a xs ∧ SqL K H b [] ∧ Q (.bl (!xs.isEmpty)) H
def rEqNil (K : PySem.W.Frag) : R2 := fun x y H Q => ∃ a b xs, x = .ref a ∧ y = .ref b ∧ SqL K H a xs ∧ SqL K H b [] ∧ Q (.bl xs.isEmpty) H
theorem op_neNil {k : Nat} (hr : Room k X.A) : OpR X (compareOp .NotEq) (rNeNil X.K) := by
  intro pins s σ H x y v u Q I rx ry h
  obtain ⟨a, b, xs, rfl, rfl, ha, hb, q⟩ := h
  cases xs with
  | nil => exact op_neD hr.units pins s σ H _ _ v u Q I rx ry ⟨.list [], .list [], .lst ha .nil, .lst hb .nil, rfl, rfl, q⟩
  | cons z zs =>
    cases rx
    cases ry
    obtain ⟨its, r, ⟨⟨cls, dd, data, sl⟩, n, ho, hc, hdd, hd⟩, _⟩ := I.list ha
    obtain ⟨jts, r2, ⟨⟨cls2, dd2, data2, sl2⟩, n2, ho2, hc2, hdd2, hd2⟩, _⟩ := I.list hb
    simp only at hc hd hdd hc2 hd2 hdd2
    subst hc hd hdd hc2 hd2 hdd2
    cases r2
    have hz : (its.toArray.size != ([] : List Value).toArray.size) = true := by
      rw [List.size_toArray, ← r.length]
      rfl
    exact richCompare_meets_room (op := .NotEq) ⟨_, ho, rfl⟩ ⟨_, ho2, rfl⟩ PySem.F.slot_list_ne PySem.F.entry_list_ne (PySem.F.args_list_ne_2 _ _)
      (list_ne_sizes a b its.toArray ([] : List Value).toArray n n2 sl sl2 hz) ⟨ho, ho2, (fun z => nomatch z), ⟨.bl true, H, I, rfl, q⟩⟩ hr.units0
theorem op_eqNil {k : Nat} (hr : Room k X.A) : OpR X (compareOp .Eq) (rEqNil X.K) := by
  intro pins s σ H x y v u Q I rx ry h
  obtain ⟨a, b, xs, rfl, rfl, ha, hb, q⟩ := h
  cases xs with
  | nil => exact op_eqD hr.units pins s σ H _ _ v u Q I rx ry ⟨.list [], .list [], .lst ha .nil, .lst hb .nil, rfl, rfl, q⟩
  | cons z zs =>
    cases rx
    cases ry
    obtain ⟨its, r, ⟨⟨cls, dd, data, sl⟩, n, ho, hc, hdd, hd⟩, _⟩ := I.list ha
    obtain ⟨jts, r2, ⟨⟨cls2, dd2, data2, sl2⟩, n2, ho2, hc2, hdd2, hd2⟩, _⟩ := I.list hb
    simp only at hc hd hdd hc2 hd2 hdd2
    subst hc hd hdd hc2 hd2 hdd2
    cases r2
    have hz : (its.toArray.size != ([] : List Value).toArray.size) = true := by
      rw [List.size_toArray, ← r.length]
      rfl
    exact richCompare_meets_room (op := .Eq) ⟨_, ho, rfl⟩ ⟨_, ho2, rfl⟩ PySem.F.slot_list_eq PySem.F.entry_list_eq (PySem.F.args_list_eq_2 _ _)
      (list_eq_sizes a b its.toArray ([] : List Value).toArray n n2 sl sl2 hz) ⟨ho, ho2, (fun z => nomatch z), ⟨.bl false, H, I, rfl, q⟩⟩ hr.units0
end
end PK
namespace PK
open PySem PySem.Spec PyProof.Rows L2

/-- a def that may be called: its promise, its name, how its arguments come -/
structure Cal (P : Program) (w : World) (K : PySem.W.Frag) (mg : Str → Option Value) (base : Heap) (k : Nat) (x : Str) (f : Addr)
    (fd : FuncData) (ps : List Str) (sp : Sp) : Prop where
  ok : FnOk P w K mg base CX0 k f fd ps sp
  g : mg x = some (.ref f)
  kp : PySem.W.keepIn K (.ref f) = true
  b : Binds K fd ps []
structure CalG (P : Program) (w : World) (K : PySem.W.Frag) (mg : Str → Option Value) (base : Heap) (k : Nat) (x : Str) (f : Addr)
    (fd : FuncData) (ps : List Str) (sp : Sp) : Prop where
  ok : FnG P w K mg base CX0 k f fd ps sp
  g : mg x = some (.ref f)
  kp : PySem.W.keepIn K (.ref f) = true
  b : Binds K fd ps []

/-! ### the heap but for one object -/
/-- all that was tracked, but the object at a, is as it was -/
def Ext (a : Addr) (H H' : Hp) : Prop := ∀ b o, H b = some o → b ≠ a → H' b = some o
theorem Ext.refl (a : Addr) (H : Hp) : Ext a H H := fun _ _ h _ => h
theorem Ext.trans {a : Addr} {H H1 H2 : Hp} (x : Ext a H H1) (y : Ext a H1 H2) : Ext a H H2 := fun b o h n => y b o (x b o h n) n
theorem Ext.of {a : Addr} {H H' : Hp} (x : Same H H') : Ext a H H' := fun b o h _ => x b o h
theorem Ext.new {a p : Addr} {H H1 : Hp} {o : HO} (x : Ext a H H1) (np : H1 p = none) : Ext a H (upd H1 p o) := fun b u h n => by
  have h1 := x b u h n
  rw [upd_ne (ne_of_none h1 np)]
  exact h1
theorem Ext.at {a : Addr} {H H1 : Hp} {o : HO} (x : Ext a H H1) : Ext a H (upd H1 a o) := fun b u h n => by
  rw [upd_ne n]
  exact x b u h n
/-- a new object of ours changes -/
theorem Ext.own {a p : Addr} {H H1 : Hp} {o : HO} (x : Ext a H H1) (np : H p = none) : Ext a H (upd H1 p o) := fun b u h n => by
  rw [upd_ne (ne_of_none h np)]
  exact x b u h n
theorem Ext.free {a p : Addr} {H H1 : Hp} (x : Ext a H H1) (np : H1 p = none) (ne : p ≠ a) : H p = none := by
  cases q : H p with
  | none => rfl
  | some o =>
    rw [x p o q ne] at np
    cases np
theorem same_new {H H1 : Hp} {p : Addr} {o : HO} (x : Same H H1) (np : H1 p = none) : Same H (upd H1 p o) := fun b u h => by
  have h1 := x b u h
  rw [upd_ne (ne_of_none h1 np)]
  exact h1
theorem same_own {H H1 : Hp} {p : Addr} {o : HO} (x : Same H H1) (np : H p = none) : Same H (upd H1 p o) := fun b u h => by
  rw [upd_ne (ne_of_none h np)]
  exact x b u h

/-! ### what the law draws from -/
abbrev kC : Key := Sum.inr "cells"
abbrev kA : Key := Sum.inr "at"
abbrev kL : Key := Sum.inr "left"
abbrev kN : Key := Sum.inr "count"
def feed (c : Addr) (i l n : Int) : List (Key × V) := [(kC, .ref c), (kA, .int i), (kL, .int l), (kN, .int n)]
theorem feed_cells (c : Addr) (i l n : Int) : valV (feed c i l n) kC = some (.ref c) := rfl
theorem feed_at (c : Addr) (i l n : Int) : valV (feed c i l n) kA = some (.int i) := rfl
theorem feed_left (c : Addr) (i l n : Int) : valV (feed c i l n) kL = some (.int l) := rfl
theorem feed_count (c : Addr) (i l n : Int) : valV (feed c i l n) kN = some (.int n) := rfl
theorem feed_putA (c : Addr) (i l n j : Int) : putK (feed c i l n) kA (.int j) = feed c j l n := rfl
theorem feed_putL (c : Addr) (i l n j : Int) : putK (feed c i l n) kL (.int j) = feed c i j n := rfl
theorem feed_putN (c : Addr) (i l n j : Int) : putK (feed c i l n) kN (.int j) = feed c i l j := rfl
theorem feed_len (c : Addr) (i l n : Int) : (feed c i l n).length < sizeLine := by
  show 4 < sizeLine
  decide
theorem feed_merge (c : Addr) (i l n : Int) : mergeK [] (feed c i l n) = feed c i l n := rfl
/-- the feed at a: cells, all of them ints, and three numbers -/
structure Feed (H : Hp) (a : Addr) (c : Addr) (cs : List Int) (i l n : Int) : Prop where
  d : H a = some (.dK (feed c i l n))
  l : H c = some (.lst (cs.map V.int))
  i0 : 0 ≤ i
theorem Feed.ne {H : Hp} {a c : Addr} {cs : List Int} {i l n : Int} (f : Feed H a c cs i l n) : c ≠ a := ne_of f.l f.d (by intro z; cases z)
def IsFeed (H : Hp) (a c : Addr) : Prop := ∃ cs i l n, Feed H a c cs i l n
theorem Feed.new {H : Hp} {a c p : Addr} {cs : List Int} {i l n : Int} {o : HO} (f : Feed H a c cs i l n) (np : H p = none) : Feed (upd H p o) a c cs i l n :=
  ⟨by rw [upd_ne (ne_of_none f.d np)]; exact f.d, by rw [upd_ne (ne_of_none f.l np)]; exact f.l, f.i0⟩
theorem Feed.put {H : Hp} {a c : Addr} {cs : List Int} {i l n i' l' n' : Int} (f : Feed H a c cs i l n) (h : 0 ≤ i') : Feed (upd H a (.dK (feed c i' l' n'))) a c cs i' l' n' :=
  ⟨upd_same, by rw [upd_ne f.ne]; exact f.l, h⟩
theorem IsFeed.new {H : Hp} {a c p : Addr} {o : HO} (f : IsFeed H a c) (np : H p = none) : IsFeed (upd H p o) a c := by
  obtain ⟨cs, i, l, n, f⟩ := f
  exact ⟨cs, i, l, n, f.new np⟩
theorem IsFeed.keep {H H' : Hp} {a c : Addr} (f : IsFeed H a c) (h : Same H H') : IsFeed H' a c := by
  obtain ⟨cs, i, l, n, f⟩ := f
  exact ⟨cs, i, l, n, h _ _ f.d, h _ _ f.l, f.i0⟩
theorem IsFeed.some {H : Hp} {a c : Addr} (f : IsFeed H a c) : ∃ o, H a = some o := by
  obtain ⟨cs, i, l, n, f⟩ := f
  exact ⟨_, f.d⟩
theorem IsFeed.ne {H : Hp} {a c p : Addr} (f : IsFeed H a c) (np : H p = none) : p ≠ a ∧ p ≠ c := by
  obtain ⟨cs, i, l, n, f⟩ := f
  exact ⟨(ne_of_none f.d np).symm, (ne_of_none f.l np).symm⟩
/-- an object of ours that is neither the feed nor its cells changes -/
theorem IsFeed.own {H : Hp} {a c p : Addr} {o : HO} (f : IsFeed H a c) (h : p ≠ a ∧ p ≠ c) : IsFeed (upd H p o) a c := by
  obtain ⟨cs, i, l, n, f⟩ := f
  exact ⟨cs, i, l, n, by rw [upd_ne h.1.symm]; exact f.d, by rw [upd_ne h.2.symm]; exact f.l, f.i0⟩

/-- a draw: any number below the second -/
def spDraw : Sp := fun vs H Q _ => ∃ (a c : Addr) (m : Int), vs = [.ref a, .int m] ∧ IsFeed H a c ∧ 0 < m ∧ m ≤ 1000000 ∧
  ∀ (r : Int) (H' : Hp), 0 ≤ r → r < m → Ext a H H' → IsFeed H' a c → Q (.int r) H'

/-- the else of an if, said once -/
theorem if_else {tc : TT} {u v : TS} {D : Ends} {σ : L2.St} {H : Hp} (R : Hp → Prop) (hv : ∀ H', R H' → v D σ H')
    (h : (∀ H', R H' → v D σ H') → tIfS tc u v D σ H) : tIfS tc u v D σ H := h hv
end PK
namespace PK
open PySem PySem.Spec PyProof.Rows L2
/-- a small letter; a word: one to eight of them -/
def Lw (c : Nat) : Prop := 97 ≤ c ∧ c ≤ 122
structure Word (y : Str) : Prop where
  one : 1 ≤ y.length
  eight : y.length ≤ 8
  low : ∀ c ∈ y.cps.toList, Lw c
abbrev abc : Str := "abcdefghijklmnopqrstuvwxyz"
theorem abc_list : abc.cps.toList = List.range' 97 26 := by decide +kernel
theorem abc_len : abc.length ≤ sizeLine := by decide +kernel
theorem abc_at {i : Int} (h0 : 0 ≤ i) (h1 : i < 26) : ∃ c, atI abc.cps.toList i = some c ∧ Lw c := by
  refine ⟨97 + i.toNat, ?_, by omega, by omega⟩
  rw [abc_list]
  obtain ⟨n, rfl⟩ := Int.eq_ofNat_of_zero_le h0
  refine atI_nat ?_
  rw [Int.toNat_natCast, List.getElem?_range' (by omega)]
  rw [Nat.one_mul]
theorem len_one (c : Nat) : (⟨#[c]⟩ : Str).length = 1 := rfl
theorem word_one {c : Nat} (h : Lw c) : Word ⟨#[c]⟩ := ⟨Nat.le_refl 1, by rw [len_one]; omega, fun d hd => by
  have e : d = c := by simpa using hd
  rw [e]; exact h⟩
/-- a sign behind a word -/
theorem word_snoc {y : Str} {c : Nat} (h : Word y) (h8 : y.length < 8) (hc : Lw c) : Word (y ++ ⟨#[c]⟩) := by
  refine ⟨?_, ?_, fun d hd => ?_⟩
  · rw [strLen_append, len_one]; omega
  · rw [strLen_append, len_one]; omega
  · rw [mem_cps_append] at hd
    rcases hd with z | z
    · exact h.low d z
    · have e : d = c := by simpa using z
      rw [e]; exact hc
/-- a sign, and up to seven behind it -/
theorem word_join {c : Nat} {l : List Nat} (hc : Lw c) (hl : l.length ≤ 7) (h : ∀ d ∈ l, Lw d) : Word (⟨#[c]⟩ ++ Txt.join ⟨#[]⟩ (l.map fun k => (⟨#[k]⟩ : Str))) := by
  rw [TL.join_eq, join_ones]
  have e : (⟨l.toArray⟩ : Str).length = l.length := by simp [Str.length]
  refine ⟨?_, ?_, fun d hd => ?_⟩
  · rw [strLen_append, len_one]; omega
  · rw [strLen_append, len_one, e]; omega
  · rw [mem_cps_append] at hd
    rcases hd with z | z
    · have e : d = c := by simpa using z
      rw [e]; exact hc
    · exact h d (by simpa using z)

/-- so many words, a new list -/
def spNames : Sp := fun vs H Q _ => ∃ (a c : Addr) (m : Int), vs = [.ref a, .int m] ∧ IsFeed H a c ∧ 1 ≤ m ∧ m ≤ 8 ∧
  ∀ (p : Addr) (H' : Hp) (ws : List Str), H p = none → Ext a H H' → IsFeed H' a c → H' p = some (.lst (ws.map V.str)) → (ws.length : Int) = m →
    (∀ y ∈ ws, Word y) → Q (.ref p) H'
theorem strs_at {ws : List Str} {i : Nat} (h : i < ws.length) : (ws.map V.str)[i]? = some (.str ws[i]) := by
  rw [List.getElem?_map, List.getElem?_eq_getElem h]
  rfl
theorem strs_last {ws : List Str} (h : ws ≠ []) : atI (ws.map V.str) (-1) = some (.str (ws.getLast h)) := by
  have e : ws.map V.str = ws.dropLast.map V.str ++ [.str (ws.getLast h)] := by
    rw [← List.map_singleton (f := V.str), ← List.map_append, List.dropLast_concat_getLast]
  rw [e]
  exact atI_last _ _
end PK
namespace PK
open PySem PySem.Spec PyProof.Rows L2
/-- how many: from one to a thousand millions -/
def spMany : Sp := fun vs H Q _ => ∃ (a c : Addr), vs = [.ref a] ∧ IsFeed H a c ∧
  ∀ (r : Int) (H' : Hp), 1 ≤ r → r ≤ 1000000000 → Ext a H H' → IsFeed H' a c → Q (.int r) H'
end PK
namespace PK
open PySem PySem.Spec PyProof.Rows L2

/-! ### what never changes: tuples -/
def Tk : HO → Prop
  | .tup _ => True
  | .frz _ _ => True
  | _ => False
/-- the tuples (and what is locked) stay -/
def TKeep (H H' : Hp) : Prop := ∀ b u, Tk u → H b = some u → H' b = some u
theorem TKeep.refl (H : Hp) : TKeep H H := fun _ _ _ h => h
theorem TKeep.trans {H H1 H2 : Hp} (x : TKeep H H1) (y : TKeep H1 H2) : TKeep H H2 := fun b u t h => y b u t (x b u t h)
theorem TKeep.of {H H' : Hp} (x : Same H H') : TKeep H H' := fun b u _ h => x b u h
theorem TKeep.new {H : Hp} {p : Addr} {o : HO} (np : H p = none) : TKeep H (upd H p o) := fun b u _ h => by
  rw [upd_ne (ne_of_none h np)]
  exact h
theorem TKeep.lst {H : Hp} {p : Addr} {xs : List V} {o : HO} (hp : H p = some (.lst xs)) : TKeep H (upd H p o) := fun b u t h => by
  rw [upd_ne (ne_of h hp (by rintro rfl; exact t))]
  exact h
theorem TKeep.ext {H H' : Hp} {a : Addr} {kv : List (Key × V)} (ha : H a = some (.dK kv)) (x : Ext a H H') : TKeep H H' := fun b u t h =>
  x b u h (ne_of h ha (by rintro rfl; exact t))
theorem TKeep.feed {H H' : Hp} {a c : Addr} (f : IsFeed H a c) (x : Ext a H H') : TKeep H H' := by
  obtain ⟨cs, i, l, n, f⟩ := f
  exact TKeep.ext f.d x
theorem TKeep.sq {K : PySem.W.Frag} {H H' : Hp} {b : Addr} {xs : List V} (x : TKeep H H') (h : SqT K H b xs) : SqT K H' b xs := by
  rcases h with (h | ⟨o, h⟩) | h
  · exact Or.inl (Or.inl (x _ _ trivial h))
  · exact Or.inl (Or.inr ⟨o, x _ _ trivial h⟩)
  · exact Or.inr h
mutual
/-- data without lists and dicts -/
def flatT : PyData → Bool
  | .none | .bool _ | .int _ | .str _ => true
  | .tuple xs => flatTs xs
  | _ => false
def flatTs : List PyData → Bool
  | [] => true
  | x :: xs => flatT x && flatTs xs
end
mutual
theorem Dp.keepT {K : PySem.W.Frag} {H H' : Hp} (x : TKeep H H') : ∀ {d : PyData} {v : V}, flatT d = true → Dp K H v d → Dp K H' v d
  | .none, _, _, .non => .non
  | .bool _, _, _, .bl b => .bl b
  | .int _, _, _, .int i => .int i
  | .str _, _, _, .str y => .str y
  | .list _, _, h, _ => by simp [flatT] at h
  | .dict _, _, h, _ => by simp [flatT] at h
  | .tuple ds, _, h, .tup hs ha => .tup (x.sq hs) (DpAll.keepT x (by simpa [flatT] using h) ha)
theorem DpAll.keepT {K : PySem.W.Frag} {H H' : Hp} (x : TKeep H H') : ∀ {ds : List PyData} {vs : List V}, flatTs ds = true → DpAll K H vs ds → DpAll K H' vs ds
  | [], _, _, .nil => .nil
  | d :: ds, _, h, .cons h1 h2 => by
    have h' : flatT d = true ∧ flatTs ds = true := by simpa [flatTs] using h
    exact .cons (Dp.keepT x h'.1 h1) (DpAll.keepT x h'.2 h2)
end
mutual
theorem Dp.same {K : PySem.W.Frag} {H H' : Hp} (x : Same H H') : ∀ {d : PyData} {v : V}, Dp K H v d → Dp K H' v d
  | .none, _, .non => .non
  | .bool _, _, .bl b => .bl b
  | .int _, _, .int i => .int i
  | .str _, _, .str y => .str y
  | .list ds, _, .lst hs ha => .lst (x.seq hs) (DpAll.same x ha)
  | .tuple ds, _, .tup hs ha => .tup ((TKeep.of x).sq hs) (DpAll.same x ha)
theorem DpAll.same {K : PySem.W.Frag} {H H' : Hp} (x : Same H H') : ∀ {ds : List PyData} {vs : List V}, DpAll K H vs ds → DpAll K H' vs ds
  | [], _, .nil => .nil
  | d :: ds, _, .cons h1 h2 => .cons (Dp.same x h1) (DpAll.same x h2)
end
theorem DpAll.len {K : PySem.W.Frag} {H : Hp} : ∀ {vs : List V} {ds : List PyData}, DpAll K H vs ds → vs.length = ds.length
  | _, _, .nil => rfl
  | _, _, .cons _ h => by rw [List.length_cons, List.length_cons, DpAll.len h]
theorem DpAll.snoc {K : PySem.W.Frag} {H : Hp} {v : V} {d : PyData} (h : Dp K H v d) : ∀ {vs : List V} {ds : List PyData}, DpAll K H vs ds → DpAll K H (vs ++ [v]) (ds ++ [d])
  | _, _, .nil => .cons h .nil
  | _, _, .cons h1 h2 => .cons h1 (DpAll.snoc h h2)
theorem DpAll.app {K : PySem.W.Frag} {H : Hp} : ∀ {vs us : List V} {ds es : List PyData}, DpAll K H vs ds → DpAll K H us es → DpAll K H (vs ++ us) (ds ++ es)
  | _, _, _, _, .nil, h => h
  | _, _, _, _, .cons h1 h2, h => .cons h1 (DpAll.app h2 h)
theorem DpAll.get {K : PySem.W.Frag} {H : Hp} : ∀ {vs : List V} {ds : List PyData} {i : Nat} {d : PyData}, DpAll K H vs ds → ds[i]? = some d → ∃ v, vs[i]? = some v ∧ Dp K H v d
  | _, _, _, _, .nil, h => by simp at h
  | _, _, 0, _, .cons h1 _, h => ⟨_, rfl, by
    have e := Option.some.inj h
    rw [← e]; exact h1⟩
  | _, _, i + 1, _, .cons _ h2, h => by
    obtain ⟨v, e, r⟩ := DpAll.get (i := i) h2 (by simpa using h)
    exact ⟨v, by simpa using e, r⟩
theorem DpAll.getV {K : PySem.W.Frag} {H : Hp} : ∀ {vs : List V} {ds : List PyData} {i : Nat} {v : V}, DpAll K H vs ds → vs[i]? = some v → ∃ d, ds[i]? = some d ∧ Dp K H v d
  | _, _, _, _, .nil, h => by simp at h
  | _, _, 0, _, .cons h1 _, h => ⟨_, rfl, by
    have e := Option.some.inj h
    rw [← e]; exact h1⟩
  | _, _, i + 1, _, .cons _ h2, h => by
    obtain ⟨v, e, r⟩ := DpAll.getV (i := i) h2 (by simpa using h)
    exact ⟨v, by simpa using e, r⟩
theorem DpAll.take {K : PySem.W.Frag} {H : Hp} : ∀ (n : Nat) {vs : List V} {ds : List PyData}, DpAll K H vs ds → DpAll K H (vs.take n) (ds.take n)
  | 0, _, _, _ => .nil
  | _ + 1, _, _, .nil => .nil
  | n + 1, _, _, .cons h1 h2 => .cons h1 (DpAll.take n h2)
theorem DpAll.rev {K : PySem.W.Frag} {H : Hp} : ∀ {vs : List V} {ds : List PyData}, DpAll K H vs ds → DpAll K H vs.reverse ds.reverse
  | _, _, .nil => .nil
  | _, _, .cons h1 h2 => by
    rw [List.reverse_cons, List.reverse_cons]
    exact DpAll.snoc h1 (DpAll.rev h2)
theorem DpAll.ints {K : PySem.W.Frag} {H : Hp} : ∀ ns : List Int, DpAll K H (ns.map V.int) (ns.map PyData.int)
  | [] => .nil
  | n :: ns => .cons (.int n) (DpAll.ints ns)
theorem DpAll.strs {K : PySem.W.Frag} {H : Hp} : ∀ ns : List Str, DpAll K H (ns.map V.str) (ns.map PyData.str)
  | [] => .nil
  | n :: ns => .cons (.str n) (DpAll.strs ns)
theorem DpAll.of_ints {K : PySem.W.Frag} {H : Hp} : ∀ {ns : List Int} {vs : List V}, DpAll K H vs (ns.map PyData.int) → vs = ns.map V.int
  | [], _, .nil => rfl
  | n :: ns, _, .cons (.int _) h => by rw [DpAll.of_ints h]; rfl
theorem DpAll.of_strs {K : PySem.W.Frag} {H : Hp} : ∀ {ns : List Str} {vs : List V}, DpAll K H vs (ns.map PyData.str) → vs = ns.map V.str
  | [], _, .nil => rfl
  | n :: ns, _, .cons (.str _) h => by rw [DpAll.of_strs h]; rfl
theorem Dp.tupE {K : PySem.W.Frag} {H : Hp} {v : V} {ds : List PyData} (h : Dp K H v (.tuple ds)) : ∃ b xs, v = .ref b ∧ SqT K H b xs ∧ DpAll K H xs ds := by
  cases h with
  | tup hs ha => exact ⟨_, _, rfl, hs, ha⟩
theorem Dp.lstE {K : PySem.W.Frag} {H : Hp} {v : V} {ds : List PyData} (h : Dp K H v (.list ds)) : ∃ b xs, v = .ref b ∧ SqL K H b xs ∧ DpAll K H xs ds := by
  cases h with
  | lst hs ha => exact ⟨_, _, rfl, hs, ha⟩

/-! ### what can be shown, how deep and how long it is -/
structure Sh (d : PyData) (dp n : Nat) : Prop where
  ok : d.showable = true
  nd : d.hasDict = false
  dep : d.depth ≤ dp
  len : d.shown.length ≤ n
theorem Sh.mono {d : PyData} {a b n m : Nat} (h : Sh d a n) (h1 : a ≤ b) (h2 : n ≤ m) : Sh d b m := ⟨h.ok, h.nd, Nat.le_trans h.dep h1, Nat.le_trans h.len h2⟩
theorem Sh.all {dp n : Nat} : ∀ {ds : List PyData}, (∀ d ∈ ds, Sh d dp n) → PyData.showableAll ds = true ∧ PyData.hasDictAll ds = false ∧
    PyData.depthAll ds ≤ dp ∧ ((PyData.shownAll ds).map (·.length)).sum ≤ ds.length * n ∧ (PyData.shownAll ds).length = ds.length
  | [], _ => ⟨rfl, rfl, Nat.zero_le _, Nat.zero_le _, rfl⟩
  | d :: ds, h => by
    obtain ⟨h1, h2, h3, h4, h5⟩ := Sh.all (ds := ds) fun e he => h e (List.mem_cons_of_mem _ he)
    have q := h d List.mem_cons_self
    refine ⟨?_, ?_, ?_, ?_, ?_⟩
    · show (d.showable && PyData.showableAll ds) = true
      rw [q.ok, h1]
      rfl
    · show (d.hasDict || PyData.hasDictAll ds) = false
      rw [q.nd, h2]
      rfl
    · show max d.depth (PyData.depthAll ds) ≤ dp
      exact Nat.max_le.mpr ⟨q.dep, h3⟩
    · show (d.shown.length :: ((PyData.shownAll ds).map (·.length))).sum ≤ (d :: ds).length * n
      rw [List.sum_cons, List.length_cons, Nat.succ_mul]
      have := q.len
      omega
    · show (PyData.shownAll ds).length + 1 = ds.length + 1
      rw [h5]
theorem Sh.tuple {dp n m : Nat} {ds : List PyData} (h : ∀ d ∈ ds, Sh d dp n) (hm : ds.length ≤ m) : Sh (.tuple ds) (dp + 1) (m * n + 2 * m + 3) := by
  obtain ⟨h1, h2, h3, h4, h5⟩ := Sh.all h
  refine ⟨by simpa [PyData.showable] using h1, by simpa [PyData.hasDict] using h2, by simpa [PyData.depth] using h3, ?_⟩
  have e : (PyData.shown (.tuple ds)) = tupleText (PyData.shownAll ds) := by simp only [PyData.shown]
  rw [e]
  have l := tupleText_len_le (PyData.shownAll ds)
  rw [h5] at l
  have : ds.length * n ≤ m * n := Nat.mul_le_mul_right n hm
  omega
theorem Sh.list {dp n m : Nat} {ds : List PyData} (h : ∀ d ∈ ds, Sh d dp n) (hm : ds.length ≤ m) : Sh (.list ds) (dp + 1) (m * n + 2 * m + 3) := by
  obtain ⟨h1, h2, h3, h4, h5⟩ := Sh.all h
  refine ⟨by simpa [PyData.showable] using h1, by simpa [PyData.hasDict] using h2, by simpa [PyData.depth] using h3, ?_⟩
  have e : (PyData.shown (.list ds)) = listText (PyData.shownAll ds) := by simp only [PyData.shown]
  rw [e]
  have l := listText_len_le (PyData.shownAll ds)
  rw [h5] at l
  have : ds.length * n ≤ m * n := Nat.mul_le_mul_right n hm
  omega
theorem Sh.non : Sh .none 0 4 := ⟨rfl, rfl, Nat.le_refl _, by decide +kernel⟩
theorem Sh.bl (b : Bool) : Sh (.bool b) 0 5 := ⟨rfl, rfl, Nat.le_refl _, by cases b <;> decide +kernel⟩
theorem Sh.word {y : Str} (h : Word y) : Sh (.str y) 0 82 := by
  refine ⟨rfl, rfl, Nat.le_refl _, ?_⟩
  have e : (PyData.shown (.str y)) = reprText y := by simp only [PyData.shown]
  rw [e]
  have l := StrLaws.reprText_len y fun c hc => Nat.lt_of_le_of_lt (h.low c hc).2 (by decide)
  have := h.eight
  omega
/-- a number of at most 1920 bits -/
theorem Sh.intB {i : Int} {k : Nat} (hk : 0 < k) (h : i.natAbs.log2 < k) (hk2 : k ≤ 1920) : Sh (.int i) 0 (k + 1) := by
  refine ⟨decide_eq_true (Nat.lt_of_lt_of_le h hk2), rfl, Nat.le_refl _, ?_⟩
  have e : (PyData.shown (.int i)) = Str.ofString (toString i) := by simp only [PyData.shown]
  rw [e, PySem.ofString_length]
  exact int_text_length_le hk h
theorem Sh.int {i : Int} (h0 : 0 ≤ i) (h : i < 2 ^ 64) : Sh (.int i) 0 65 := by
  refine Sh.intB (k := 64) (by decide) ?_ (by decide)
  by_cases z : i.natAbs = 0
  · rw [z]; decide
  · exact (Nat.log2_lt z).mpr (by omega)
end PK
namespace PK
open PySem PySem.Spec PyProof.Rows L2

/-! ### wants, ways, rows, sheets as data -/
abbrev Want := Str × List Str × Int
abbrev Way := List Want
abbrev Row := List Way
abbrev Sheet := List Row
def wantD (x : Want) : PyData := .tuple [.str x.1, .tuple (x.2.1.map PyData.str), .int x.2.2]
def wayD (x : Way) : PyData := .tuple (x.map wantD)
def rowD (x : Row) : PyData := .tuple (x.map wayD)
def sheetD (x : Sheet) : PyData := .tuple (x.map rowD)
structure WantOk (x : Want) : Prop where
  form : Word x.1
  shades : ∀ y ∈ x.2.1, Word y
  few : x.2.1.length ≤ 8
  one : 1 ≤ x.2.2
  most : x.2.2 ≤ 1000000000
structure WayOk (n : Nat) (x : Way) : Prop where
  len : x.length ≤ n
  each : ∀ y ∈ x, WantOk y
structure RowOk (n : Nat) (x : Row) : Prop where
  some : 1 ≤ x.length
  len : x.length ≤ 3
  each : ∀ y ∈ x, WayOk n y
structure SheetOk (m n : Nat) (x : Sheet) : Prop where
  len : x.length ≤ m
  each : ∀ y ∈ x, RowOk n y
theorem flatTs_of {ds : List PyData} : (∀ d ∈ ds, flatT d = true) → flatTs ds = true := by
  induction ds with
  | nil => intro _; rfl
  | cons d ds ih =>
    intro h
    show (flatT d && flatTs ds) = true
    rw [h d List.mem_cons_self, ih fun e he => h e (List.mem_cons_of_mem _ he)]
    rfl
theorem flat_map {α : Type} {f : α → PyData} (hf : ∀ x, flatT (f x) = true) (l : List α) : flatTs (l.map f) = true :=
  flatTs_of fun d hd => by
    obtain ⟨x, _, rfl⟩ := List.mem_map.mp hd
    exact hf x
theorem flat_strs (l : List Str) : flatTs (l.map PyData.str) = true := flat_map (fun _ => rfl) l
theorem flat_ints (l : List Int) : flatTs (l.map PyData.int) = true := flat_map (fun _ => rfl) l
theorem flat_want (x : Want) : flatT (wantD x) = true := by
  show (flatT (.str x.1) && (flatT (.tuple (x.2.1.map PyData.str)) && (flatT (.int x.2.2) && true))) = true
  have e : flatT (.tuple (x.2.1.map PyData.str)) = true := by
    show flatTs _ = true
    exact flat_strs _
  rw [e]
  rfl
theorem flat_way (x : Way) : flatT (wayD x) = true := flat_map flat_want x
theorem flat_row (x : Row) : flatT (rowD x) = true := flat_map flat_way x
theorem flat_sheet (x : Sheet) : flatT (sheetD x) = true := flat_map flat_row x
/-- so many choices and wants as one likes, all of them short -/
theorem sh_want {x : Want} (h : WantOk x) : Sh (wantD x) 2 2457 := by
  have e1 : Sh (.tuple (x.2.1.map PyData.str)) 1 (8 * 82 + 2 * 8 + 3) := Sh.tuple (fun d hd => by
    obtain ⟨y, hy, rfl⟩ := List.mem_map.mp hd
    exact Sh.word (h.shades y hy)) (by rw [List.length_map]; exact h.few)
  refine (Sh.tuple (dp := 1) (n := 816) (m := 3) (fun d hd => ?_) (Nat.le_refl _)).mono (Nat.le_refl _) (by decide)
  rcases List.mem_cons.mp hd with rfl | hd
  · exact (Sh.word h.form).mono (by decide) (by decide)
  rcases List.mem_cons.mp hd with rfl | hd
  · exact e1.mono (by decide) (by decide)
  · rw [List.mem_singleton.mp hd]
    have := h.one
    have := h.most
    exact (Sh.int (by omega) (by omega)).mono (by decide) (by decide)
theorem sh_way {n : Nat} {x : Way} (h : WayOk n x) : Sh (wayD x) 3 (n * 2457 + 2 * n + 3) :=
  Sh.tuple (fun d hd => by
    obtain ⟨y, hy, rfl⟩ := List.mem_map.mp hd
    exact sh_want (h.each y hy)) (by rw [List.length_map]; exact h.len)
theorem sh_row {n : Nat} {x : Row} (h : RowOk n x) : Sh (rowD x) 4 (3 * (n * 2457 + 2 * n + 3) + 2 * 3 + 3) :=
  Sh.tuple (fun d hd => by
    obtain ⟨y, hy, rfl⟩ := List.mem_map.mp hd
    exact sh_way (h.each y hy)) (by rw [List.length_map]; exact h.len)
theorem sh_sheet {m n : Nat} {x : Sheet} (h : SheetOk m n x) : Sh (sheetD x) 5 (m * (3 * (n * 2457 + 2 * n + 3) + 2 * 3 + 3) + 2 * m + 3) :=
  Sh.tuple (fun d hd => by
    obtain ⟨y, hy, rfl⟩ := List.mem_map.mp hd
    exact sh_row (h.each y hy)) (by rw [List.length_map]; exact h.len)
def intsD (l : List Int) : PyData := .tuple (l.map PyData.int)
theorem flat_intsD (l : List Int) : flatT (intsD l) = true := flat_ints l

/-! ### all choices: two ways to count them -/
/-- as the program does it -/
def grow (told : List (List Int)) (L : Nat) : List (List Int) := told.flatMap fun c => (List.range L).map fun (p : Nat) => c ++ [((p : Nat) : Int)]
def choicesM (ls : List Nat) : List (List Int) := ls.foldl grow [[]]
/-- the figures of a number, the last row's first -/
def figStep (st : List Int × Nat) (L : Nat) : List Int × Nat := (((st.2 % L : Nat) : Int) :: st.1, st.2 / L)
def figs (ls : List Nat) (n : Nat) : List Int := (ls.reverse.foldl figStep ([], n)).1
theorem fig_acc : ∀ (ls : List Nat) (fs : List Int) (n : Nat), (ls.foldl figStep (fs, n)).1 = (ls.foldl figStep ([], n)).1 ++ fs
  | [], fs, n => by simp
  | L :: r, fs, n => by
    show (r.foldl figStep (((n % L : Nat) : Int) :: fs, n / L)).1 = (r.foldl figStep ([((n % L : Nat) : Int)], n / L)).1 ++ fs
    rw [fig_acc r (((n % L : Nat) : Int) :: fs), fig_acc r [((n % L : Nat) : Int)], List.append_assoc]
    rfl
theorem figs_snoc (ls : List Nat) (L n : Nat) : figs (ls ++ [L]) n = figs ls (n / L) ++ [((n % L : Nat) : Int)] := by
  unfold figs
  rw [List.reverse_append]
  show (ls.reverse.foldl figStep ([((n % L : Nat) : Int)], n / L)).1 = _
  rw [fig_acc]
theorem range_mul (N L : Nat) (hL : 0 < L) : List.range (N * L) = (List.range N).flatMap fun q => (List.range L).map fun p => q * L + p := by
  induction N with
  | zero => simp
  | succ N ih =>
    rw [List.range_succ, List.flatMap_append, ← ih, Nat.succ_mul, List.range_add]
    simp
def total (ls : List Nat) : Nat := ls.foldl (· * ·) 1
theorem total_snoc (ls : List Nat) (L : Nat) : total (ls ++ [L]) = total ls * L := by
  unfold total
  rw [List.foldl_append]
  rfl
theorem snocInd {α : Type} {P : List α → Prop} (h0 : P []) (h1 : ∀ l x, P l → P (l ++ [x])) : ∀ l, P l := by
  intro l
  have : ∀ l : List α, P l.reverse := by
    intro l
    induction l with
    | nil => exact h0
    | cons x l ih =>
      rw [List.reverse_cons]
      exact h1 _ _ ih
  have h := this l.reverse
  rwa [List.reverse_reverse] at h
theorem counted_choices : ∀ ls : List Nat, (∀ L ∈ ls, 0 < L) → (List.range (total ls)).map (figs ls) = choicesM ls := by
  refine snocInd (P := fun ls => (∀ L ∈ ls, 0 < L) → (List.range (total ls)).map (figs ls) = choicesM ls) (fun _ => rfl) ?_
  intro ls L ih h
  have hL := h L (by simp)
  have ih' := ih fun x hx => h x (by simp [hx])
  have e : choicesM (ls ++ [L]) = grow (choicesM ls) L := by
    unfold choicesM
    rw [List.foldl_append]
    rfl
  rw [e, ← ih', total_snoc, range_mul _ _ hL]
  unfold grow
  rw [List.map_flatMap, List.flatMap_map]
  congr 1
  funext q
  rw [List.map_map]
  refine List.map_congr_left fun p hp => ?_
  have hp' := List.mem_range.mp hp
  show figs (ls ++ [L]) (q * L + p) = _
  rw [figs_snoc]
  have e1 : (q * L + p) / L = q := by
    rw [Nat.mul_comm, Nat.mul_add_div hL, Nat.div_eq_of_lt hp']
    rfl
  have e2 : (q * L + p) % L = p := by
    rw [Nat.mul_comm, Nat.mul_add_mod, Nat.mod_eq_of_lt hp']
  rw [e1, e2]
end PK
namespace PK
open PySem PySem.Spec PyProof.Rows L2
/-- a list of words at p, some of them -/
structure Words (H : Hp) (p : Addr) (ws : List Str) : Prop where
  at_ : H p = some (.lst (ws.map V.str))
  some : ws ≠ []
  few : ws.length ≤ 8
  each : ∀ y ∈ ws, Word y
theorem Words.ext {H H' : Hp} {a c p : Addr} {ws : List Str} (w : Words H p ws) (f : IsFeed H a c) (x : Ext a H H') : Words H' p ws := by
  obtain ⟨cs, i, l, n, f⟩ := f
  exact ⟨x p _ w.at_ (ne_of w.at_ f.d (by intro z; cases z)), w.some, w.few, w.each⟩
theorem Words.new {H : Hp} {p q : Addr} {o : HO} {ws : List Str} (w : Words H p ws) (nq : H q = none) : Words (upd H q o) p ws :=
  ⟨by rw [upd_ne (ne_of_none w.at_ nq)]; exact w.at_, w.some, w.few, w.each⟩
theorem Words.same {H H' : Hp} {p : Addr} {ws : List Str} (w : Words H p ws) (x : Same H H') : Words H' p ws := ⟨x _ _ w.at_, w.some, w.few, w.each⟩
theorem Words.own {H : Hp} {p q : Addr} {o : HO} {ws : List Str} (w : Words H p ws) (ne : p ≠ q) : Words (upd H q o) p ws :=
  ⟨by rw [upd_ne ne]; exact w.at_, w.some, w.few, w.each⟩
theorem Words.pos {H : Hp} {p : Addr} {ws : List Str} (w : Words H p ws) : 0 < ws.length := by
  cases h : ws with
  | nil => exact absurd h w.some
  | cons _ _ => simp
def spWant (K : PySem.W.Frag) : Sp := fun vs H Q _ => ∃ (a c pf ps : Addr) (fs ss : List Str), vs = [.ref a, .ref pf, .ref ps] ∧ IsFeed H a c ∧ Words H pf fs ∧ Words H ps ss ∧
  ∀ (v : V) (H' : Hp) (x : Want), WantOk x → Ext a H H' → IsFeed H' a c → Dp K H' v (wantD x) → Q v H'
end PK
namespace PK
open PySem PySem.Spec PyProof.Rows L2
def spSheet (K : PySem.W.Frag) : Sp := fun vs H Q _ => ∃ (a c pf ps : Addr) (fs ss : List Str) (mo : Nat), vs = [.ref a, .ref pf, .ref ps, .int mo] ∧ IsFeed H a c ∧ Words H pf fs ∧ Words H ps ss ∧ mo ≤ 10 ∧
  ∀ (v : V) (H' : Hp) (x : Sheet), SheetOk 3 mo x → Ext a H H' → IsFeed H' a c → Dp K H' v (sheetD x) → Q v H'
/-- one more behind data of a list, the tuples kept -/
theorem dp_snoc {α : Type} {f : α → PyData} {K : PySem.W.Frag} {H H' : Hp} {vs : List V} {xs : List α} {v : V} {x : α} (hf : ∀ x, flatT (f x) = true) (h : DpAll K H vs (xs.map f)) (t : TKeep H H') (hv : Dp K H' v (f x)) :
    DpAll K H' (vs ++ [v]) ((xs ++ [x]).map f) := by
  rw [List.map_append]
  exact DpAll.snoc hv (DpAll.keepT t (flat_map hf xs) h)
theorem dp_move {α : Type} {f : α → PyData} {K : PySem.W.Frag} {H H' : Hp} {vs : List V} {xs : List α} (hf : ∀ x, flatT (f x) = true) (h : DpAll K H vs (xs.map f)) (t : TKeep H H') :
    DpAll K H' vs (xs.map f) := DpAll.keepT t (flat_map hf xs) h
theorem dp_lenM {α : Type} {f : α → PyData} {K : PySem.W.Frag} {H : Hp} {vs : List V} {xs : List α} (h : DpAll K H vs (xs.map f)) : vs.length = xs.length := by
  rw [DpAll.len h, List.length_map]
end PK
namespace PK
open PySem PySem.Spec PyProof.Rows L2
/-! ### places in the text -/
def retE (st : Stmt) : Expr := match (defBody st).getLast? with
  | some (.Return (some e) _) => e
  | _ => .Constant .none 0 ⟨0, 0, 0, 0⟩
def argE (e : Expr) (i : Nat) : Expr := match e with
  | .Call _ args _ _ => args.getD i (.Constant .none 0 ⟨0, 0, 0, 0⟩)
  | _ => .Constant .none 0 ⟨0, 0, 0, 0⟩
def lcScope (e : Expr) : Scope := match e with
  | .ListComp _ _ sc _ => sc
  | _ => { kind := .function, names := [], isGenerator := false, isCoroutine := false }
theorem take_snoc {α : Type} {l : List α} {i : Nat} {x : α} (h : l[i]? = some x) : l.take (i + 1) = l.take i ++ [x] := by
  rw [List.take_add_one, h]
  rfl
theorem Dp.wantE {K : PySem.W.Frag} {H : Hp} {v : V} {x : Want} (h : Dp K H v (wantD x)) :
    ∃ b t, v = .ref b ∧ SqT K H b [.str x.1, .ref t, .int x.2.2] ∧ SqT K H t (x.2.1.map V.str) := by
  obtain ⟨b, xs, rfl, hb, h1⟩ := Dp.tupE h
  cases h1 with
  | cons a1 h2 =>
    cases h2 with
    | cons a2 h3 =>
      cases h3 with
      | cons a3 h4 =>
        cases h4
        cases a1
        cases a3
        obtain ⟨t, ys, rfl, ht, hy⟩ := Dp.tupE a2
        rw [DpAll.of_strs hy] at ht
        exact ⟨b, t, rfl, hb, ht⟩
/-- the same way, made anew -/
def spCopy (K : PySem.W.Frag) : Sp := fun vs H Q _ => ∃ (v : V) (x : Way), vs = [v] ∧ Dp K H v (wayD x) ∧ x.length ≤ 100 ∧ (∀ y ∈ x, y.2.1.length ≤ 100) ∧
  ∀ (p : Addr) (us : List V) (H' : Hp), Same H H' → H' p = some (.tup us) → DpAll K H' us (x.map wantD) → Q (.ref p) H'
end PK
/-! The rules with the written part K said: within a comprehension the block's own context is not named. -/
namespace PK
open PySem PySem.Spec PyProof.Rows L2
def rTupOf (K : PySem.W.Frag) : List V → Hp → VK → Prop := fun xs H Q => ∃ p ys, xs = [.ref p] ∧
  ((SqL K H p ys ∧ ∀ l, H l = none → Q (.ref l) (upd H l (.tup ys))) ∨ (SqT K H p ys ∧ Q (.ref p) H))
def rLenOf (K : PySem.W.Frag) : List V → Hp → VK → Prop := fun xs H Q => ∃ p ys, xs = [.ref p] ∧ (SqL K H p ys ∨ SqT K H p ys) ∧ Q (.int ys.length) H
def rListOf (K : PySem.W.Frag) : List V → Hp → VK → Prop := fun xs H Q => ∃ p ys, xs = [.ref p] ∧ (SqL K H p ys ∨ SqT K H p ys) ∧
  ∀ l, H l = none → Q (.ref l) (upd H l (.lst ys))
def rRepr (K : PySem.W.Frag) : List V → Hp → VK → Prop := fun xs H Q => ∃ a d, xs = [.ref a] ∧ Dp K H (.ref a) d ∧ d.showable = true ∧ d.hasDict = false ∧ d.depth ≤ 100 ∧
  d.shown.length ≤ sizeLine ∧ Q (.str d.shown) H
section
variable {X : Cx} (K : PySem.W.Frag)
theorem k_tup (hK : X.K = K := by rfl) : CallR X (.type "tuple") (rTupOf K) := by subst hK; exact call_tuple_of
theorem k_len (hK : X.K = K := by rfl) : CallR X (.builtin "len") (rLenOf K) := by subst hK; exact call_len_seq
theorem k_list (hK : X.K = K := by rfl) : CallR X (.type "list") (rListOf K) := by subst hK; exact call_list_of
theorem k_repr {k : Nat} (hgd : X.A.guards = some []) (hr : Room k X.A) (hK : X.K = K := by rfl) : CallR X (.builtin "repr") (rRepr K) := by subst hK; exact call_repr hgd hr
theorem k_all (hc : X.calm = true) (hK : X.K = K := by rfl) : CallR X (.builtin "all") (rAll K) := by subst hK; exact cr_all hc
theorem k_sum (hc : X.calm = true) (hK : X.K = K := by rfl) : CallR X (.builtin "sum") (rSum K) := by subst hK; exact cr_sum hc
theorem k_sortedS (hK : X.K = K := by rfl) : CallR X (.builtin "sorted") (rSortedS K) := by subst hK; exact cr_sortedS
theorem kx_list (hK : X.K = K := by rfl) : IxR X (rIxL K) := by subst hK; exact ix_list
theorem kx_tup (hK : X.K = K := by rfl) : IxR X (rIxT K) := by subst hK; exact ix_tup
theorem ks_list (hK : X.K = K := by rfl) : SlR X (rSlL K) := by subst hK; exact sl_list
theorem ks_tup (hK : X.K = K := by rfl) : SlR X (rSlA K) := by subst hK; exact sl_tupA
theorem ko_catA (hK : X.K = K := by rfl) : OpR X (binaryOp .Add) (rCatA K) := by subst hK; exact op_catA
theorem ko_repT (hK : X.K = K := by rfl) : OpR X (binaryOp .Mult) (rRepT K) := by subst hK; exact op_repT
theorem ko_neNil {k : Nat} (hr : Room k X.A) (hK : X.K = K := by rfl) : OpR X (compareOp .NotEq) (rNeNil K) := by subst hK; exact op_neNil hr
theorem ko_eqNil {k : Nat} (hr : Room k X.A) (hK : X.K = K := by rfl) : OpR X (compareOp .Eq) (rEqNil K) := by subst hK; exact op_eqNil hr
theorem ko_eqD {k : Nat} (hr : Room k X.A) (hK : X.K = K := by rfl) : OpR X (compareOp .Eq) (rEqD K) := by subst hK; exact op_eqD hr.units
theorem ko_neD {k : Nat} (hr : Room k X.A) (hK : X.K = K := by rfl) : OpR X (compareOp .NotEq) (rNeD K) := by subst hK; exact op_neD hr.units
theorem km_ext (hK : X.K = K := by rfl) : MtM X "list.extend" (rExtT K) := by subst hK; exact mt_extT
theorem pk_list {tg l : Expr} {tl : TE} (hl : PE X l tl) (hK : X.K = K := by rfl) : PI X tg l (iList K tl) := by subst hK; exact pi_list hl
theorem pk_tup {tg l : Expr} {tl : TE} (hl : PE X l tl) (hK : X.K = K := by rfl) : PI X tg l (iTup K tl) := by subst hK; exact pi_tup hl
theorem pek_revT {e : Expr} {te : TE} {k : Nat} {p1 p2 p3 pos : Pos} (he : PE X e te) (hK : X.K = K := by rfl) :
    PE X (.Subscript e (.Slice none none (some (.UnaryOp .USub (.Constant (.int 1) k p1) p2)) p3) pos) (tRevT K te) := by subst hK; exact pe_revT he
theorem pek_revL {e : Expr} {te : TE} {k : Nat} {p1 p2 p3 pos : Pos} (he : PE X e te) (hK : X.K = K := by rfl) :
    PE X (.Subscript e (.Slice none none (some (.UnaryOp .USub (.Constant (.int 1) k p1) p2)) p3) pos) (tRevL K te) := by subst hK; exact pe_revL he
theorem pgk_tup {es : List Expr} {k n : Nat} {t : TGs} {pos : Pos} (hc : X.calm = true) (h : PGs X es t) (hK : X.K = K := by rfl)
    (hn : (assignEach es X.env).length = n := by rfl) (hst : (assignEach es X.env).findIdx? (·.1) = none := by rfl) : PG X (.Tuple es k pos) (gTup K n t) := by
  subst hK; exact pg_tup hc h hn hst
theorem pek_bm {T id : String} {name : Str} {r : V → List V → Hp → VK → Prop} {o e : Expr} {es : List Expr} {to : TE} {t : TA} {apos cpos : Pos}
    (h : PE X (.Call (.Attribute o name apos) (e :: es) [] cpos) (tBM X.K T r to t)) (hK : X.K = K := by rfl) :
    PE X (.Call (.Attribute o name apos) (e :: es) [] cpos) (tBM K T r to t) := by subst hK; exact h
end
end PK
namespace PK
open PySem PySem.Spec PyProof.Rows L2
section
open PySem.SeqAt
open PySem.AutoSeq1 (wpAny_loadPart')
open PySem.MeetsSeq PySem.MeetsSeq2 PySem.MeetsSeq3
theorem mul_one (l : Addr) (items : Array Value) (n : Nat) (dd : Option Addr) (sl : Array (Option Value)) (u : Tok) :
    Meets (Builtin.«tuple.__mul__» ⟨[.ref l, .int 1 u], []⟩) (fun _ R s => s.heap.get? l = some { cls := .type "tuple", dict := dd, data := .seq items n, slots := sl } ∧
      R (.ok (.ret (Value.ref l))) s) :=
  .of_wp fun prog w A R s h => by
    obtain ⟨hp, g, d, tk, os⟩ := s
    obtain ⟨hl, h⟩ := h
    have f1 := AutoSeq1.idx_int
    have c1 : (items.isEmpty || (1 : Int) == 1) = true := by simp
    wp_walk using wpAny_loadPart' hl
    exact ⟨_, rfl, h⟩
theorem mul_nought (l : Addr) (items : Array Value) (n : Nat) (dd : Option Addr) (sl : Array (Option Value)) (u : Tok) (c1 : (items.isEmpty || (0 : Int) == 1) = false) :
    Meets (Builtin.«tuple.__mul__» ⟨[.ref l, .int 0 u], []⟩) (fun _ R s => s.heap.get? l = some { cls := .type "tuple", dict := dd, data := .seq items n, slots := sl } ∧
      R (.ok (.ret (Value.ref s.heap.objs.size))) { s with heap := s.heap.push { cls := Value.type "tuple", data := Data.seq #[] } }) :=
  .of_wp fun prog w A R s h => by
    obtain ⟨hp, g, d, tk, os⟩ := s
    obtain ⟨hl, h⟩ := h
    have f1 := AutoSeq1.idx_int
    wp_walk using wpAny_loadPart' hl
    repeat (first
      | (refine wpAny_ite_false (decide_eq_false (by rw [c1]; exact Bool.false_ne_true)) ?_; wp_walk using wpAny_loadPart' hl))
    exact ⟨_, rfl, h⟩
end
/-- t * k, k from nought on -/
def rRepA (K : PySem.W.Frag) : R2 := fun x y H Q => ∃ l k xs, x = .ref l ∧ y = .int k ∧ SqT K H l xs ∧ xs ≠ [] ∧ 0 ≤ k ∧ k ≤ 1000 ∧ xs.length ≤ 1000 ∧
  (k = 1 → Q (.ref l) H) ∧ (k ≠ 1 → ∀ p, H p = none → Q (.ref p) (upd H p (.tup (List.replicate k.toNat xs).flatten)))
theorem ko_repA {X : Cx} (K : PySem.W.Frag) (hK : X.K = K := by rfl) : OpR X (binaryOp .Mult) (rRepA K) := by
  subst hK
  intro pins s σ H x y v u Q I rx ry h
  obtain ⟨l, k, xs, rfl, rfl, hT, hne, h0, h1, hz, q1, q2⟩ := h
  by_cases k2 : 2 ≤ k
  · exact op_repT pins s σ H _ _ v u Q I rx ry ⟨l, k, xs, rfl, rfl, hT, hne, k2, h1, hz, q2 (by omega)⟩
  · cases rx
    obtain ⟨t, rfl⟩ := ry
    obtain ⟨its, r, ⟨⟨cls, dd, data, sl⟩, ho, hc, n, hd⟩, hs⟩ := I.tuple hT
    simp only at hc hd
    subst hc hd
    have hle : its.length = xs.length := r.length.symm
    have hi : its.toArray.isEmpty = false := by
      cases its with
      | nil => exact absurd (List.eq_nil_of_length_eq_zero hle.symm) hne
      | cons _ _ => rfl
    have kk : k = 0 ∨ k = 1 := by omega
    rcases kk with rfl | rfl
    · refine wpAny_binaryOp_repeat_ref (T := "tuple") (U := "int") (by decide) ⟨_, ho, rfl⟩ (fun s' => typeIs_int s' 0 t) noFill_tuple_mul F.fills_int_mul F.slot_int_rmul repeat_tuple F.slot_int_index.lookup
        (call_meets F.slot_int_rmul (typeIs_int s 0 t) F.entry_int_rmul (F.args_int_rmul_2 _ _) (int_rmul_tuple 0 t l its.toArray n dd sl)
          ⟨ho, rfl, ⟨_, ho, rfl⟩, call_meets F.slot_tuple_mul ⟨_, ho, rfl⟩ F.entry_tuple_mul (F.args_tuple_mul_2 _ _) (mul_nought l its.toArray n dd sl t (by rw [hi]; rfl)) ⟨ho, ?_⟩⟩)
      refine ⟨.ref _, _, I.laid (t' := s.toks) (o := .tup []) (fun b ob q => Heap.get?_push_of_some _ q) (Nat.le_refl _) ?_, rfl, q2 (by decide) _ (I.hok.fresh (Nat.le_refl _))⟩
      exact ⟨Nat.zero_le _, [], .nil, ⟨_, Heap.get?_push_size _ rfl, rfl, 0, rfl⟩⟩
    · refine wpAny_binaryOp_repeat_ref (T := "tuple") (U := "int") (by decide) ⟨_, ho, rfl⟩ (fun s' => typeIs_int s' 1 t) noFill_tuple_mul F.fills_int_mul F.slot_int_rmul repeat_tuple F.slot_int_index.lookup
        (call_meets F.slot_int_rmul (typeIs_int s 1 t) F.entry_int_rmul (F.args_int_rmul_2 _ _) (int_rmul_tuple 1 t l its.toArray n dd sl)
          ⟨ho, rfl, ⟨_, ho, rfl⟩, call_meets F.slot_tuple_mul ⟨_, ho, rfl⟩ F.entry_tuple_mul (F.args_tuple_mul_2 _ _) (mul_one l its.toArray n dd sl t) ⟨ho, ?_⟩⟩)
      exact ⟨.ref l, H, I, rfl, q1 rfl⟩
end PK
namespace PK
open PySem PySem.Spec PyProof.Rows L2 RZ
/-- the second clause's own loop, to Nx -/
def Inner (J1 : It) (g1 : TG) (tt1 : TT) (te : TE) (vs1 : List Nat) (σ2 : L2.St) (D : Addr) (Nx : Hp → Prop) (H4 : Hp) : Prop :=
  ∃ W1 : Nat → Nat → Hp → Prop, (∃ m, W1 0 m H4) ∧ ∀ j k H, W1 j k H →
      (J1.stop j H ∧ Nx H) ∨ (J1.go j H ∧ ∃ Nx1 : Hp → Prop, (∀ H', Nx1 H' → ∃ k', k' < k ∧ W1 (j + 1) k' H') ∧
        ∀ x H', J1.yld j H x H' → g1 x (wipe σ2 vs1) H' fun σ3 H5 => wipe σ3 vs1 = wipe σ2 vs1 ∧ tt1 σ3 H5 fun b H6 =>
        if b = true then te σ3 H6 fun y H7 => ∃ acc, H7 D = some (.lst acc) ∧ acc.length < sizeLine ∧ Nx1 (upd H7 D (.lst (acc ++ [y]))) else Nx1 H6)
section
variable {J J1 : It} {n n1 : Nat} {G G1 : Hp → Prop} {Y Y1 : Nat → Hp → V → Hp → Prop}
theorem inner_it (w : Walk J1 n1 G1 Y1) {g1 : TG} {tt1 : TT} {te : TE} {vs1 : List Nat} {σ2 : L2.St} {D : Addr} {Nx : Hp → Prop} {H4 : Hp}
    (Pv : Nat → Hp → Prop) (h0 : Pv 0 H4) (hG : ∀ j H, j ≤ n1 → Pv j H → G1 H)
    (hs : ∀ j x H H', j < n1 → Pv j H → Y1 j H x H' → g1 x (wipe σ2 vs1) H' fun σ3 H5 => wipe σ3 vs1 = wipe σ2 vs1 ∧ tt1 σ3 H5 fun b H6 =>
        if b = true then te σ3 H6 fun y H7 => ∃ acc, H7 D = some (.lst acc) ∧ acc.length < sizeLine ∧ Pv (j + 1) (upd H7 D (.lst (acc ++ [y]))) else Pv (j + 1) H6)
    (hd : ∀ H, Pv n1 H → Nx H) : Inner J1 g1 tt1 te vs1 σ2 D Nx H4 := by
  refine ⟨fun j m H => m = n1 - j ∧ j ≤ n1 ∧ Pv j H, ⟨n1, rfl, Nat.zero_le _, h0⟩, ?_⟩
  rintro j m H ⟨rfl, hj, p⟩
  have q := hG j H hj p
  by_cases hlt : j < n1
  · exact Or.inr ⟨w.goes j H hlt q, Pv (j + 1), fun H' p' => ⟨n1 - (j + 1), by omega, rfl, hlt, p'⟩, fun x H' y => hs j x H H' hlt p (w.yields j H x H' hlt q y)⟩
  · have e : j = n1 := by omega
    subst e
    exact Or.inl ⟨w.stops H q, hd H p⟩
theorem outer_it (w : Walk J n G Y) {g g1 : TG} {tt tt1 : TT} {wi1 : TI} {te : TE} {vs vs1 : List Nat} {σ : L2.St} {D : Addr} {H1 : Hp} {Qd : Hp → Prop}
    (Pv : Nat → Hp → Prop) (h0 : Pv 0 (upd H1 D (.lst []))) (hG : ∀ i H, i ≤ n → Pv i H → G H)
    (hs : ∀ i x H H', i < n → Pv i H → Y i H x H' → g x (wipe σ vs) H' fun σ2 H2 => wipe σ2 vs = wipe σ vs ∧ tt σ2 H2 fun b H3 =>
      if b = true then wi1 σ2 H3 fun J1 H4 => Inner J1 g1 tt1 te vs1 σ2 D (Pv (i + 1)) H4 else Pv (i + 1) H3)
    (hd : ∀ H, Pv n H → Qd H) :
    ∃ W : Nat → Nat → Hp → Prop, (∃ m, W 0 m (upd H1 D (.lst []))) ∧ ∀ i m H, W i m H →
      (J.stop i H ∧ Qd H) ∨ (J.go i H ∧ ∃ Nx : Hp → Prop, (∀ H', Nx H' → ∃ m', m' < m ∧ W (i + 1) m' H') ∧
        ∀ x H', J.yld i H x H' → g x (wipe σ vs) H' fun σ2 H2 => wipe σ2 vs = wipe σ vs ∧ tt σ2 H2 fun b H3 =>
        if b = true then wi1 σ2 H3 fun J1 H4 => Inner J1 g1 tt1 te vs1 σ2 D Nx H4 else Nx H3) := by
  refine ⟨fun i m H => m = n - i ∧ i ≤ n ∧ Pv i H, ⟨n, rfl, Nat.zero_le _, h0⟩, ?_⟩
  rintro i m H ⟨rfl, hi, p⟩
  have q := hG i H hi p
  by_cases hlt : i < n
  · exact Or.inr ⟨w.goes i H hlt q, Pv (i + 1), fun H' p' => ⟨n - (i + 1), by omega, rfl, hlt, p'⟩, fun x H' y => hs i x H H' hlt p (w.yields i H x H' hlt q y)⟩
  · have e : i = n := by omega
    subst e
    exact Or.inl ⟨w.stops H q, hd H p⟩
end
/-- zip of two tuples of one length -/
theorem walk_zipT {K : PySem.W.Frag} {a b : Addr} {xs ys : List V} {n : Nat} (hn : n = min xs.length ys.length) :
    Walk (ItzT K a b) n (fun H => SqT K H a xs ∧ SqT K H b ys) (YPair (fun i => xs[i]?) (fun i => ys[i]?)) := by
  subst hn
  refine ⟨fun i _ hi q => ?_, fun _ q => ⟨xs, ys, q.1, q.2, by omega⟩, fun i H v H' _ q y => ?_⟩
  · have h1 : i < xs.length := by omega
    have h2 : i < ys.length := by omega
    exact ⟨xs, ys, xs[i], ys[i], q.1, q.2, by simp [h1], by simp [h2]⟩
  · obtain ⟨T, x, z, h1, h2, h3, h4, h5⟩ := y
    exact ⟨T, x, z, h1, h2, h3, h4 xs q.1, h5 ys q.2⟩
theorem pk_zip {X : Cx} (K : PySem.W.Frag) {e e2 : Expr} {ta : TA} {p pos tpos : Pos} {elts : List Expr} {kk : Nat} (hg : Gl X "zip") (hm : X.mg "zip" = none) (ha : PA X [e, e2] ta) (hK : X.K = K := by rfl)
    (hs : starEach [e, e2] X.env = (false, eval e X.env) :: starEach [e2] X.env := by rfl) (hpl : (backTo pos (starEach [e2] X.env)).any (·.1) = false := by rfl) :
    PI X (.Tuple elts kk tpos) (.Call (.Name "zip" p) [e, e2] [] pos) (iZipA K ta) := by
  subst hK; exact pi_zipA hg hm ha hs hpl
end PK
/-! Defs with defaults, called by places and by names. -/
namespace PK
open PySem PySem.Spec PyProof.Rows L2 RZ
/-- a def of the text with defaults dvs -/
abbrev FunDf (K : PySem.W.Frag) (x : Str) (st : Stmt) (dvs : List V) (f : Addr) (fd : FuncData) : Prop := FunD K x x (defArgs st) (defBody st) (defScope st) dvs [] f fd
theorem fund_mk {K : PySem.W.Frag} {x qual : Str} {st : Stmt} {f T : Addr} {oc : Value} {od an : Option Addr} {osl : Array (Option Value)} {kV doc pm cdv ct : Value} {o : Obj} {its : List Value} {n : Nat} {dvs : List V}
    (l : K.lookup f = some ⟨oc, od, .func (PySem.W.fnOf x qual (defArgs st) (defBody st) (defScope st) (.ref T) kV doc pm an cdv ct), osl⟩)
    (c : PySem.W.codeIn K cdv qual = true) (k : PySem.W.keepIn K (.ref f) = true) (lT : K.lookup T = some o) (oT : o.data = .seq its.toArray n) (r : Vals dvs its) (hd : dvs ≠ []) :
    FunD K x qual (defArgs st) (defBody st) (defScope st) dvs [] f (PySem.W.fnOf x qual (defArgs st) (defBody st) (defScope st) (.ref T) kV doc pm an cdv ct) :=
  ⟨⟨oc, od, .ref T, kV, doc, pm, an, cdv, ct, osl, rfl, l, c, Or.inr ⟨hd, T, o, its, n, rfl, lT, oT, r⟩, Or.inl rfl⟩, k⟩
/-- how such a call binds: n values by their places, ks the names of the others -/
def KB (K : PySem.W.Frag) (fd : FuncData) (ps : List Str) (n : Nat) (ks : List Str) (gV : List V → List V → List V) : Prop :=
  ∃ g : List Value → List Value → List Value, KBn K fd ps n ks g gV
theorem kb_of {K : PySem.W.Frag} {x qual : Str} {params : Arguments} {body : List Stmt} {scope : Scope} {dvs : List V} {f : Addr} {fd : FuncData} {ps : List Str}
    (F : FunD K x qual params body scope dvs [] f fd) (n : Nat) (ks : List Str) (g : {α : Type} → List α → List α → List α → List α) (hd : dvs ≠ [])
    (hrel : ∀ {vs ds zs : List V} {us its ws : List Value}, Vals vs us → Vals ds its → Vals zs ws → Vals (g vs ds zs) (g us its ws))
    (h : ∀ (T : Addr) (kV doc pm : Value) (an : Option Addr) (cdv ct : Value) (us its ws : List Value), us.length = n → its.length = dvs.length → ws.length = ks.length →
      (∃ k, bindArgs (PySem.W.fnOf x qual params body scope (.ref T) kV doc pm an cdv ct) ⟨us, ks.zip ws⟩ = seqItems? (.ref T) >>= k ∧ k (some its.toArray) = pure (ps.zip (g us its ws)))) :
    KB K fd ps n ks (fun vs zs => g vs dvs zs) := by
  obtain ⟨oc, od, dV, kV, doc, pm, an, cdv, ct, osl, rfl, lk, hcd, hD, hK⟩ := F.ex
  rcases hD with ⟨e, _⟩ | ⟨_, T, o, its, m, rfl, lT, oT, rT⟩
  · exact absurd e hd
  · refine ⟨fun us ws => g us its ws, fun s us ws X l1 l2 => ?_, fun r1 r2 => hrel r1 rT r2⟩
    obtain ⟨k, e1, e2⟩ := h T kV doc pm an cdv ct us its ws l1 rT.length.symm l2
    refine BindsTo.of_looks fun M => ?_
    rw [e1]
    exact looks_items X lT oT (PySem.W.Looks.of_pure e2)
/-- all are given: no default is looked at -/
theorem kb_all {K : PySem.W.Frag} {x qual : Str} {params : Arguments} {body : List Stmt} {scope : Scope} {dvs : List V} {f : Addr} {fd : FuncData} {ps : List Str}
    (F : FunD K x qual params body scope dvs [] f fd) (n : Nat) (ks : List Str) (g : {α : Type} → List α → List α → List α)
    (hrel : ∀ {vs zs : List V} {us ws : List Value}, Vals vs us → Vals zs ws → Vals (g vs zs) (g us ws))
    (h : ∀ (T kV doc pm : Value) (an : Option Addr) (cdv ct : Value) (us ws : List Value), us.length = n → ws.length = ks.length →
      bindArgs (PySem.W.fnOf x qual params body scope T kV doc pm an cdv ct) ⟨us, ks.zip ws⟩ = pure (ps.zip (g us ws))) :
    KB K fd ps n ks (fun vs zs => g vs zs) := by
  obtain ⟨oc, od, dV, kV, doc, pm, an, cdv, ct, osl, rfl, lk, hcd, hD, hK⟩ := F.ex
  exact ⟨fun us ws => g us ws, fun s us ws X l1 l2 => .of_eq (h dV kV doc pm an cdv ct us ws l1 l2), fun r1 r2 => hrel r1 r2⟩
section
variable {X : Cx} {CX : CXT} {k n : Nat} {f : Addr} {fd : FuncData} {ps ks : List Str} {sp : Sp} {E : XK} {x : Str} {p pos : Pos} {e : Expr} {es : List Expr} {kws : List Keyword} {t tk : TA} {gV : List V → List V → List V}
theorem pe_kb (F : FnOk X.prog X.w X.K X.mg X.base CX k f fd ps sp) (hr : Room k X.A) (hg : Gl X x) (hm : X.mg x = some (.ref f)) (hk : PySem.W.keepIn X.K (.ref f) = true) (hb : KB X.K fd ps n ks gV) (hx : Passes CX X E)
    (ha : PA X (e :: es) t) (hkw : PK X kws tk) (hall : (backToKw pos (keywordEach kws X.env)).all (·.1.isSome) = true := by rfl) (hks : (backToKw pos (keywordEach kws X.env)).filterMap (·.1) = ks := by rfl)
    (hdb : (x == ("__debug__" : Str)) = false := by decide) (he : starEach (e :: es) X.env = (false, eval e X.env) :: starEach es X.env := by rfl)
    (hpl : ((backTo pos (starEach (e :: es) X.env)).any (·.1) || (backToKw pos (keywordEach kws X.env)).any (·.1.isNone)) = false := by rfl) :
    PE X (.Call (.Name x p) (e :: es) kws pos) (tCallN n ks.length sp gV E t tk) := by
  obtain ⟨g, hb⟩ := hb
  exact pe_callN F hr hg hm hk hb hx ha hkw hall hks hdb he hpl
theorem pe_kb0 (F : FnOk X.prog X.w X.K X.mg X.base CX k f fd ps sp) (hr : Room k X.A) (hg : Gl X x) (hm : X.mg x = some (.ref f)) (hk : PySem.W.keepIn X.K (.ref f) = true) (hb : KB X.K fd ps n ks gV) (hx : Passes CX X E)
    (hkw : PK X kws tk) (hall : (backToKw pos (keywordEach kws X.env)).all (·.1.isSome) = true := by rfl) (hks : (backToKw pos (keywordEach kws X.env)).filterMap (·.1) = ks := by rfl)
    (hdb : (x == ("__debug__" : Str)) = false := by decide)
    (hpl : ((backTo pos (starEach [] X.env)).any (·.1) || (backToKw pos (keywordEach kws X.env)).any (·.1.isNone)) = false := by rfl) :
    PE X (.Call (.Name x p) [] kws pos) (tCallN n ks.length sp gV E tNil tk) := by
  obtain ⟨g, hb⟩ := hb
  refine ⟨fun pins s σ H Q I h => wpAny_Call_Name_kw (ld_glob I hg hm ?_ hdb)⟩
  refine PySem.W.callWith_KW0 (h₀ := X.base) I.ok.mod.kin hk hall (thn (hkw.run pos pins s σ H _ I h) ?_) hpl
  rintro ws s2 ⟨zs, H2, J, rz, l1, l2, q⟩
  refine ⟨J.kIn, ?_⟩
  rw [hks]
  exact run_fnN (us := []) F hr hb hx J .nil rz l1 l2 q
end
structure CalD (P : Program) (w : World) (K : PySem.W.Frag) (mg : Str → Option Value) (base : Heap) (k : Nat) (x : Str) (f : Addr)
    (fd : FuncData) (ps : List Str) (sp : Sp) : Prop where
  ok : FnOk P w K mg base CX0 k f fd ps sp
  g : mg x = some (.ref f)
  kp : PySem.W.keepIn K (.ref f) = true
/-! ### lengths of choices -/
theorem choices_len : ∀ ls : List Nat, ∀ c ∈ choicesM ls, c.length = ls.length := by
  refine snocInd (P := fun ls => ∀ c ∈ choicesM ls, c.length = ls.length) (fun c hc => ?_) ?_
  · have e : c = [] := by simpa [choicesM] using hc
    subst e
    rfl
  · intro ls L ih c hc
    have e : choicesM (ls ++ [L]) = grow (choicesM ls) L := by
      unfold choicesM
      rw [List.foldl_append]
      rfl
    rw [e] at hc
    unfold grow at hc
    obtain ⟨d, hd, hc⟩ := List.mem_flatMap.mp hc
    obtain ⟨p, _, rfl⟩ := List.mem_map.mp hc
    rw [List.length_append, List.length_append, ih d hd]
    rfl
theorem choices_in : ∀ ls : List Nat, ∀ c ∈ choicesM ls, ∀ (i : Nat) (p : Int), c[i]? = some p → ∃ L, ls[i]? = some L ∧ 0 ≤ p ∧ p < (L : Int) := by
  refine snocInd (P := fun ls => ∀ c ∈ choicesM ls, ∀ (i : Nat) (p : Int), c[i]? = some p → ∃ L, ls[i]? = some L ∧ 0 ≤ p ∧ p < (L : Int)) (fun c hc i p h => ?_) ?_
  · have e : c = [] := by simpa [choicesM] using hc
    rw [e] at h
    simp at h
  · intro ls L ih c hc i p h
    have e : choicesM (ls ++ [L]) = grow (choicesM ls) L := by
      unfold choicesM
      rw [List.foldl_append]
      rfl
    rw [e] at hc
    unfold grow at hc
    obtain ⟨d, hd, hc⟩ := List.mem_flatMap.mp hc
    obtain ⟨q, hq, rfl⟩ := List.mem_map.mp hc
    have ld := choices_len ls d hd
    by_cases hi : i < d.length
    · rw [List.getElem?_append_left hi] at h
      obtain ⟨M, hM, h0, h1⟩ := ih d hd i p h
      exact ⟨M, by rw [List.getElem?_append_left (by omega)]; exact hM, h0, h1⟩
    · rw [List.getElem?_append_right (by omega)] at h
      have hi2 : i - d.length = 0 := by
        have := (List.getElem?_eq_some_iff.mp h).1
        simp at this
        omega
      rw [hi2] at h
      have ep : (q : Int) = p := by simpa using h
      have hq' := List.mem_range.mp hq
      refine ⟨L, ?_, by omega, by omega⟩
      rw [List.getElem?_append_right (by omega)]
      have : i - ls.length = 0 := by omega
      rw [this]
      rfl
theorem total_le {ls : List Nat} {k : Nat} (h : ∀ L ∈ ls, L ≤ k) (hk : 1 ≤ k) : total ls ≤ k ^ ls.length := by
  revert h
  refine snocInd (P := fun ls => (∀ L ∈ ls, L ≤ k) → total ls ≤ k ^ ls.length) (fun _ => Nat.le_refl 1) ?_ ls
  intro ls L ih h
  rw [total_snoc, List.length_append]
  show total ls * L ≤ k ^ (ls.length + 1)
  rw [Nat.pow_succ]
  exact Nat.mul_le_mul (ih fun x hx => h x (by simp [hx])) (h L (by simp))
theorem choices_count (ls : List Nat) (h : ∀ L ∈ ls, 0 < L) : (choicesM ls).length = total ls := by
  rw [← counted_choices ls h, List.length_map, List.length_range]
theorem SheetOk.mono {a b c d : Nat} {x : Sheet} (h : SheetOk a b x) (h1 : a ≤ c) (h2 : b ≤ d) : SheetOk c d x :=
  ⟨Nat.le_trans h.len h1, fun r hr => ⟨(h.each r hr).some, (h.each r hr).len, fun w hw => ⟨Nat.le_trans ((h.each r hr).each w hw).len h2, ((h.each r hr).each w hw).each⟩⟩⟩
/-- the rule for a def that shows things and lets no exception out -/
theorem funG_ok {P : Program} {w : World} {K : PySem.W.Frag} {mg : Str → Option Value} {base : Heap} {k : Nat} {f : Addr} {fd : FuncData}
    {x qual : Str} {st : Stmt} {N ps : List Str} {sp : Sp} (F : Fun K x qual st f fd) (S : FnScope N ps (defScope st))
    (len : ∀ vs H Q E, sp vs H Q E → vs.length = ps.length)
    (hbody : ∀ (cdv : Value) (A : Around) (outer : List Env) (s : Shared) (H : Hp) (vs : List V) (Q : VK) (E : XK), A.guards = some [] →
      Room k (A.deeper (envOfC qual (defScope st) s.heap.objs.size f cdv)) → sp vs H Q E →
      ∃ t, PSs (cxOf CX0 P w K mg base N qual (defScope st) f cdv A outer s H E).nox (defBody st) t ∧
        t { nx := fun _ H' => Q .non H', rt := Q } (start N vs) H) : FnG P w K mg base CX0 (k + 1) f fd ps sp :=
  fnG_of F S len fun cdv A outer s H vs Q E hg hr h => by
    obtain ⟨t, ht, hq⟩ := hbody cdv A outer s H vs Q E hg hr h
    exact ⟨t, ht.nox, hq⟩
end PK
namespace K08
open PySem PySem.Spec PyProof.Rows L2 PK
def topS (i : Nat) : Stmt := PySem.Challenge.pw_partkits_k08_choices_and_wants.main.body.getD i (.Pass ⟨0, 0, 0, 0⟩)
abbrev NFeed : List Str := ["_law_script"]
theorem scFeed : FnScope NFeed ["_law_script"] (defScope (topS 6)) := ⟨rfl, rfl, rfl, by decide +kernel, rfl, by decide +kernel, by decide +kernel⟩
section
variable {P : Program} {w : World} {K : PySem.W.Frag} {mg : Str → Option Value} {base : Heap}
def spFeed (K : PySem.W.Frag) : Sp := fun vs H Q _ => ∃ (a : Addr) (ns : List Int), vs = [.ref a] ∧ SqL K H a (ns.map V.int) ∧
  ∀ p c H', H p = none → Same H H' → IsFeed H' p c → Q (.ref p) H'
theorem ok_feed {f : Addr} {fd : FuncData} {k : Nat} (F : Fun K "_law_feed" "_law_feed" (topS 6) f fd) (hL : mg "list" = none) :
    FnOk P w K mg base CX0 (k + 1) f fd ["_law_script"] (spFeed K) := by
  refine F.ok scFeed (fun vs H Q E h => ?_) (fun cdv A outer s H vs Q E hr h => ?_)
  · obtain ⟨a, ns, rfl, _⟩ := h
    rfl
  · obtain ⟨a, ns, rfl, hS, q⟩ := h
    refine ⟨_, (pss_one (ps_ret (pe_disp (pps_cons pe_str (pe_callTy (k_list K) (by rfl) hL (by decide +kernel) (pa_cons (pe_slice (ks_list K) (pv 0) po_none (po_some pe_int)) pa_nil)) (pps_cons pe_str pe_int (pps_cons pe_str pe_int (pps_cons pe_str pe_int pps_nil)))) (by rfl) (by rfl) (fun z => by cases z) (by decide)))), ?_⟩
    intro p np
    have sp : Same H (upd H p (.dK [])) := same_new (Same.refl H) np
    refine ⟨.ref a, rfl, 63, rfl, a, ns.map V.int, rfl, sp.seq hS, fun c nc => ?_⟩
    have ncp : c ≠ p := fun e => by
      rw [e, upd_same] at nc
      cases nc
    refine ⟨c, _, rfl, .inl (.inl (.inl upd_same)), fun d nd => ?_⟩
    have ndp : d ≠ p := fun e => by
      rw [e, upd_ne ncp.symm, upd_same] at nd
      cases nd
    refine ⟨?_, feed d 0 0 0, rfl, by show 4 ≤ 15; decide, ?_⟩
    · rw [upd_ne ndp.symm, upd_ne ncp.symm, upd_same]
    · rw [feed_merge]
      have s2 : Same H (upd (upd (upd H p (.dK [])) c (.lst (cutV (ns.map V.int) none (some 63)))) d (.lst (cutV (ns.map V.int) none (some 63)))) := same_new (same_new sp nc) nd
      refine q p d _ np (same_own s2 np) ⟨(ns.drop (HT.sIx ns.length 0 none)).take (HT.sIx ns.length ns.length (some 63) - HT.sIx ns.length 0 none), 0, 0, 0, upd_same, ?_, by decide⟩
      rw [upd_ne ndp, upd_same]
      unfold cutV
      rw [List.map_take, List.map_drop, List.length_map]
end
abbrev NDraw : List Str := ["_law_feed_here", "_law_many_here", "_law_figure", "_law_at", "_law_cell", "_law_mixed"]
theorem scDraw : FnScope NDraw ["_law_feed_here", "_law_many_here"] (defScope (topS 7)) := ⟨rfl, rfl, rfl, by decide +kernel, rfl, by decide +kernel, by decide +kernel⟩
section
variable {P : Program} {w : World} {K : PySem.W.Frag} {mg : Str → Option Value} {base : Heap}
theorem ok_draw {f : Addr} {fd : FuncData} {k : Nat} (F : Fun K "_law_draw" "_law_draw" (topS 7) f fd) (hl : mg "len" = none) :
    FnOk P w K mg base CX0 (k + 1) f fd ["_law_feed_here", "_law_many_here"] spDraw := by
  refine F.ok scDraw (fun vs H Q E h => ?_) (fun cdv A outer s H vs Q E hr h => ?_)
  · obtain ⟨a, c, m, rfl, _⟩ := h
    rfl
  · obtain ⟨a, c, m, rfl, ⟨cs, i, l, n, fd⟩, m0, m1, q⟩ := h
    have e0 : Ext a H H := Ext.refl a H
    refine ⟨_, (pss_cons (ps_dput (hu_of hr) (pv 0) pe_str (pe_op op_add (pe_dget (hu_of hr) (pv 0) pe_str (fun _ _ => rfl)) pe_int) rfl)
  (pss_cons (ps_if (pt_cmpR op_gt (pe_dget (hu_of hr) (pv 0) pe_str (fun _ _ => rfl)) pe_int (nomark _))
  (pss_cons (ps_set (i := 2) scDraw.nd rfl (.inl rfl) (pe_op op_mod (pe_dget (hu_of hr) (pv 0) pe_str (fun _ _ => rfl)) (pv 1)))
  (pss_cons (ps_dput (hu_of hr) (pv 0) pe_str (pe_op op_fdiv (pe_dget (hu_of hr) (pv 0) pe_str (fun _ _ => rfl)) (pv 1)) rfl)
  (pss_one (ps_ret (pv 2))))) pss_nil)
  (pss_cons (ps_set (i := 3) scDraw.nd rfl (.inl rfl) (pe_dget (hu_of hr) (pv 0) pe_str (fun _ _ => rfl)))
  (pss_cons (ps_dput (hu_of hr) (pv 0) pe_str (pe_op op_add (pv 3) pe_int) rfl)
  (Evl.pss_cut (ps_set (i := 4) scDraw.nd rfl (.inl rfl) (pe_ifExp (pt_cmpR (ko_neNil K hr) (pe_dget (hu_of hr) (pv 0) pe_str (fun _ _ => rfl)) (pe_lst pa_nil) (nomark _)) (pe_ix (kx_list K) (pe_dget (hu_of hr) (pv 0) pe_str (fun _ _ => rfl)) (pe_op op_mod (pv 3) (pe_callB (k_len K) (by rfl) hl PySem.boot_len (pa_cons (pe_dget (hu_of hr) (pv 0) pe_str (fun _ _ => rfl)) pa_nil))) (fun _ _ => rfl)) pe_int))
  (Evl.pss_cut (ps_if (PW.pt (pw_and (pt_cmpR op_ge (pv 4) (pe_op op_pow pe_int pe_int) (nomark _)) (pw_and1 (pt_cmpR op_lt (pv 3) (pe_callB (k_len K) (by rfl) hl PySem.boot_len (pa_cons (pe_dget (hu_of hr) (pv 0) pe_str (fun _ _ => rfl)) pa_nil)) (nomark _)))))
  (pss_cons (ps_dput (hu_of hr) (pv 0) pe_str (pe_op op_fdiv (pv 4) (pv 1)) rfl)
  (pss_one (ps_ret (pe_op op_mod (pv 4) (pv 1))))) pss_nil)
  (pss_cons (ps_set (i := 5) scDraw.nd rfl (.inl rfl) (pe_op op_mod (pe_op op_add (pe_op op_add (pe_op op_mod (pv 4) pe_int) (pe_op op_mul pe_int (pe_dget (hu_of hr) (pv 0) pe_str (fun _ _ => rfl)))) pe_int) pe_int))
  (pss_cons (ps_set (i := 5) scDraw.nd rfl (.inl rfl) (pe_op op_mod (pe_op op_add (pe_op op_add (pe_op op_mul (pv 5) (pv 5)) (pe_op op_mul pe_int (pe_dget (hu_of hr) (pv 0) pe_str (fun _ _ => rfl)))) pe_int) pe_int))
  (pss_one (ps_ret (pe_op op_mod (pe_op op_fdiv (pe_op op_mod (pe_op op_add (pe_op op_mul (pv 5) (pv 5)) (pe_op op_mul pe_int (pv 5))) pe_int) pe_int) (pv 1)))))))))))), ?_⟩
    refine ⟨.ref a, rfl, a, .int n, rfl, DGet.k (k := kN) fd.d, n, 1, rfl, rfl, .ref a, rfl, a, _, rfl, DPut.k (k := kN) fd.d (feed_len c i l n), ?_⟩
    rw [feed_putN]
    have f1 := fd.put (l' := l) (n' := n + 1) fd.i0
    have e1 : Ext a H (upd H a (.dK (feed c i l (n + 1)))) := e0.at
    generalize upd H a (.dK (feed c i l (n + 1))) = H1 at f1 e1
    refine ⟨.ref a, rfl, a, .int l, rfl, DGet.k (k := kL) f1.d, l, 0, rfl, rfl, _, rfl, ite2 (fun hl0 => ?_) (fun hl0 => ?_)⟩
    · have hl0 : 0 < l := of_decide_eq_true hl0
      refine ⟨.ref a, rfl, a, .int l, rfl, DGet.k (k := kL) f1.d, .int m, rfl, l, m, rfl, rfl, m0, ?_⟩
      refine ⟨.ref a, rfl, a, .int l, rfl, DGet.k (k := kL) f1.d, .int m, rfl, l, m, rfl, rfl, ⟨m0, by omega⟩, .ref a, rfl, a, _, rfl, DPut.k (k := kL) f1.d (feed_len c i l (n + 1)), ?_⟩
      rw [feed_putL]
      refine ⟨.int (l % m), rfl, q _ _ (Int.emod_nonneg _ (by omega)) (Int.emod_lt_of_pos _ m0) e1.at ?_⟩
      exact ⟨cs, _, _, _, f1.put f1.i0⟩
    · refine ⟨.ref a, rfl, a, .int i, rfl, DGet.k (k := kA) f1.d, .int i, rfl, i, 1, rfl, rfl, .ref a, rfl, a, _, rfl, DPut.k (k := kA) f1.d (feed_len c i l (n + 1)), ?_⟩
      rw [feed_putA]
      have i1 : 0 ≤ i + 1 := by have := f1.i0; omega
      have f2 := f1.put (l' := l) (n' := n + 1) i1
      have e2 : Ext a H (upd H1 a (.dK (feed c (i + 1) l (n + 1)))) := e1.at
      generalize upd H1 a (.dK (feed c (i + 1) l (n + 1))) = H2 at f2 e2
      -- the cell
      refine ⟨fun σ H3 => ∃ z, σ = [some (.ref a), some (.int m), none, some (.int i), some (.int z), none] ∧ Feed H3 a c cs (i + 1) l (n + 1) ∧ Ext a H H3, ?_, ?_⟩
      · refine ⟨.ref a, rfl, a, .ref c, rfl, DGet.k (k := kC) f2.d, Nat.zero_le _, fun p np => ⟨c, p, cs.map V.int, rfl, rfl, .inl (.inl ((f2.new np).l)), .inl (.inl upd_same), ?_⟩⟩
        have f3 := f2.new (o := .lst []) np
        have e3 : Ext a H (upd H2 p (.lst [])) := e2.new np
        generalize upd H2 p (.lst []) = H3 at f3 e3
        cases cs with
        | nil => exact ⟨_, rfl, iteF ⟨8, rfl, f3, e3⟩⟩
        | cons x r =>
          have hlen : (((x :: r).map V.int).length : Int) = ((r.length + 1 : Nat) : Int) := by
            rw [List.length_map, List.length_cons]
          refine ⟨_, rfl, iteT ⟨.ref a, rfl, a, .ref c, rfl, DGet.k (k := kC) f3.d, .int i, rfl, .ref a, rfl, a, .ref c, rfl, DGet.k (k := kC) f3.d, c, _, rfl, .inl (.inl (.inl f3.l)), i, _, rfl, rfl, ?_, ?_⟩⟩
          · rw [hlen]
            omega
          · have hb : (i % ((((x :: r).map V.int).length : Nat) : Int)).toNat < (x :: r).length := by
              rw [hlen, List.length_cons]
              have h1 := Int.emod_nonneg i (show ((r.length + 1 : Nat) : Int) ≠ 0 by omega)
              have h2 := Int.emod_lt_of_pos i (show (0 : Int) < ((r.length + 1 : Nat) : Int) by omega)
              omega
            have h0 : 0 ≤ i % ((((x :: r).map V.int).length : Nat) : Int) := Int.emod_nonneg _ (by rw [hlen]; omega)
            refine ⟨c, _, _, .int ((x :: r)[(i % ((((x :: r).map V.int).length : Nat) : Int)).toNat]), rfl, rfl, .inl (.inl f3.l), at_of (j := (i % ((((x :: r).map V.int).length : Nat) : Int)).toNat) (by omega) ?_, ?_⟩
            · rw [List.getElem?_map, List.getElem?_eq_getElem hb]
              rfl
            · exact ⟨_, rfl, f3, e3⟩
      · rintro σ H3 ⟨z, rfl, f3, e3⟩
        -- a great cell, or a lesser one
        refine ⟨fun σ H4 => σ = [some (.ref a), some (.int m), none, some (.int i), some (.int z), none] ∧ H4 = H3, ?_, ?_⟩
        · refine ⟨.int z, rfl, 10, 18, rfl, rfl, ⟨by decide, by decide, by decide⟩, _, _, rfl, rfl, _, rfl, ite2 (fun hz => ?_) (fun hz => iteF ⟨rfl, rfl⟩)⟩
          refine ⟨.int i, rfl, .ref a, rfl, a, .ref c, rfl, DGet.k (k := kC) f3.d, c, _, rfl, .inl (.inl (.inl f3.l)), _, _, rfl, rfl, _, rfl, ite2 (fun h2 => ?_) (fun h2 => ⟨rfl, rfl⟩)⟩
          refine ⟨.int z, rfl, .int m, rfl, z, m, rfl, rfl, ⟨m0, by omega⟩, .ref a, rfl, a, _, rfl, DPut.k (k := kL) f3.d (feed_len c (i + 1) l (n + 1)), ?_⟩
          rw [feed_putL]
          refine ⟨.int z, rfl, .int m, rfl, z, m, rfl, rfl, m0, q _ _ (Int.emod_nonneg _ (by omega)) (Int.emod_lt_of_pos _ m0) e3.at ?_⟩
          exact ⟨cs, _, _, _, f3.put f3.i0⟩
        · rintro σ H4 ⟨rfl, rfl⟩
          have fin : IsFeed H4 a c := ⟨cs, _, _, _, f3⟩
          refine ⟨.int z, rfl, z, 1000000033, rfl, rfl, (show (0 : Int) < 1000000033 by decide), .ref a, rfl, a, .int (n + 1), rfl, DGet.k (k := kN) f3.d, 70001, n + 1, rfl, rfl, .inl ⟨by decide, by decide⟩, _, _, rfl, rfl, _, 37, rfl, rfl, _, 2147483587, rfl, rfl, (show (0 : Int) < 2147483587 by decide), ?_⟩
          dsimp only
          have hx0 := Int.emod_nonneg (z % 1000000033 + 70001 * (n + 1) + 37) (show (2147483587 : Int) ≠ 0 by decide)
          have hx1 := Int.emod_lt_of_pos (z % 1000000033 + 70001 * (n + 1) + 37) (show (0 : Int) < 2147483587 by decide)
          generalize (z % 1000000033 + 70001 * (n + 1) + 37) % 2147483587 = x at hx0 hx1
          refine ⟨.int x, rfl, .int x, rfl, x, x, rfl, rfl, .inl ⟨by omega, by omega⟩, .ref a, rfl, a, .int (n + 1), rfl, DGet.k (k := kN) f3.d, 6700417, n + 1, rfl, rfl, .inl ⟨by decide, by decide⟩, _, _, rfl, rfl, _, 7, rfl, rfl, _, 2147483563, rfl, rfl, (show (0 : Int) < 2147483563 by decide), ?_⟩
          dsimp only
          have hy0 := Int.emod_nonneg (x * x + 6700417 * (n + 1) + 7) (show (2147483563 : Int) ≠ 0 by decide)
          have hy1 := Int.emod_lt_of_pos (x * x + 6700417 * (n + 1) + 7) (show (0 : Int) < 2147483563 by decide)
          generalize (x * x + 6700417 * (n + 1) + 7) % 2147483563 = y at hy0 hy1
          refine ⟨.int y, rfl, .int y, rfl, y, y, rfl, rfl, .inl ⟨by omega, by omega⟩, .int y, rfl, 17, y, rfl, rfl, .inl ⟨by decide, by decide⟩, _, _, rfl, rfl, _, 2147483549, rfl, rfl, (show (0 : Int) < 2147483549 by decide), _, 8, rfl, rfl, ⟨by decide, by decide⟩, .int m, rfl, _, m, rfl, rfl, m0, ?_⟩
          exact q _ _ (Int.emod_nonneg _ (by omega)) (Int.emod_lt_of_pos _ m0) e3 fin
end
end K08
namespace K08
open PySem PySem.Spec PyProof.Rows L2 PK
abbrev NNames : List Str := ["_law_feed_here", "_law_many_here", "_law_letters", "_law_found", "_law_at", "_law_k", "_law_tail", "_law_j"]
theorem scNames : FnScope NNames ["_law_feed_here", "_law_many_here"] (defScope (topS 8)) := ⟨rfl, rfl, rfl, by decide +kernel, rfl, by decide +kernel, by decide +kernel⟩
section
variable {P : Program} {w : World} {K : PySem.W.Frag} {mg : Str → Option Value} {base : Heap}
set_option maxHeartbeats 8000000 in
theorem ok_names {f fD : Addr} {fd fdD : FuncData} {k : Nat} (F : Fun K "_law_names" "_law_names" (topS 8) f fd)
    (D : Cal P w K mg base 1 "_law_draw" fD fdD ["_law_feed_here", "_law_many_here"] spDraw) (hl : mg "len" = none) (hR : mg "range" = none) :
    FnOk P w K mg base CX0 (k + 2) f fd ["_law_feed_here", "_law_many_here"] spNames := by
  refine F.ok scNames (fun vs H Q E h => ?_) (fun cdv A outer s H vs Q E hr h => ?_)
  · obtain ⟨a, c, m, rfl, _⟩ := h
    rfl
  · obtain ⟨a, c, m, rfl, fe, m0, m1, q⟩ := h
    refine ⟨_, (pss_cons (ps_set (i := 2) scNames.nd rfl (.inr rfl) pe_str)
  (pss_cons (ps_set (i := 3) scNames.nd rfl (.inl rfl) (pe_lst pa_nil))
  (pss_cons (ps_set (i := 4) scNames.nd rfl (.inl rfl) (pe_call D.ok (hr.mono (Nat.le_add_left 1 k)) (by rfl) D.g D.kp D.b .nil pass0 (pa_cons (pv 0) (pa_cons pe_int pa_nil))))
  (pss_cons (ps_for PassesOwn.never rfl (pi_range1 (by rfl) hR (pa_cons (pv 1) pa_nil)) (pg_name (i := 5) scNames.nd rfl (.inl rfl))
  (pss_one (ps_if (PW.pt (pw_and (pt_cmpR (ko_neNil K hr) (pv 3) (pe_lst pa_nil) (nomark _)) (pw_and (pt_cmpR op_lt (pe_callB call_len_str (by rfl) hl PySem.boot_len (pa_cons (pe_ix (kx_list K) (pv 3) (pe_un un_neg pe_int) (fun _ _ => rfl)) pa_nil)) pe_int (nomark _)) (pw_and1 (pt_cmpR op_eq (pe_call D.ok (hr.mono (Nat.le_add_left 1 k)) (by rfl) D.g D.kp D.b .nil pass0 (pa_cons (pv 0) (pa_cons pe_int pa_nil))) pe_int (nomark _))))))
  (pss_one (ps_expr (pe_bm PySem.F.plainAttrs_list PySem.F.slot_list_append PySem.F.type_list_append mt_append (pv 3) (pa_cons (pe_op op_add_str (pe_ix (kx_list K) (pv 3) (pe_un un_neg pe_int) (fun _ _ => rfl)) (pe_ix ix_str (pv 2) (pe_call D.ok (hr.mono (Nat.le_add_left 1 k)) (by rfl) D.g D.kp D.b .nil pass0 (pa_cons (pv 0) (pa_cons pe_int pa_nil))) (fun _ _ => rfl))) pa_nil)))) (pss_cons (ps_set (i := 4) scNames.nd rfl (.inl rfl) (pe_op op_add (pv 4) pe_int))
  (pss_cons (ps_setLc (i := 6) (own := [("_law_j", 7)]) rfl scNames.nd rfl rfl (sw_true rfl rfl rfl (by decide +kernel)) (pi_range1 (by rfl) hR (pa_cons (pe_ix (kx_list K) (pe_lst (pa_cons pe_int (pa_cons pe_int (pa_cons pe_int (pa_cons pe_int pa_nil))))) (pe_call D.ok (hr.mono (Nat.le_add_left 1 k)) (by rfl) D.g D.kp D.b .nil pass0 (pa_cons (pv 0) (pa_cons pe_int pa_nil))) (fun _ _ => rfl)) pa_nil)) (blkOk_by (N := NNames) (sc := defScope (topS 8)) (own := [("_law_j", 7)]) (by decide +kernel)) (fun _ _ _ _ _ => (pg_name (i := 7) scNames.nd rfl (.inl rfl))) (fun _ _ _ _ _ => pts_nil) (fun _ _ _ _ _ => (pe_ix ix_str (pv 2) (pe_call D.ok (hr.mono (Nat.le_add_left 1 k)) (by rfl) D.g D.kp D.b .nil pass0 (pa_cons (pv 0) (pa_cons pe_int pa_nil))) (fun _ _ => rfl))))
  (pss_one (ps_expr (pe_bm PySem.F.plainAttrs_list PySem.F.slot_list_append PySem.F.type_list_append mt_append (pv 3) (pa_cons (pe_op op_add_str (pe_ix ix_str (pv 2) (pe_op op_mod (pv 4) pe_int) (fun _ _ => rfl)) (pe_join pe_str (pv 6))) pa_nil)))))))))
  (pss_one (ps_ret (pv 3))))))), ?_⟩
    refine ⟨Nat.zero_le _, fun o no => ?_⟩
    have noc := fe.ne no
    have noa := noc.1
    have s1 : Ext a H (upd H o (.lst [])) := (Ext.refl a H).new no
    refine ⟨.ref a, rfl, a, c, 26, rfl, fe.new no, by decide, by decide, fun at0 H1 _ _ e1 f1 => ?_⟩
    have eo1 : H1 o = some (.lst []) := e1 o _ upd_same noa
    have x1 : Ext a H H1 := s1.trans e1
    refine ⟨.int m, rfl, m, rfl, by omega, by omega, for_range (lo := 0) (n := m.toNat) (fun k σ H2 => ∃ (ws : List Str) (z : Int) (y5 y6 : Option V),
      σ = [some (.ref a), some (.int m), some (.str abc), some (.ref o), some (.int z), y5, y6, none] ∧ ws.length = k ∧ (∀ y ∈ ws, Word y) ∧
      H2 o = some (.lst (ws.map V.str)) ∧ Ext a H H2 ∧ IsFeed H2 a c) ?_ ?_ ?_⟩
    · exact ⟨[], at0, none, none, rfl, rfl, fun _ h => (nomatch h), eo1, x1, f1⟩
    · rintro k σ H2 hk ⟨ws, z, y5, y6, rfl, hlen, hw, eo, x2, f2⟩
      have small : (ws.map V.str).length < sizeLine := by
        rw [List.length_map]
        exact small1000 (by omega)
      -- the new word stands at the end
      have put : ∀ (y : Str) (H3 : Hp), Word y → Ext a H2 H3 → IsFeed H3 a c → ∀ (z' : Int) (y6' : Option V), ∃ (ws' : List Str) (z2 : Int) (y5' y6'' : Option V),
          [some (.ref a), some (.int m), some (.str abc), some (.ref o), some (.int z'), some (V.int (0 + k)), y6', none] =
            [some (.ref a), some (.int m), some (.str abc), some (.ref o), some (.int z2), y5', y6'', none] ∧ ws'.length = k + 1 ∧ (∀ y ∈ ws', Word y) ∧
          upd H3 o (.lst (ws.map V.str ++ [.str y])) o = some (.lst (ws'.map V.str)) ∧ Ext a H (upd H3 o (.lst (ws.map V.str ++ [.str y]))) ∧ IsFeed (upd H3 o (.lst (ws.map V.str ++ [.str y]))) a c := by
        intro y H3 hy e3 f3 z' y6'
        refine ⟨ws ++ [y], z', _, y6', rfl, by rw [List.length_append, hlen]; rfl, fun v hv => ?_, ?_, (x2.trans e3).own no, ?_⟩
        · rcases List.mem_append.mp hv with h | h
          · exact hw v h
          · rw [List.mem_singleton.mp h]; exact hy
        · rw [upd_same, List.map_append]
          rfl
        · exact f3.own noc
      show tIfS _ _ _ _ _ _
      refine if_else (fun H3 => Ext a H2 H3 ∧ IsFeed H3 a c) (fun H3 ⟨e3, f3⟩ => ?_) (fun other => ?_)
      · -- another word: one to eight signs
        have eo3 := e3 o _ eo noa
        refine ⟨.int z, rfl, z, 1, rfl, rfl, Nat.le_trans (by decide : (4 : Nat) ≤ 4) (by decide : (4 : Nat) ≤ sizeLine), fun p np => ?_⟩
        have npc := f3.ne np
        refine ⟨.ref a, rfl, a, c, 4, rfl, f3.new np, by decide, by decide, fun r H4 r0 r1 e4 f4 => ?_⟩
        have ep4 : H4 p = some (.lst [.int 0, .int 0, .int 1, .int 7]) := e4 p _ upd_same npc.1
        have hr' : ∃ n : Nat, n ≤ 7 ∧ atI [V.int 0, .int 0, .int 1, .int 7] r = some (.int n) := by
          have : r = 0 ∨ r = 1 ∨ r = 2 ∨ r = 3 := by omega
          rcases this with rfl | rfl | rfl | rfl
          · exact ⟨0, by decide, rfl⟩
          · exact ⟨0, by decide, rfl⟩
          · exact ⟨1, by decide, rfl⟩
          · exact ⟨7, by decide, rfl⟩
        obtain ⟨n, n7, en⟩ := hr'
        refine ⟨p, _, r, .int n, rfl, rfl, .inl (.inl ep4), en, n, rfl, by omega, by omega, fun d nd => ?_⟩
        have x4 : Ext a H2 H4 := (e3.new np).trans e4
        have ndc := f4.ne nd
        have eo4 : H4 o = some (.lst (ws.map V.str)) := x4 o _ eo noa
        refine lc_range (lo := 0) (n := (n : Int).toNat) (fun j H5 => ∃ l : List Nat, l.length = j ∧ (∀ x ∈ l, Lw x) ∧ H5 d = some (.lst ((l.map fun x => (⟨#[x]⟩ : Str)).map V.str)) ∧ Ext a H4 H5 ∧ IsFeed H5 a c) ?_ ?_ ?_
        · exact ⟨[], rfl, fun _ h => (nomatch h), upd_same, (Ext.refl a H4).new nd, f4.new nd⟩
        · rintro j H5 hj ⟨l, ll, lw, ed, e5, f5⟩
          refine ⟨rfl, .str abc, rfl, .ref a, rfl, a, c, 26, rfl, f5, by decide, by decide, fun r H6 r0 r1 e6 f6 => ?_⟩
          obtain ⟨x, ex, hx⟩ := abc_at r0 r1
          refine ⟨abc, r, x, rfl, rfl, abc_len, ex, _, e6 d _ ed ndc.1, ?_, l ++ [x], by rw [List.length_append, ll]; rfl, fun v hv => ?_, ?_, (e5.trans e6).own nd, f6.own ndc⟩
          · rw [List.length_map, List.length_map]
            exact small1000 (by omega)
          · rcases List.mem_append.mp hv with h | h
            · exact lw v h
            · rw [List.mem_singleton.mp h]; exact hx
          · rw [upd_same, List.map_append, List.map_append]
            rfl
        · rintro H5 ⟨l, ll, lw, ed, e5, f5⟩
          have z0 := Int.emod_nonneg (z + 1) (show (26 : Int) ≠ 0 by decide)
          have z1 := Int.emod_lt_of_pos (z + 1) (show (0 : Int) < 26 by decide)
          obtain ⟨x, ex, hx⟩ := abc_at z0 z1
          have l7 : l.length ≤ 7 := by omega
          have x5 : Ext a H2 H5 := x4.trans e5
          have eo5 := x5 o _ eo noa
          have wd := word_join hx l7 lw
          refine ⟨.ref o, rfl, .inl ⟨rfl, _, .inl (.inl eo5)⟩, .str abc, rfl, .int (z + 1), rfl, z + 1, 26, rfl, rfl, (show (0 : Int) < 26 by decide), abc, _, x, rfl, rfl, abc_len, ex, ⟨_, rfl⟩, .ref d, rfl, _, d, _, rfl, rfl, .inl (.inl (.inl ed)), ?_, _, _, rfl, rfl, ?_, o, _, _, rfl, rfl, eo5, small, put _ H5 wd x5 f5 _ _⟩
          · have e0 : ((l.map fun x => (⟨#[x]⟩ : Str)).map (·.length)).sum = l.length := by
              rw [List.map_map]
              clear ed lw ll l7 wd
              induction l with
              | nil => rfl
              | cons y r ih =>
                rw [List.map_cons, List.sum_cons, ih]
                show 1 + r.length = r.length + 1
                omega
            rw [e0]
            have e1 : ((Str.ofString "").length : Nat) = 0 := rfl
            rw [List.length_map, e1]
            omega
          · have := wd.eight
            rw [strLen_append] at this
            exact Nat.le_trans this (by decide)
      · -- is there one, and short?
        refine ⟨.ref o, rfl, Nat.zero_le _, fun p np => ⟨o, p, ws.map V.str, rfl, rfl, .inl (.inl (by rw [upd_ne (ne_of_none eo np)]; exact eo)), .inl (.inl upd_same), ?_⟩⟩
        have x3 : Ext a H2 (upd H2 p (.lst [])) := (Ext.refl a H2).new np
        have f3 := f2.new (o := .lst []) np
        have eo3 := x3 o _ eo noa
        generalize upd H2 p (.lst []) = H3 at x3 f3 eo3
        by_cases hn : ws = []
        · subst hn
          exact ⟨_, rfl, iteF (iteF (other H3 ⟨x3, f3⟩))⟩
        · have he : (!(ws.map V.str).isEmpty) = true := by
            cases ws with
            | nil => exact absurd rfl hn
            | cons _ _ => rfl
          rw [he]
          have wl : Word (ws.getLast hn) := hw _ (List.getLast_mem hn)
          refine ⟨_, rfl, iteT ⟨.ref o, rfl, 1, rfl, o, _, -1, _, rfl, rfl, .inl (.inl eo3), strs_last hn, _, rfl, Nat.le_trans wl.eight (by decide), _, 8, rfl, rfl, _, rfl, ite2 (fun h8 => ?_) (fun h8 => iteF (other H3 ⟨x3, f3⟩))⟩⟩
          have h8 : ((ws.getLast hn).length : Int) < 8 := of_decide_eq_true h8
          refine ⟨.ref a, rfl, a, c, 3, rfl, f3, by decide, by decide, fun r H4 r0 r1 e4 f4 => ⟨rfl, _, rfl, ?_⟩⟩
          have x4 : Ext a H2 H4 := x3.trans e4
          refine ite2 (fun hr0 => ?_) (fun hr0 => other H4 ⟨x4, f4⟩)
          have eo4 := x4 o _ eo noa
          refine ⟨.ref o, rfl, .inl ⟨rfl, _, .inl (.inl eo4)⟩, .ref o, rfl, 1, rfl, o, _, -1, _, rfl, rfl, .inl (.inl eo4), strs_last hn, .str abc, rfl, .ref a, rfl, a, c, 26, rfl, f4, by decide, by decide, fun r2 H5 s0 s1 e5 f5 => ?_⟩
          obtain ⟨x, ex, hx⟩ := abc_at s0 s1
          have x5 : Ext a H2 H5 := x4.trans e5
          refine ⟨abc, r2, x, rfl, rfl, abc_len, ex, _, _, rfl, rfl, ?_, o, _, _, rfl, rfl, x5 o _ eo noa, small, put _ H5 (word_snoc wl (by omega) hx) x5 f5 _ _⟩
          rw [len_one]
          exact Nat.le_trans (show _ ≤ 9 by omega) (by decide)
    · rintro σ H2 ⟨ws, z, y5, y6, rfl, hlen, hw, eo, x2, f2⟩
      exact ⟨.ref o, rfl, q o H2 ws no x2 f2 eo (by omega) hw⟩
end
end K08
namespace K08
open PySem PySem.Spec PyProof.Rows L2 PK
abbrev NMany : List Str := ["_law_feed_here"]
theorem scMany : FnScope NMany ["_law_feed_here"] (defScope (topS 9)) := ⟨rfl, rfl, rfl, by decide +kernel, rfl, by decide +kernel, by decide +kernel⟩
section
variable {P : Program} {w : World} {K : PySem.W.Frag} {mg : Str → Option Value} {base : Heap}
theorem ok_many {f fD : Addr} {fd fdD : FuncData} {k : Nat} (F : Fun K "_law_many" "_law_many" (topS 9) f fd)
    (D : Cal P w K mg base 1 "_law_draw" fD fdD ["_law_feed_here", "_law_many_here"] spDraw) :
    FnOk P w K mg base CX0 (k + 2) f fd ["_law_feed_here"] spMany := by
  refine F.ok scMany (fun vs H Q E h => ?_) (fun cdv A outer s H vs Q E hr h => ?_)
  · obtain ⟨a, c, rfl, _⟩ := h
    rfl
  · obtain ⟨a, c, rfl, fe, q⟩ := h
    refine ⟨_, (pss_one (ps_ret (pe_ix (kx_list K) (pe_lst (pa_cons pe_int (pa_cons (pe_op op_add pe_int (pe_call D.ok (hr.mono (Nat.le_add_left 1 k)) (by rfl) D.g D.kp D.b .nil pass0 (pa_cons (pv 0) (pa_cons pe_int pa_nil)))) (pa_cons (pe_op op_sub (pe_op op_pow pe_int pe_int) (pe_call D.ok (hr.mono (Nat.le_add_left 1 k)) (by rfl) D.g D.kp D.b .nil pass0 (pa_cons (pv 0) (pa_cons pe_int pa_nil)))) (pa_cons (pe_op op_add pe_int (pe_call D.ok (hr.mono (Nat.le_add_left 1 k)) (by rfl) D.g D.kp D.b .nil pass0 (pa_cons (pv 0) (pa_cons (pe_op op_pow pe_int pe_int) pa_nil)))) pa_nil))))) (pe_call D.ok (hr.mono (Nat.le_add_left 1 k)) (by rfl) D.g D.kp D.b .nil pass0 (pa_cons (pv 0) (pa_cons pe_int pa_nil))) (fun _ _ => rfl)))), ?_⟩
    refine ⟨.ref a, rfl, a, c, 9, rfl, fe, by decide, by decide, fun r1 H1 a0 a1 e1 f1 => ⟨_, _, rfl, rfl, 10, 9, rfl, rfl, ⟨by decide, by decide, by decide⟩, .ref a, rfl, a, c, 3, rfl, f1, by decide, by decide, fun r2 H2 b0 b1 e2 f2 => ⟨_, _, rfl, rfl, .ref a, rfl, 10, 6, rfl, rfl, ⟨by decide, by decide, by decide⟩, a, c, _, rfl, f2, by decide, by decide, fun r3 H3 c0 c1 e3 f3 => ⟨_, _, rfl, rfl, by show 4 ≤ sizeLine; decide, fun p np => ?_⟩⟩⟩⟩
    have npc := f3.ne np
    refine ⟨.ref a, rfl, a, c, 4, rfl, f3.new np, by decide, by decide, fun r H4 r0 r4 e4 f4 => ?_⟩
    have x4 : Ext a H H4 := (((e1.trans e2).trans e3).new np).trans e4
    have ep := e4 p _ upd_same npc.1
    have hz : ∃ z : Int, 1 ≤ z ∧ z ≤ 1000000000 ∧ atI [V.int 1, .int (1 + r1), .int (10 ^ 9 - r2), .int (1 + r3)] r = some (.int z) := by
      have : r = 0 ∨ r = 1 ∨ r = 2 ∨ r = 3 := by omega
      have c1' : r3 < 1000000 := c1
      rcases this with rfl | rfl | rfl | rfl
      · exact ⟨1, by decide, by decide, rfl⟩
      · exact ⟨1 + r1, by omega, by omega, rfl⟩
      · exact ⟨10 ^ 9 - r2, by omega, by omega, rfl⟩
      · exact ⟨1 + r3, by omega, by omega, rfl⟩
    obtain ⟨z, z0, z1, ez⟩ := hz
    exact ⟨p, _, r, .int z, rfl, rfl, .inl (.inl ep), ez, q z H4 z0 z1 x4 f4⟩
end
end K08
namespace K08
open PySem PySem.Spec PyProof.Rows L2 PK
abbrev NWant : List Str := ["_law_feed_here", "_law_forms", "_law_shades", "_law_form", "_law_some", "_law_shade"]
theorem scWant : FnScope NWant ["_law_feed_here", "_law_forms", "_law_shades"] (defScope (topS 10)) := ⟨rfl, rfl, rfl, by decide +kernel, rfl, by decide +kernel, by decide +kernel⟩
section
variable {P : Program} {w : World} {K : PySem.W.Frag} {mg : Str → Option Value} {base : Heap}
theorem ok_want {f fD fM : Addr} {fd fdD fdM : FuncData} {k : Nat} (F : Fun K "_law_want" "_law_want" (topS 10) f fd)
    (D : Cal P w K mg base 1 "_law_draw" fD fdD ["_law_feed_here", "_law_many_here"] spDraw) (Mn : Cal P w K mg base 2 "_law_many" fM fdM ["_law_feed_here"] spMany)
    (hl : mg "len" = none) (hT : mg "tuple" = none) (hS : mg "sorted" = none) :
    FnOk P w K mg base CX0 (k + 3) f fd ["_law_feed_here", "_law_forms", "_law_shades"] (spWant K) := by
  refine F.ok scWant (fun vs H Q E h => ?_) (fun cdv A outer s H vs Q E hr h => ?_)
  · obtain ⟨a, c, pf, ps, fs, ss, rfl, _⟩ := h
    rfl
  · obtain ⟨a, c, pf, ps, fs, ss, rfl, fe, wf, ws, q⟩ := h
    refine ⟨_, (pss_cons (ps_set (i := 3) scWant.nd rfl (.inl rfl) (pe_ix (kx_list K) (pv 1) (pe_call D.ok (hr.mono (Nat.le_add_left 1 (k + 1))) (by rfl) D.g D.kp D.b .nil pass0 (pa_cons (pv 0) (pa_cons (pe_callB (k_len K) (by rfl) hl PySem.boot_len (pa_cons (pv 1) pa_nil)) pa_nil))) (fun _ _ => rfl)))
  (pss_cons (ps_set (i := 4) scWant.nd rfl (.inl rfl) (pe_callTy (k_tup K) (by rfl) hT (by decide +kernel) (pa_cons (pe_lc (own := [("_law_shade", 5)]) rfl scWant.nd (pk_list K (pe_callB (k_sortedS K) (by rfl) hS (by decide +kernel) (pa_cons (pv 2) pa_nil))) (blkOk_by (N := NWant) (sc := defScope (topS 10)) (own := [("_law_shade", 5)]) (by decide +kernel)) (fun _ _ _ _ _ => (pg_name (i := 5) scWant.nd rfl (.inl rfl))) (fun _ _ _ _ _ => pts_one (pt_cmpR op_eq (pe_call D.ok (hr.mono (Nat.le_add_left 1 (k + 1))) (by rfl) D.g D.kp D.b .nil pass0 (pa_cons (pv 0) (pa_cons pe_int pa_nil))) pe_int (nomark _))) (fun _ _ _ _ _ => (pv 5))) pa_nil)))
  (pss_one (ps_ret (pe_tup (pa_cons (pv 3) (pa_cons (pv 4) (pa_cons (pe_call Mn.ok (hr.mono (Nat.le_add_left 2 k)) (by rfl) Mn.g Mn.kp Mn.b .nil pass0 (pa_cons (pv 0) pa_nil)) pa_nil)))))))), ?_⟩
    have lf : ((fs.map V.str).length : Int) = (fs.length : Int) := by rw [List.length_map]
    have hp := wf.pos
    have hf := wf.few
    refine ⟨.ref pf, rfl, .ref a, rfl, .ref pf, rfl, pf, _, rfl, .inl (.inl (.inl wf.at_)), a, c, _, rfl, fe, by rw [lf]; omega, by rw [lf]; omega, fun r H1 r0 r1 e1 f1 => ?_⟩
    rw [lf] at r1
    have hr1 : r.toNat < fs.length := by omega
    have wf1 := wf.ext fe e1
    have ws1 := ws.ext fe e1
    refine ⟨pf, _, r, .str fs[r.toNat], rfl, rfl, .inl (.inl wf1.at_), at_of (j := r.toNat) (by omega) (strs_at hr1), ?_⟩
    refine ⟨.ref ps, rfl, ps, ss, rfl, .inl (.inl ws1.at_), Nat.lt_of_le_of_lt ws.few (by decide), fun ys pz perm srt nz => ?_⟩
    have nzc := f1.ne nz
    have x2 : Ext a H (upd H1 pz (.lst (ys.map V.str))) := e1.new nz
    have f2 := f1.new (o := .lst (ys.map V.str)) nz
    have ez : (upd H1 pz (.lst (ys.map V.str))) pz = some (.lst (ys.map V.str)) := upd_same
    generalize upd H1 pz (.lst (ys.map V.str)) = H2 at x2 f2 ez
    have yw : ∀ y ∈ ys, Word y := fun y hy => ws.each y (perm.mem_iff.mp hy)
    have yl : ys.length ≤ 8 := by rw [perm.length_eq]; exact ws.few
    refine ⟨pz, rfl, ⟨_, .inl (.inl ez)⟩, fun d nd => ?_⟩
    have ndc := f2.ne nd
    have ndz : pz ≠ d := ne_of_none ez nd
    refine lc_list (K := K) (a := pz) (xs := ys.map V.str) (fun i H3 => ∃ zs : List Str, zs.length ≤ i ∧ (∀ y ∈ zs, Word y) ∧ H3 d = some (.lst (zs.map V.str)) ∧ H3 pz = some (.lst (ys.map V.str)) ∧ Ext a H2 H3 ∧ IsFeed H3 a c) ?_ ?_ ?_ ?_
    · exact ⟨[], Nat.le_refl _, fun _ h => (nomatch h), upd_same, by rw [upd_ne ndz]; exact ez, (Ext.refl a H2).new nd, f2.new nd⟩
    · rintro i H3 _ ⟨zs, _, _, _, h, _⟩
      exact .inl (.inl h)
    · rintro i x H3 hx ⟨zs, zl, zw, ed, ep, x3, f3⟩
      have hi : i < ys.length := by
        have := (List.getElem?_eq_some_iff.mp hx).1
        rwa [List.length_map] at this
      rw [strs_at hi] at hx
      cases hx
      refine ⟨rfl, .ref a, rfl, a, c, 2, rfl, f3, by decide, by decide, fun r H4 r0 r1 e4 f4 => ⟨rfl, _, rfl, ite2 (fun h0 => ?_) (fun h0 => ?_)⟩⟩
      · refine ⟨.str ys[i], rfl, _, e4 d _ ed ndc.1, ?_, zs ++ [ys[i]], ?_, fun y hy => ?_, ?_, ?_, (x3.trans e4).own nd, f4.own ndc⟩
        · rw [List.length_map]
          exact small1000 (by omega)
        · rw [List.length_append, List.length_singleton]; omega
        · rcases List.mem_append.mp hy with h | h
          · exact zw y h
          · rw [List.mem_singleton.mp h]; exact yw _ (List.getElem_mem hi)
        · rw [upd_same, List.map_append]; rfl
        · rw [upd_ne ndz]; exact e4 pz _ ep nzc.1
      · exact ⟨zs, by omega, zw, e4 d _ ed ndc.1, e4 pz _ ep nzc.1, x3.trans e4, f4⟩
    · rintro H3 ⟨zs, zl, zw, ed, ep, x3, f3⟩
      rw [List.length_map] at zl
      refine ⟨d, _, rfl, .inl ⟨.inl (.inl ed), fun t nt => ?_⟩⟩
      have f4 := f3.new (o := .tup (zs.map V.str)) nt
      have x4 : Ext a H (upd H3 t (.tup (zs.map V.str))) := (x2.trans x3).new nt
      have et : (upd H3 t (.tup (zs.map V.str))) t = some (.tup (zs.map V.str)) := upd_same
      generalize upd H3 t (.tup (zs.map V.str)) = H4 at f4 x4 et
      refine ⟨.str fs[r.toNat], rfl, .ref t, rfl, .ref a, rfl, a, c, rfl, f4, fun z H5 z0 z1 e5 f5 => ⟨by show 3 ≤ sizeLine; decide, fun u nu => ?_⟩⟩
      have et5 := (TKeep.feed f4 e5) t (.tup (zs.map V.str)) trivial et
      refine q (.ref u) _ (fs[r.toNat], zs, z) ⟨wf.each _ (List.getElem_mem hr1), zw, (show zs.length ≤ 8 by omega), z0, z1⟩ ((x4.trans e5).new nu) (f5.new nu) ?_
      exact .tup (SqT.of upd_same) (.cons (.str _) (.cons (.tup (SqT.of (by rw [upd_ne (ne_of_none et5 nu)]; exact et5)) (DpAll.strs zs)) (.cons (.int z) .nil)))
end
end K08
namespace K08
open PySem PySem.Spec PyProof.Rows L2 PK
abbrev NSheet : List Str := ["_law_feed_here", "_law_forms", "_law_shades", "_law_most_now", "_law_rows", "_law_k", "_law_ways", "_law_j", "_law_i"]
theorem scSheet : FnScope NSheet ["_law_feed_here", "_law_forms", "_law_shades", "_law_most_now"] (defScope (topS 11)) := ⟨rfl, rfl, rfl, by decide +kernel, rfl, by decide +kernel, by decide +kernel⟩
section
variable {P : Program} {w : World} {K : PySem.W.Frag} {mg : Str → Option Value} {base : Heap}
theorem ok_sheet {f fD fW : Addr} {fd fdD fdW : FuncData} {k : Nat} (F : Fun K "_law_sheet" "_law_sheet" (topS 11) f fd)
    (D : Cal P w K mg base 1 "_law_draw" fD fdD ["_law_feed_here", "_law_many_here"] spDraw) (W : Cal P w K mg base 3 "_law_want" fW fdW ["_law_feed_here", "_law_forms", "_law_shades"] (spWant K))
    (hR : mg "range" = none) (hT : mg "tuple" = none) :
    FnOk P w K mg base CX0 (k + 4) f fd ["_law_feed_here", "_law_forms", "_law_shades", "_law_most_now"] (spSheet K) := by
  refine F.ok scSheet (fun vs H Q E h => ?_) (fun cdv A outer s H vs Q E hr h => ?_)
  · obtain ⟨a, c, pf, ps, fs, ss, mo, rfl, _⟩ := h
    rfl
  · obtain ⟨a, c, pf, ps, fs, ss, mo, rfl, fe, wf, ws, hmo, q⟩ := h
    refine ⟨_, (pss_cons (ps_set (i := 4) scSheet.nd rfl (.inl rfl) (pe_lst pa_nil))
  (pss_cons (ps_for PassesOwn.never rfl (pi_range1 (by rfl) hR (pa_cons (pe_call D.ok (hr.mono (Nat.le_add_left 1 (k + 2))) (by rfl) D.g D.kp D.b .nil pass0 (pa_cons (pv 0) (pa_cons pe_int pa_nil))) pa_nil)) (pg_name (i := 5) scSheet.nd rfl (.inl rfl))
  (pss_cons (ps_set (i := 6) scSheet.nd rfl (.inl rfl) (pe_lst pa_nil))
  (pss_cons (ps_for PassesOwn.never rfl (pi_range1 (by rfl) hR (pa_cons (pe_op op_add pe_int (pe_call D.ok (hr.mono (Nat.le_add_left 1 (k + 2))) (by rfl) D.g D.kp D.b .nil pass0 (pa_cons (pv 0) (pa_cons pe_int pa_nil)))) pa_nil)) (pg_name (i := 7) scSheet.nd rfl (.inl rfl))
  (pss_one (ps_expr (pe_bm PySem.F.plainAttrs_list PySem.F.slot_list_append PySem.F.type_list_append mt_append (pv 6) (pa_cons (pe_callTy (k_tup K) (by rfl) hT (by decide +kernel) (pa_cons (pe_lc (own := [("_law_i", 8)]) rfl scSheet.nd (pi_range1 (by rfl) hR (pa_cons (pe_call D.ok (hr.mono (Nat.le_add_left 1 (k + 2))) (by rfl) D.g D.kp D.b .nil pass0 (pa_cons (pv 0) (pa_cons (pe_op op_add (pv 3) pe_int) pa_nil))) pa_nil)) (blkOk_by (N := NSheet) (sc := defScope (topS 11)) (own := [("_law_i", 8)]) (by decide +kernel)) (fun _ _ _ _ _ => (pg_name (i := 8) scSheet.nd rfl (.inl rfl))) (fun _ _ _ _ _ => pts_nil) (fun _ _ _ _ _ => (pe_call W.ok (hr.mono (Nat.le_add_left 3 k)) (by rfl) W.g W.kp W.b .nil pass0 (pa_cons (pv 0) (pa_cons (pv 1) (pa_cons (pv 2) pa_nil)))))) pa_nil)) pa_nil)))))
  (pss_one (ps_expr (pe_bm PySem.F.plainAttrs_list PySem.F.slot_list_append PySem.F.type_list_append mt_append (pv 4) (pa_cons (pe_callTy (k_tup K) (by rfl) hT (by decide +kernel) (pa_cons (pv 6) pa_nil)) pa_nil)))))))
  (pss_one (ps_ret (pe_callTy (k_tup K) (by rfl) hT (by decide +kernel) (pa_cons (pv 4) pa_nil)))))), ?_⟩
    -- rows = []
    refine ⟨Nat.zero_le _, fun o no => ?_⟩
    have noc := fe.ne no
    have xo : Ext a H (upd H o (.lst [])) := (Ext.refl a H).new no
    refine ⟨.ref a, rfl, a, c, 4, rfl, fe.new no, by decide, by decide, fun n H1 n0 n4 e1 f1 => ⟨n, rfl, by omega, by omega, ?_⟩⟩
    have x1 : Ext a H H1 := xo.trans e1
    have o1 : H1 o = some (.lst []) := e1 o _ upd_same noc.1
    refine for_range (lo := 0) (n := n.toNat) (fun k σ H2 => ∃ (rs : List PK.Row) (us : List V) (y5 y6 y7 : Option V),
      σ = [some (.ref a), some (.ref pf), some (.ref ps), some (.int mo), some (.ref o), y5, y6, y7, none] ∧ rs.length = k ∧ (∀ r ∈ rs, RowOk mo r) ∧
      H2 o = some (.lst us) ∧ DpAll K H2 us (rs.map rowD) ∧ Ext a H H2 ∧ IsFeed H2 a c) ⟨[], [], none, none, none, rfl, rfl, fun _ h => (nomatch h), o1, .nil, x1, f1⟩ ?_ ?_
    · rintro k σ H2 hk ⟨rs, us, y5, y6, y7, rfl, rl, rok, eo, du, x2, f2⟩
      -- ways = []
      refine ⟨Nat.zero_le _, fun o2 no2 => ?_⟩
      have no2c := f2.ne no2
      have ne2 : o ≠ o2 := ne_of_none eo no2
      have f2' := f2.new (o := .lst []) no2
      refine ⟨.ref a, rfl, a, c, 3, rfl, f2', by decide, by decide, fun n2 H3 m0 m3 e3 f3 => ⟨1, n2, rfl, rfl, 1 + n2, rfl, by omega, by omega, ?_⟩⟩
      have x3 : Ext a H2 H3 := ((Ext.refl a H2).new no2).trans e3
      have o23 : H3 o2 = some (.lst []) := e3 o2 _ upd_same no2c.1
      refine for_range (lo := 0) (n := (1 + n2).toNat) (fun j σ H4 => ∃ (wy : List Way) (us2 : List V) (y7 : Option V),
        σ = [some (.ref a), some (.ref pf), some (.ref ps), some (.int mo), some (.ref o), some (.int (0 + k)), some (.ref o2), y7, none] ∧ wy.length = j ∧ (∀ r ∈ wy, WayOk mo r) ∧
        H4 o2 = some (.lst us2) ∧ DpAll K H4 us2 (wy.map wayD) ∧ Ext a H2 H4 ∧ IsFeed H4 a c) ⟨[], [], _, rfl, rfl, fun _ h => (nomatch h), o23, .nil, x3, f3⟩ ?_ ?_
      · rintro j σ H4 hj ⟨wy, us2, y7, rfl, wl, wok, eo2, du2, x4, f4⟩
        -- the wants
        refine ⟨.ref o2, rfl, .inl ⟨rfl, _, .inl (.inl eo2)⟩, .ref a, rfl, .int mo, rfl, mo, 1, rfl, rfl, a, c, _, rfl, f4, by omega, by omega, fun n3 H5 p0 p1 e5 f5 => ⟨n3, rfl, by omega, by omega, fun d nd => ?_⟩⟩
        have ndc := f5.ne nd
        have x5 : Ext a H H5 := (x2.trans x4).trans e5
        refine lc_range (lo := 0) (n := n3.toNat) (fun i H6 => ∃ (xs : List Want) (us3 : List V), xs.length = i ∧ (∀ x ∈ xs, WantOk x) ∧ H6 d = some (.lst us3) ∧ DpAll K H6 us3 (xs.map wantD) ∧ Ext a H5 H6 ∧ IsFeed H6 a c) ⟨[], [], rfl, fun _ h => (nomatch h), upd_same, .nil, (Ext.refl a H5).new nd, f5.new nd⟩ ?_ ?_
        · rintro i H6 hi ⟨xs, us3, xl, xok, ed, du3, x6, f6⟩
          have xx := x5.trans x6
          refine ⟨rfl, .ref a, rfl, .ref pf, rfl, .ref ps, rfl, a, c, pf, ps, fs, ss, rfl, f6, wf.ext fe xx, ws.ext fe xx, fun v H7 x okx e7 f7 dv => ?_⟩
          have ed7 := e7 d _ ed ndc.1
          have tk : TKeep H6 (upd H7 d (.lst (us3 ++ [v]))) := (TKeep.feed f6 e7).trans (TKeep.lst ed7)
          refine ⟨us3, ed7, ?_, xs ++ [x], us3 ++ [v], ?_, fun y hy => ?_, upd_same, ?_, (x6.trans e7).own nd, f7.own ndc⟩
          · rw [dp_lenM du3]
            exact small1000 (by omega)
          · rw [List.length_append, xl]; rfl
          · rcases List.mem_append.mp hy with h | h
            · exact xok y h
            · rw [List.mem_singleton.mp h]; exact okx
          · exact dp_snoc flat_want du3 tk (Dp.keepT (TKeep.lst ed7) (flat_want x) dv)
        · rintro H6 ⟨xs, us3, xl, xok, ed, du3, x6, f6⟩
          refine ⟨d, us3, rfl, .inl ⟨.inl (.inl ed), fun t nt => ?_⟩⟩
          have f7 := f6.new (o := .tup us3) nt
          have x7 : Ext a H4 (upd H6 t (.tup us3)) := (e5.trans x6).new nt
          have et : (upd H6 t (.tup us3)) t = some (.tup us3) := upd_same
          have du7 := dp_move flat_want du3 (TKeep.new (o := .tup us3) nt)
          generalize upd H6 t (.tup us3) = H7 at f7 x7 et du7
          have eo27 := x7 o2 _ eo2 no2c.1
          have tk : TKeep H4 (upd H7 o2 (.lst (us2 ++ [.ref t]))) := (TKeep.feed f4 x7).trans (TKeep.lst eo27)
          have sz : us2.length < sizeLine := by
            rw [dp_lenM du2]
            exact small1000 (by omega)
          refine ⟨o2, us2, .ref t, rfl, rfl, eo27, sz, wy ++ [xs], us2 ++ [.ref t], _, rfl, by rw [List.length_append, wl]; rfl, fun y hy => ?_, upd_same, ?_, (x4.trans x7).own no2, f7.own no2c⟩
          · rcases List.mem_append.mp hy with h | h
            · exact wok y h
            · rw [List.mem_singleton.mp h]; exact ⟨by omega, xok⟩
          · exact dp_snoc flat_way du2 tk (.tup (SqT.of (by rw [upd_ne (ne_of et eo27 (by intro z; cases z))]; exact et)) (dp_move flat_want du7 (TKeep.lst eo27)))
      · rintro σ H4 ⟨wy, us2, y7, rfl, wl, wok, eo2, du2, x4, f4⟩
        have eo4 := x4 o _ eo noc.1
        refine ⟨.ref o, rfl, .inl ⟨rfl, _, .inl (.inl eo4)⟩, .ref o2, rfl, o2, us2, rfl, .inl ⟨.inl (.inl eo2), fun t nt => ?_⟩⟩
        have f5 := f4.new (o := .tup us2) nt
        have x5 : Ext a H2 (upd H4 t (.tup us2)) := x4.new nt
        have et : (upd H4 t (.tup us2)) t = some (.tup us2) := upd_same
        have du5 := dp_move flat_way du2 (TKeep.new (o := .tup us2) nt)
        generalize upd H4 t (.tup us2) = H5 at f5 x5 et du5
        have eo5 := x5 o _ eo noc.1
        have tk : TKeep H2 (upd H5 o (.lst (us ++ [.ref t]))) := (TKeep.feed f2 x5).trans (TKeep.lst eo5)
        have sz : us.length < sizeLine := by
          rw [dp_lenM du]
          exact small1000 (by omega)
        refine ⟨o, us, .ref t, rfl, rfl, eo5, sz, rs ++ [wy], us ++ [.ref t], _, _, _, rfl, by rw [List.length_append, rl]; rfl, fun y hy => ?_, upd_same, ?_, (x2.trans x5).own no, f5.own noc⟩
        · rcases List.mem_append.mp hy with h | h
          · exact rok y h
          · rw [List.mem_singleton.mp h]; exact ⟨by omega, by omega, wok⟩
        · exact dp_snoc flat_row du tk (.tup (SqT.of (by rw [upd_ne (ne_of et eo5 (by intro z; cases z))]; exact et)) (dp_move flat_way du5 (TKeep.lst eo5)))
    · rintro σ H2 ⟨rs, us, y5, y6, y7, rfl, rl, rok, eo, du, x2, f2⟩
      refine ⟨.ref o, rfl, o, us, rfl, .inl ⟨.inl (.inl eo), fun t nt => ?_⟩⟩
      exact q (.ref t) _ rs ⟨by omega, rok⟩ (x2.new nt) (f2.new nt) (.tup (SqT.of upd_same) (dp_move flat_row du (TKeep.new nt)))
end
end K08
namespace K08
open PySem PySem.Spec PyProof.Rows L2 PK
abbrev NCopy : List Str := ["way", "shade", "form", "shades", "many"]
theorem scCopy : FnScope NCopy ["way"] (defScope (topS 4)) := ⟨rfl, rfl, rfl, by decide +kernel, rfl, by decide +kernel, by decide +kernel⟩
section
variable {P : Program} {w : World} {K : PySem.W.Frag} {mg : Str → Option Value} {base : Heap}
-- names: ["way", "shade", "form", "shades", "many"]
theorem ok_copy {f : Addr} {fd : FuncData} {k : Nat} (F : Fun K "copied_way" "copied_way" (topS 4) f fd) (hT : mg "tuple" = none) :
    FnOk P w K mg base CX0 (k + 1) f fd ["way"] (spCopy K) := by
  refine F.ok scCopy (fun vs H Q E h => ?_) (fun cdv A outer s H vs Q E hr h => ?_)
  · obtain ⟨v, x, rfl, _⟩ := h
    rfl
  · obtain ⟨v, x, rfl, dv, hx, hy, q⟩ := h
    obtain ⟨b, us, rfl, hb, du⟩ := Dp.tupE dv
    have lus : us.length = x.length := dp_lenM du
    refine ⟨_, (pss_one (ps_ret (pe_callTy (k_tup K) (by rfl) hT (by decide +kernel) (pa_cons (pe_lc (own := [("form", 2), ("shades", 3), ("many", 4)]) rfl scCopy.nd (pk_tup K (pv 0)) (blkOk_by (N := NCopy) (sc := defScope (topS 4)) (own := [("form", 2), ("shades", 3), ("many", 4)]) (by decide +kernel)) (fun _ _ _ _ _ => (pgk_tup K (n := 3) rfl (pgs_cons (pg_name (i := 2) scCopy.nd rfl (.inl rfl)) (pgs_cons (pg_name (i := 3) scCopy.nd rfl (.inl rfl)) (pgs_cons (pg_name (i := 4) scCopy.nd rfl (.inl rfl)) pgs_nil))))) (fun _ _ _ _ _ => pts_nil) (fun _ _ _ _ _ => (pe_tup (pa_cons (pv 2) (pa_cons (pe_callTy (k_tup K) (by rfl) hT (by decide +kernel) (pa_cons (pe_lc (own := [("shade", 1)]) rfl scCopy.nd (pk_tup K (pv 3)) (blkOk_by (N := NCopy) (sc := relS (lcScope (argE (retE (topS 4)) 0)) (defScope (topS 4))) (own := [("shade", 1)]) (by decide +kernel)) (fun _ _ _ _ _ => (pg_name (i := 1) scCopy.nd rfl (.inl rfl))) (fun _ _ _ _ _ => pts_nil) (fun _ _ _ _ _ => (pv 1))) pa_nil)) (pa_cons (pv 4) pa_nil)))))) pa_nil)))), ?_⟩
    refine ⟨.ref b, rfl, b, rfl, ⟨us, hb⟩, fun d nd => ?_⟩
    refine lc_tup (K := K) (a := b) (xs := us) (fun i H2 => ∃ zs : List V, H2 d = some (.lst zs) ∧ DpAll K H2 zs ((x.take i).map wantD) ∧ Same H H2) ?_ ?_ ?_ ?_
    · exact ⟨[], upd_same, .nil, same_new (Same.refl H) nd⟩
    · rintro i H2 _ ⟨zs, _, _, s2⟩
      exact (TKeep.of s2).sq hb
    · rintro i v H2 hv ⟨zs, ed, dz, s2⟩
      obtain ⟨e, he, de⟩ := DpAll.getV du hv
      rw [List.getElem?_map] at he
      obtain ⟨y, hxi, rfl⟩ := Option.map_eq_some_iff.mp he
      have ly : y.2.1.length ≤ 100 := hy y (List.mem_of_getElem? hxi)
      obtain ⟨b1, t1, rfl, hb1, ht1⟩ := Dp.wantE (Dp.same s2 de)
      refine ⟨b1, _, rfl, hb1, rfl, _, _, rfl, _, _, rfl, _, _, rfl, rfl, rfl, .str y.1, rfl, .ref t1, rfl, t1, rfl, ⟨_, ht1⟩, fun d2 nd2 => ?_⟩
      refine lc_tup (K := K) (a := t1) (xs := y.2.1.map V.str) (fun j H3 => H3 d2 = some (.lst ((y.2.1.take j).map V.str)) ∧ Same H2 H3) ?_ ?_ ?_ ?_
      · exact ⟨upd_same, same_new (Same.refl H2) nd2⟩
      · rintro j H3 _ ⟨_, s3⟩
        exact (TKeep.of s3).sq ht1
      · rintro j z H3 hz ⟨ed2, s3⟩
        refine ⟨rfl, z, rfl, _, ed2, ?_, ?_, ?_⟩
        · rw [List.length_map, List.length_take]
          exact small1000 (by omega)
        · rw [List.getElem?_map] at hz
          obtain ⟨c, hc, rfl⟩ := Option.map_eq_some_iff.mp hz
          rw [upd_same, take_snoc hc, List.map_append]
          rfl
        · exact same_own s3 nd2
      · rintro H3 ⟨ed2, s3⟩
        rw [List.length_map, List.take_length] at ed2
        refine ⟨d2, _, rfl, .inl ⟨.inl (.inl ed2), fun t nt => ?_⟩⟩
        have s4 : Same H2 (upd H3 t (.tup (y.2.1.map V.str))) := same_new s3 nt
        have et : (upd H3 t (.tup (y.2.1.map V.str))) t = some (.tup (y.2.1.map V.str)) := upd_same
        generalize upd H3 t (.tup (y.2.1.map V.str)) = H4 at s4 et
        refine ⟨.int y.2.2, rfl, by show 3 ≤ sizeLine; decide, fun u nu => ?_⟩
        have s5 : Same H2 (upd H4 u (.tup [.str y.1, .ref t, .int y.2.2])) := same_new s4 nu
        have eu : (upd H4 u (.tup [.str y.1, .ref t, .int y.2.2])) u = some (.tup [.str y.1, .ref t, .int y.2.2]) := upd_same
        have et5 : (upd H4 u (.tup [.str y.1, .ref t, .int y.2.2])) t = some (.tup (y.2.1.map V.str)) := by rw [upd_ne (ne_of_none et nu)]; exact et
        generalize upd H4 u (.tup [.str y.1, .ref t, .int y.2.2]) = H5 at s5 eu et5
        have ed5 := s5 d _ ed
        refine ⟨zs, ed5, ?_, zs ++ [.ref u], upd_same, ?_, same_own (s2.trans s5) nd⟩
        · rw [dp_lenM dz, List.length_take]
          exact small1000 (by omega)
        · rw [take_snoc hxi]
          refine dp_snoc flat_want dz ((TKeep.of s5).trans (TKeep.lst ed5)) ?_
          have tk := TKeep.lst (o := .lst (zs ++ [.ref u])) ed5
          exact .tup (SqT.of (tk u _ trivial eu)) (.cons (.str _) (.cons (.tup (SqT.of (tk t (.tup (y.2.1.map V.str)) trivial et5)) (DpAll.strs _)) (.cons (.int _) .nil)))
    · rintro H2 ⟨zs, ed, dz, s2⟩
      rw [lus, List.take_length] at dz
      refine ⟨d, zs, rfl, .inl ⟨.inl (.inl ed), fun t nt => ?_⟩⟩
      exact q t zs _ (same_new s2 nt) upd_same (dp_move flat_want dz (TKeep.new nt))
end
end K08
namespace K08
open PySem PySem.Spec PyProof.Rows L2 PK
abbrev NChoices : List Str := ["sheet", "told", "row", "choice", "place"]
theorem scChoices : FnScope NChoices ["sheet"] (defScope (topS 2)) := ⟨rfl, rfl, rfl, by decide +kernel, rfl, by decide +kernel, by decide +kernel⟩
section
variable {P : Program} {w : World} {K : PySem.W.Frag} {mg : Str → Option Value} {base : Heap}
def lens (x : Sheet) : List Nat := x.map List.length
def spChoices (K : PySem.W.Frag) : Sp := fun vs H Q _ => ∃ (v : V) (x : Sheet), vs = [v] ∧ Dp K H v (sheetD x) ∧ (∀ n, (choicesM ((lens x).take n)).length ≤ 1000) ∧ (∀ r ∈ x, r.length ≤ 100) ∧ x.length ≤ 100 ∧
  ∀ (p : Addr) (us : List V) (H' : Hp), Same H H' → H' p = some (.tup us) → DpAll K H' us ((choicesM (lens x)).map intsD) → Q (.ref p) H'
-- names: ["sheet", "told", "row", "choice", "place"] cells {'row'}
theorem ok_choices {f : Addr} {fd : FuncData} {k : Nat} (F : Fun K "choices" "choices" (topS 2) f fd) (hT : mg "tuple" = none) (hR : mg "range" = none) (hl : mg "len" = none) :
    FnOk P w K mg base CX0 (k + 1) f fd ["sheet"] (spChoices K) := by
  refine F.ok scChoices (fun vs H Q E h => ?_) (fun cdv A outer s H vs Q E hr h => ?_)
  · obtain ⟨v, x, rfl, _⟩ := h
    rfl
  · obtain ⟨v, x, rfl, dv, hfew, hrow, hx, q⟩ := h
    obtain ⟨b, us, rfl, hb, du⟩ := Dp.tupE dv
    have lus : us.length = x.length := dp_lenM du
    refine ⟨_, (pss_cons (ps_set (i := 1) scChoices.nd rfl (.inl rfl) (pe_lst (pa_cons (pe_tup pa_nil) pa_nil)))
  (pss_cons (ps_for PassesOwn.never rfl (pk_tup K (pv 0)) (pg_name (i := 2) scChoices.nd rfl (.inr rfl))
  (pss_one (ps_setLc2 (i := 1) (own := [("choice", 3), ("place", 4)]) (vs1 := [4]) rfl scChoices.nd rfl rfl (sw_true rfl rfl rfl (by decide +kernel)) (pk_list K (pv 1)) (blkOk_by (N := NChoices) (sc := defScope (topS 2)) (own := [("choice", 3), ("place", 4)]) (by decide +kernel)) (by decide) (fun _ _ _ _ _ => (pg_name (i := 3) scChoices.nd rfl (.inl rfl))) (fun _ _ _ _ _ => pts_nil) (fun _ _ _ _ _ => (pi_range1 (by rfl) hR (pa_cons (pe_callB (k_len K) (by rfl) hl PySem.boot_len (pa_cons (pv 2) pa_nil)) pa_nil))) (fun _ _ _ _ _ => (pg_name (i := 4) scChoices.nd rfl (.inl rfl))) (fun _ _ _ _ _ => pts_nil) (fun _ _ _ _ _ => (pe_op (ko_catA K) (pv 3) (pe_tup (pa_cons (pv 4) pa_nil)))))))
  (pss_one (ps_ret (pe_callTy (k_tup K) (by rfl) hT (by decide +kernel) (pa_cons (pv 1) pa_nil)))))), ?_⟩
    -- told = [()]
    refine ⟨Nat.zero_le _, fun e ne => ⟨by show 1 ≤ sizeLine; decide, fun o no => ?_⟩⟩
    have s1 : Same H (upd (upd H e (.tup [])) o (.lst [.ref e])) := same_new (same_new (Same.refl H) ne) no
    have ee : (upd (upd H e (.tup [])) o (.lst [.ref e])) e = some (.tup []) := by rw [upd_ne (ne_of_none upd_same no), upd_same]
    have eo : (upd (upd H e (.tup [])) o (.lst [.ref e])) o = some (.lst [.ref e]) := upd_same
    generalize upd (upd H e (.tup [])) o (.lst [.ref e]) = H1 at s1 ee eo
    refine ⟨.ref b, rfl, b, rfl, ⟨us, (TKeep.of s1).sq hb⟩, for_tup (K := K) (a := b) (xs := us) (fun i σ H2 => ∃ (o2 : Addr) (vs : List V) (y2 : Option V), σ = [some (.ref b), some (.ref o2), y2, none, none] ∧ Same H H2 ∧
      H2 o2 = some (.lst vs) ∧ DpAll K H2 vs ((choicesM ((lens x).take i)).map intsD)) ?_ ?_ ?_ ?_⟩
    · exact ⟨o, [.ref e], none, rfl, s1, eo, .cons (.tup (SqT.of ee) .nil) .nil⟩
    · rintro i σ H2 _ ⟨o2, vs, y2, rfl, s2, _⟩
      exact (TKeep.of s2).sq hb
    · rintro i rv σ H2 hv ⟨o2, vs, y2, rfl, s2, eo2, dvs⟩
      obtain ⟨e1, he, de⟩ := DpAll.getV du hv
      rw [List.getElem?_map] at he
      obtain ⟨row, hxi, rfl⟩ := Option.map_eq_some_iff.mp he
      obtain ⟨b1, ws, rfl, hb1, dw⟩ := Dp.tupE (Dp.same s2 de)
      have lws : ws.length = row.length := dp_lenM dw
      have lrow : row.length ≤ 100 := hrow row (List.mem_of_getElem? hxi)
      have hstep : choicesM ((lens x).take (i + 1)) = grow (choicesM ((lens x).take i)) row.length := by
        have e2 : (lens x)[i]? = some row.length := by
          unfold lens
          rw [List.getElem?_map, hxi]
          rfl
        rw [take_snoc e2]
        unfold choicesM
        rw [List.foldl_append]
        rfl
      have lvs : vs.length = (choicesM ((lens x).take i)).length := dp_lenM dvs
      have few1 := hfew (i + 1)
      refine ⟨.ref o2, rfl, o2, rfl, ⟨vs, .inl (.inl eo2)⟩, fun d nd => ?_⟩
      refine outer_it (walk_list (K := K) (a := o2) (xs := vs)) (fun j H3 => ∃ zs : List V, H3 d = some (.lst zs) ∧ Same H2 H3 ∧ DpAll K H3 zs ((grow ((choicesM ((lens x).take i)).take j) row.length).map intsD)) ?_ ?_ ?_ ?_
      · exact ⟨[], upd_same, same_new (Same.refl H2) nd, .nil⟩
      · rintro j H3 _ ⟨zs, _, s3, _⟩
        exact .inl (.inl (s3 _ _ eo2))
      · rintro j cv H3 H3' hj ⟨zs, ed, s3, dz⟩ ⟨rfl, hcv⟩
        obtain ⟨cd, hcd, dcd⟩ := DpAll.getV dvs hcv
        rw [List.getElem?_map] at hcd
        obtain ⟨ch, hch, rfl⟩ := Option.map_eq_some_iff.mp hcd
        obtain ⟨b2, cs, rfl, hb2, dcs⟩ := Dp.tupE dcd
        have ecs := DpAll.of_ints dcs
        subst ecs
        refine ⟨rfl, .ref b1, rfl, b1, ws, rfl, .inr ((TKeep.of s3).sq hb1), _, rfl, by omega, by omega, ?_⟩
        have gsnoc : grow ((choicesM ((lens x).take i)).take (j + 1)) row.length = grow ((choicesM ((lens x).take i)).take j) row.length ++ (List.range row.length).map fun (p : Nat) => ch ++ [((p : Nat) : Int)] := by
          unfold grow
          rw [take_snoc hch, List.flatMap_append]
          simp
        refine inner_it (walk_range (lo := 0) (n := ((ws.length : Nat) : Int).toNat)) (fun m H4 => ∃ zs : List V, H4 d = some (.lst zs) ∧ Same H2 H4 ∧ DpAll K H4 zs ((grow ((choicesM ((lens x).take i)).take j) row.length ++ (List.range m).map fun (p : Nat) => ch ++ [((p : Nat) : Int)]).map intsD)) ?_ (fun _ _ _ _ => trivial) ?_ ?_
        · refine ⟨zs, ed, s3, ?_⟩
          rw [List.range_zero, List.map_nil, List.append_nil]
          exact dz
        · rintro m pv H4 H4' hm ⟨zs4, ed4, s4, dz4⟩ ⟨rfl, rfl⟩
          have hm' : m < row.length := by omega
          refine ⟨rfl, .ref b2, rfl, .int (0 + m), rfl, by show 1 ≤ sizeLine; decide, fun t nt => ?_⟩
          have s5 : Same H2 (upd H4' t (.tup [.int (0 + m)])) := same_new s4 nt
          have tk5 : TKeep H4' (upd H4' t (.tup [.int (0 + m)])) := TKeep.new nt
          have et : (upd H4' t (.tup [.int (0 + m)])) t = some (.tup [.int (0 + m)]) := upd_same
          have ed5 : (upd H4' t (.tup [.int (0 + m)])) d = some (.lst zs4) := by rw [upd_ne (ne_of_none ed4 nt)]; exact ed4
          generalize upd H4' t (.tup [.int (0 + m)]) = H5 at s5 tk5 et ed5
          have lz : zs4.length < sizeLine := by
            rw [dp_lenM dz4, List.length_append, List.length_map, List.length_range]
            have : (grow ((choicesM ((lens x).take i)).take j) row.length).length ≤ 100000 := by
              have h1 : ((choicesM ((lens x).take i)).take j).length ≤ 1000 := by
                rw [List.length_take]
                have := hfew i
                omega
              unfold grow
              rw [List.length_flatMap]
              have h2 : ∀ l : List (List Int), (l.map fun a => ((List.range row.length).map fun (p : Nat) => a ++ [((p : Nat) : Int)]).length).sum = l.length * row.length := by
                intro l
                induction l with
                | nil => simp
                | cons a l ih =>
                  rw [List.map_cons, List.sum_cons, ih, List.length_map, List.length_range, List.length_cons, Nat.succ_mul]
                  omega
              rw [h2]
              have := Nat.mul_le_mul h1 lrow
              omega
            exact Nat.lt_of_lt_of_le (show _ < 200000 by omega) (by decide)
          have fin : ∀ (u : Addr) (H6 : Hp), TKeep H5 H6 → Same H2 H6 → H6 d = some (.lst zs4) → SqT K H6 u ((ch ++ [((m : Nat) : Int)]).map V.int) →
              ∃ acc, H6 d = some (.lst acc) ∧ acc.length < sizeLine ∧ ∃ zs, (upd H6 d (.lst (acc ++ [.ref u]))) d = some (.lst zs) ∧ Same H2 (upd H6 d (.lst (acc ++ [.ref u]))) ∧ DpAll K (upd H6 d (.lst (acc ++ [.ref u]))) zs ((grow ((choicesM ((lens x).take i)).take j) row.length ++ (List.range (m + 1)).map fun (p : Nat) => ch ++ [((p : Nat) : Int)]).map intsD) := by
            intro u H6 tk6 s6 ed6 hu
            refine ⟨zs4, ed6, lz, zs4 ++ [.ref u], upd_same, same_own s6 nd, ?_⟩
            have tkd := TKeep.lst (o := .lst (zs4 ++ [.ref u])) ed6
            have e3 : grow ((choicesM ((lens x).take i)).take j) row.length ++ (List.range (m + 1)).map (fun (p : Nat) => ch ++ [((p : Nat) : Int)]) =
                (grow ((choicesM ((lens x).take i)).take j) row.length ++ (List.range m).map fun (p : Nat) => ch ++ [((p : Nat) : Int)]) ++ [ch ++ [((m : Nat) : Int)]] := by
              rw [List.range_succ, List.map_append, List.append_assoc]
              rfl
            rw [e3]
            exact dp_snoc flat_intsD dz4 ((tk5.trans tk6).trans tkd) (.tup (tkd.sq hu) (DpAll.ints _))
          have e0 : (0 : Int) + (m : Nat) = ((m : Nat) : Int) := Int.zero_add _
          refine ⟨b2, t, ch.map V.int, [.int (0 + m)], rfl, rfl, (TKeep.of s5).sq hb2, SqT.of et, ?_, fun h0 => ?_, fun _ h => absurd h (by simp), fun h0 _ u nu => ?_⟩
          · rw [List.length_map]
            have : ch.length ≤ 100 := by
              have h1 := choices_len _ ch (List.mem_of_getElem? hch)
              rw [h1, List.length_take]
              unfold lens
              rw [List.length_map]
              omega
            exact Nat.le_trans (show _ ≤ 101 by simpa using this) (by decide)
          · refine fin t H5 (TKeep.refl _) s5 ed5 (SqT.of ?_)
            have : ch = [] := by simpa using h0
            rw [this, et, e0]
            rfl
          · refine fin u _ (TKeep.new nu) (same_new s5 nu) ?_ (SqT.of ?_)
            · rw [upd_ne (ne_of_none ed5 nu)]; exact ed5
            · rw [upd_same, e0, List.map_append]
              rfl
        · rintro H4 ⟨zs4, ed4, s4, dz4⟩
          refine ⟨zs4, ed4, s4, ?_⟩
          rw [gsnoc]
          have e4 : ((ws.length : Nat) : Int).toNat = row.length := by omega
          rw [e4] at dz4
          exact dz4
      · rintro H3 ⟨zs, ed, s3, dz⟩
        rw [lvs, List.take_length] at dz
        refine ⟨d, zs, _, rfl, s2.trans s3, ed, ?_⟩
        rw [hstep]
        exact dz
    · rintro σ H2 ⟨o2, vs, y2, rfl, s2, eo2, dvs⟩
      have e5 : (lens x).take us.length = lens x := by
        rw [lus]
        exact List.take_of_length_le (by unfold lens; rw [List.length_map]; exact Nat.le_refl _)
      rw [e5] at dvs
      refine ⟨.ref o2, rfl, o2, vs, rfl, .inl ⟨.inl (.inl eo2), fun t nt => ?_⟩⟩
      exact q t vs _ (same_new s2 nt) upd_same (dp_move flat_intsD dvs (TKeep.new nt))
end
end K08
namespace K08
open PySem PySem.Spec PyProof.Rows L2 PK
abbrev NPlain : List Str := ["sheet", "row"]
theorem scPlain : FnScope NPlain ["sheet"] (defScope (topS 1)) := ⟨rfl, rfl, rfl, by decide +kernel, rfl, by decide +kernel, by decide +kernel⟩
section
variable {P : Program} {w : World} {K : PySem.W.Frag} {mg : Str → Option Value} {base : Heap}
def plainM (x : Sheet) : Bool := x.all fun r => decide (r.length = 1)
def spPlain (K : PySem.W.Frag) : Sp := fun vs H Q _ => ∃ (v : V) (x : Sheet), vs = [v] ∧ Dp K H v (sheetD x) ∧ x.length ≤ 100 ∧
  ∀ (H' : Hp), Same H H' → Q (.bl (plainM x)) H'
theorem ok_plain {f : Addr} {fd : FuncData} {k : Nat} (F : Fun K "is_plain" "is_plain" (topS 1) f fd) (hA : mg "all" = none) (hl : mg "len" = none) :
    FnOk P w K mg base CX0 (k + 1) f fd ["sheet"] (spPlain K) := by
  refine F.ok scPlain (fun vs H Q E h => ?_) (fun cdv A outer s H vs Q E hr h => ?_)
  · obtain ⟨v, x, rfl, _⟩ := h
    rfl
  · obtain ⟨v, x, rfl, dv, hx, q⟩ := h
    obtain ⟨b, us, rfl, hb, du⟩ := Dp.tupE dv
    have lus : us.length = x.length := dp_lenM du
    refine ⟨_, (pss_one (ps_ret (pe_callB (k_all K rfl) (by rfl) hA (by decide +kernel) (pa_cons (pe_lc (own := [("row", 1)]) rfl scPlain.nd (pk_tup K (pv 0)) (blkOk_by (N := NPlain) (sc := defScope (topS 1)) (own := [("row", 1)]) (by decide +kernel)) (fun _ _ _ _ _ => (pg_name (i := 1) scPlain.nd rfl (.inl rfl))) (fun _ _ _ _ _ => pts_nil) (fun _ _ _ _ _ => (pe_cmpR op_eq (pe_callB (k_len K) (by rfl) hl PySem.boot_len (pa_cons (pv 1) pa_nil)) pe_int (nomark _)))) pa_nil)))), ?_⟩
    refine ⟨.ref b, rfl, b, rfl, ⟨us, hb⟩, fun d nd => ?_⟩
    refine lc_tup (K := K) (a := b) (xs := us) (fun i H2 => H2 d = some (.lst (((x.take i).map fun r => decide (r.length = 1)).map V.bl)) ∧ Same H H2) ?_ ?_ ?_ ?_
    · exact ⟨upd_same, same_new (Same.refl H) nd⟩
    · rintro i H2 _ ⟨_, s2⟩
      exact (TKeep.of s2).sq hb
    · rintro i v H2 hv ⟨ed, s2⟩
      obtain ⟨e, he, de⟩ := DpAll.getV du hv
      rw [List.getElem?_map] at he
      obtain ⟨row, hxi, rfl⟩ := Option.map_eq_some_iff.mp he
      obtain ⟨b1, ws, rfl, hb1, dw⟩ := Dp.tupE (Dp.same s2 de)
      refine ⟨rfl, .ref b1, rfl, b1, ws, rfl, .inr hb1, rfl, _, ed, ?_, ?_, same_own s2 nd⟩
      · rw [List.length_map, List.length_map, List.length_take]
        exact small1000 (by omega)
      · rw [upd_same, take_snoc hxi, List.map_append, List.map_append]
        have e1 : decide (V.int (ws.length : Int) = V.int 1) = decide (row.length = 1) := by
          rw [dp_lenM dw]
          by_cases h : row.length = 1
          · rw [h]
            rfl
          · rw [decide_eq_false h]
            exact decide_eq_false fun z => h (by
              have z1 := V.int.inj z
              omega)
        rw [e1]
        rfl
    · rintro H2 ⟨ed, s2⟩
      rw [lus, List.take_length] at ed
      refine ⟨d, _, rfl, .inl (.inl ed), ?_⟩
      have e2 : (List.map (fun r => decide (r.length = 1)) x).all id = plainM x := by
        unfold plainM
        rw [List.all_map]
        rfl
      rw [e2]
      exact q H2 s2
end
end K08
namespace K08
open PySem PySem.Spec PyProof.Rows L2 PK RZ
abbrev NWants : List Str := ["sheet", "choice", "places", "row", "place", "want"]
theorem scWants : FnScope NWants ["sheet", "choice"] (defScope (topS 3)) := ⟨rfl, rfl, rfl, by decide +kernel, rfl, by decide +kernel, by decide +kernel⟩
section
variable {P : Program} {w : World} {K : PySem.W.Frag} {mg : Str → Option Value} {base : Heap}
/-- the wants by a choice, row by row -/
def wantsM (x : Sheet) (c : List Int) : List Want := (x.zip c).flatMap fun (p : PK.Row × Int) => p.1.getD p.2.toNat []
/-- places within the rows -/
def Fits (x : Sheet) (c : List Int) : Prop := c.length = x.length ∧ ∀ (i : Nat) (r : PK.Row) (p : Int), x[i]? = some r → c[i]? = some p → 0 ≤ p ∧ p < (r.length : Int)
def spWantsOf (K : PySem.W.Frag) : Sp := fun vs H Q _ => ∃ (v cv : V) (x : Sheet) (c : List Int), vs = [v, cv] ∧ Dp K H v (sheetD x) ∧ SheetOk 100 100 x ∧ Fits x c ∧
  (Dp K H cv (intsD c) ∨ (cv = .non ∧ c = List.replicate x.length 0)) ∧
  ∀ (p : Addr) (us : List V) (H' : Hp), Same H H' → H' p = some (.tup us) → DpAll K H' us ((wantsM x c).map wantD) → Q (.ref p) H'
-- names: ["sheet", "choice", "places", "row", "place", "want"] cells set()
theorem ok_wants {f fC : Addr} {fd fdC : FuncData} {k : Nat} (F : FunDf K "wants_of" (topS 3) [.non] f fd)
    (Cp : Cal P w K mg base 1 "copied_way" fC fdC ["way"] (spCopy K)) (hT : mg "tuple" = none) (hz : mg "zip" = none) (hl : mg "len" = none) :
    FnOk P w K mg base CX0 (k + 2) f fd ["sheet", "choice"] (spWantsOf K) := by
  refine F.ok (CX := CX0) scWants (fun vs H Q E h => ?_) (fun cdv A outer s H vs Q E hr h => ?_)
  · obtain ⟨v, cv, x, c, rfl, _⟩ := h
    rfl
  · obtain ⟨v, cv, x, c, rfl, dv, okx, fit, hc, q⟩ := h
    obtain ⟨b, us, rfl, hb, du⟩ := Dp.tupE dv
    have lus : us.length = x.length := dp_lenM du
    have lx := okx.len
    refine ⟨_, (Evl.pss_cut (ps_set (i := 2) scWants.nd rfl (.inl rfl) (pe_ifExp (pt_cmpR op_isN (pv 1) pe_non (nomark _)) (pe_op (ko_repA K) (pe_tup (pa_cons pe_int pa_nil)) (pe_callB (k_len K) (by rfl) hl PySem.boot_len (pa_cons (pv 0) pa_nil))) (pv 1)))
  (pss_one (ps_ret (pe_callTy (k_tup K) (by rfl) hT (by decide +kernel) (pa_cons (pe_lc2 (own := [("row", 3), ("place", 4), ("want", 5)]) (vs1 := [5]) rfl scWants.nd (pk_zip K (by rfl) hz (pa_cons (pv 0) (pa_cons (pv 2) pa_nil))) (blkOk_by (N := NWants) (sc := defScope (topS 3)) (own := [("row", 3), ("place", 4), ("want", 5)]) (by decide +kernel)) (by decide) (fun _ _ _ _ _ => (pgk_tup K (n := 2) rfl (pgs_cons (pg_name (i := 3) scWants.nd rfl (.inl rfl)) (pgs_cons (pg_name (i := 4) scWants.nd rfl (.inl rfl)) pgs_nil)))) (fun _ _ _ _ _ => pts_nil) (fun _ _ _ _ _ => (pk_tup K (pe_call Cp.ok (hr.mono (Nat.le_add_left 1 k)) (by rfl) Cp.g Cp.kp Cp.b .nil pass0 (pa_cons (pe_ix (kx_tup K) (pv 3) (pv 4) (fun _ _ => rfl)) pa_nil)))) (fun _ _ _ _ _ => (pg_name (i := 5) scWants.nd rfl (.inl rfl))) (fun _ _ _ _ _ => pts_nil) (fun _ _ _ _ _ => (pv 5))) pa_nil))))), ?_⟩
    -- places
    refine ⟨fun σ H1 => ∃ t : Addr, σ = [some (.ref b), some cv, some (.ref t), none, none, none] ∧ Same H H1 ∧ SqT K H1 t (c.map V.int), ?_, ?_⟩
    · refine ⟨cv, rfl, rfl, _, rfl, ite2 (fun hn => ?_) (fun hn => ?_)⟩
      · have hn : cv = .non := of_decide_eq_true hn
        rcases hc with hc | ⟨_, ec⟩
        · rw [hn] at hc
          cases hc
        refine ⟨by show 1 ≤ sizeLine; decide, fun e ne => ⟨.ref b, rfl, b, us, rfl, .inr ((TKeep.new ne).sq hb), e, _, [.int 0], rfl, rfl, SqT.of upd_same, by simp, by omega, by omega, by decide, fun h1 => ?_, fun h1 p np => ?_⟩⟩
        · refine ⟨e, rfl, same_new (Same.refl H) ne, SqT.of ?_⟩
          rw [upd_same, ec]
          have : x.length = 1 := by omega
          rw [this]
          rfl
        · refine ⟨p, rfl, same_new (same_new (Same.refl H) ne) np, SqT.of ?_⟩
          rw [upd_same, ec]
          have e1 : ((us.length : Nat) : Int).toNat = x.length := by omega
          rw [e1]
          congr 2
          clear q okx fit ec lx lus dv du h1
          generalize x.length = m
          induction m with
          | zero => rfl
          | succ m ih =>
            rw [List.replicate_succ, List.flatten_cons, ih, List.replicate_succ, List.map_cons]
            rfl
      · rcases hc with hc | ⟨hc, _⟩
        · obtain ⟨t, xs, rfl, ht, dt⟩ := Dp.tupE hc
          refine ⟨.ref t, rfl, t, rfl, Same.refl H, ?_⟩
          rw [DpAll.of_ints dt] at ht
          exact ht
        · exact absurd (decide_eq_true hc) hn
    · rintro σ H1 ⟨t, rfl, s1, ht⟩
      have hb1 := (TKeep.of s1).sq hb
      refine ⟨.ref b, rfl, .ref t, rfl, b, t, us, c.map V.int, rfl, .inr ⟨hb1, ht, fun d nd => ?_⟩⟩
      have lc : c.length = x.length := fit.1
      refine outer_it (walk_zipT (K := K) (a := b) (b := t) (xs := us) (ys := c.map V.int) (n := x.length) (by rw [List.length_map]; omega)) (fun i H3 => ∃ zs : List V, H3 d = some (.lst zs) ∧ Same H1 H3 ∧ DpAll K H3 zs ((wantsM (x.take i) (c.take i)).map wantD)) ?_ ?_ ?_ ?_
      · exact ⟨[], upd_same, same_new (Same.refl H1) nd, .nil⟩
      · rintro i H3 _ ⟨zs, _, s3, _⟩
        exact ⟨(TKeep.of s3).sq hb1, (TKeep.of s3).sq ht⟩
      · rintro i pv H3 H3' hi ⟨zs, ed, s3, dz⟩ ⟨T, x1, x2, rfl, nT, rfl, h1, h2⟩
        have h2 : (c.map V.int)[i]? = some x2 := h2
        obtain ⟨e1, he, de⟩ := DpAll.getV du h1
        rw [List.getElem?_map] at he
        obtain ⟨row, hxi, rfl⟩ := Option.map_eq_some_iff.mp he
        rw [List.getElem?_map] at h2
        obtain ⟨pl, hpl, rfl⟩ := Option.map_eq_some_iff.mp h2
        obtain ⟨p0, p1⟩ := fit.2 i row pl hxi hpl
        have s3' : Same H1 (upd H3 T (.tup [x1, .int pl])) := same_new s3 nT
        have tkT : TKeep H3 (upd H3 T (.tup [x1, .int pl])) := TKeep.new nT
        have eT : (upd H3 T (.tup [x1, .int pl])) T = some (.tup [x1, .int pl]) := upd_same
        have edT : (upd H3 T (.tup [x1, .int pl])) d = some (.lst zs) := by rw [upd_ne (ne_of_none ed nT)]; exact ed
        generalize upd H3 T (.tup [x1, .int pl]) = H4 at s3' tkT eT edT
        obtain ⟨b1, ws, rfl, hb1', dw⟩ := Dp.tupE (Dp.same (s1.trans s3') de)
        have lws : ws.length = row.length := dp_lenM dw
        have hp : pl.toNat < row.length := by omega
        have okr : RowOk 100 row := okx.each row (List.mem_of_getElem? hxi)
        have hway : row[pl.toNat]? = some row[pl.toNat] := List.getElem?_eq_getElem hp
        have okw : WayOk 100 row[pl.toNat] := okr.each _ (List.getElem_mem hp)
        obtain ⟨wv, hwv, dwv⟩ := DpAll.get (i := pl.toNat) (d := wayD row[pl.toNat]) dw (by rw [List.getElem?_map, hway]; rfl)
        refine ⟨T, _, rfl, SqT.of eT, rfl, _, _, rfl, _, _, rfl, rfl, rfl, .ref b1, rfl, .int pl, rfl, b1, ws, pl, wv, rfl, rfl, hb1', at_of (j := pl.toNat) (by omega) hwv, wv, row[pl.toNat], rfl, dwv, okw.len, fun y hy => Nat.le_trans (okw.each y hy).few (by decide), fun cp cus H5 s5 ecp dcus => ⟨cp, rfl, ⟨cus, SqT.of ecp⟩, ?_⟩⟩
        have lcus : cus.length = row[pl.toNat].length := dp_lenM dcus
        have wsnoc : wantsM (x.take (i + 1)) (c.take (i + 1)) = wantsM (x.take i) (c.take i) ++ row[pl.toNat] := by
          unfold wantsM
          rw [take_snoc hxi, take_snoc hpl, List.zip_append (by rw [List.length_take, List.length_take]; omega), List.flatMap_append]
          congr 1
          show row.getD pl.toNat [] ++ [] = row[pl.toNat]
          rw [List.append_nil, List.getD_eq_getElem?_getD, hway]
          rfl
        have ed5 : H5 d = some (.lst zs) := s5 _ _ edT
        have tk5 : TKeep H3 H5 := tkT.trans (TKeep.of s5)
        refine inner_it (walk_tup (K := K) (a := cp) (xs := cus)) (fun m H6 => ∃ zs : List V, H6 d = some (.lst zs) ∧ Same H1 H6 ∧ TKeep H5 H6 ∧ DpAll K H6 zs ((wantsM (x.take i) (c.take i) ++ row[pl.toNat].take m).map wantD)) ?_ ?_ ?_ ?_
        · refine ⟨zs, ed5, s3'.trans s5, TKeep.refl _, ?_⟩
          rw [List.take_zero, List.append_nil]
          exact dp_move flat_want dz tk5
        · rintro m H6 _ ⟨_, _, _, tk6, _⟩
          exact SqT.of (tk6 cp (.tup cus) trivial ecp)
        · rintro m wv H6 H6' hm ⟨zs6, ed6, s6, tk6, dz6⟩ ⟨rfl, hwv⟩
          obtain ⟨e6, he6, de6⟩ := DpAll.getV dcus hwv
          rw [List.getElem?_map] at he6
          obtain ⟨y, hy, rfl⟩ := Option.map_eq_some_iff.mp he6
          have lz : zs6.length < sizeLine := by
            rw [dp_lenM dz6, List.length_append, List.length_take]
            have h1 := okw.len
            have h2 : ∀ n, (wantsM (x.take n) (c.take n)).length ≤ n * 100 := by
              intro n
              induction n with
              | zero => simp [wantsM]
              | succ n ih =>
                by_cases hn : n < x.length
                · have hxn : x[n]? = some x[n] := List.getElem?_eq_getElem hn
                  have hcn : c[n]? = some (c[n]'(by omega)) := List.getElem?_eq_getElem (by omega)
                  have e1 : (wantsM (x.take (n + 1)) (c.take (n + 1))).length = (wantsM (x.take n) (c.take n)).length + (x[n].getD (c[n]'(by omega)).toNat []).length := by
                    unfold wantsM
                    rw [take_snoc hxn, take_snoc hcn, List.zip_append (by rw [List.length_take, List.length_take]; omega), List.flatMap_append, List.length_append]
                    congr 1
                    show (x[n].getD (c[n]'(by omega)).toNat [] ++ []).length = _
                    rw [List.append_nil]
                  have e2 : (x[n].getD (c[n]'(by omega)).toNat []).length ≤ 100 := by
                    rw [List.getD_eq_getElem?_getD]
                    cases hg : x[n][(c[n]'(by omega)).toNat]? with
                    | none => exact Nat.zero_le _
                    | some wy => exact ((okx.each _ (List.getElem_mem hn)).each wy (List.mem_of_getElem? hg)).len
                  rw [e1]
                  omega
                · have h3 : x.take (n + 1) = x.take n := by rw [List.take_of_length_le (by omega), List.take_of_length_le (by omega)]
                  have h4 : c.take (n + 1) = c.take n := by rw [List.take_of_length_le (by omega), List.take_of_length_le (by omega)]
                  rw [h3, h4]
                  omega
            have h3 := h2 i
            exact Nat.lt_of_lt_of_le (show _ < 100000 by omega) (by decide)
          refine ⟨rfl, wv, rfl, zs6, ed6, lz, zs6 ++ [wv], upd_same, same_own s6 nd, tk6.trans (TKeep.lst ed6), ?_⟩
          rw [take_snoc hy, ← List.append_assoc]
          exact dp_snoc flat_want dz6 (TKeep.lst ed6) (Dp.keepT (tk6.trans (TKeep.lst ed6)) (flat_want y) de6)
        · rintro H6 ⟨zs6, ed6, s6, tk6, dz6⟩
          refine ⟨zs6, ed6, s6, ?_⟩
          rw [lcus, List.take_of_length_le (Nat.le_refl _)] at dz6
          rw [wsnoc]
          exact dz6
      · rintro H3 ⟨zs, ed, s3, dz⟩
        rw [List.take_of_length_le (Nat.le_refl _), List.take_of_length_le (by omega)] at dz
        refine ⟨d, zs, rfl, .inl ⟨.inl (.inl ed), fun u nu => ?_⟩⟩
        exact q u zs _ (same_new (s1.trans s3) nu) upd_same (dp_move flat_want dz (TKeep.new nu))
end
end K08
namespace K08
open PySem PySem.Spec PyProof.Rows L2 PK RZ
section
variable {K : PySem.W.Frag} {f : Addr} {fd : FuncData}
theorem kb2 (F : FunDf K "wants_of" (topS 3) [.non] f fd) : KB K fd ["sheet", "choice"] 2 [] (fun vs _ => vs) :=
  kb_of F 2 [] (fun vs _ _ => vs) (by simp) (fun r _ _ => r) fun _ _ _ _ _ _ _ us its ws l1 l2 l3 => match us, its, ws, l1, l2, l3 with | [_, _], [_], [], _, _, _ => ⟨_, rfl, rfl⟩
theorem kb1c (F : FunDf K "wants_of" (topS 3) [.non] f fd) : KB K fd ["sheet", "choice"] 1 ["choice"] (fun vs zs => vs ++ zs) :=
  kb_of F 1 ["choice"] (fun vs _ zs => vs ++ zs) (by simp) (fun r _ q => r.append q) fun _ _ _ _ _ _ _ us its ws l1 l2 l3 => match us, its, ws, l1, l2, l3 with | [_], [_], [_], _, _, _ => ⟨_, rfl, rfl⟩
theorem kb0cs (F : FunDf K "wants_of" (topS 3) [.non] f fd) : KB K fd ["sheet", "choice"] 0 ["choice", "sheet"] (fun _ zs => zs.reverse) :=
  kb_of F 0 ["choice", "sheet"] (fun _ _ zs => zs.reverse) (by simp) (fun _ _ q => q.reverse) fun _ _ _ _ _ _ _ us its ws l1 l2 l3 => match us, its, ws, l1, l2, l3 with | [], [_], [_, _], _, _, _ => ⟨_, rfl, rfl⟩
theorem kb1 (F : FunDf K "wants_of" (topS 3) [.non] f fd) : KB K fd ["sheet", "choice"] 1 [] (fun vs _ => vs ++ [.non]) :=
  kb_of F 1 [] (fun vs ds _ => vs ++ ds) (by simp) (fun r d _ => r.append d) fun _ _ _ _ _ _ _ us its ws l1 l2 l3 => match us, its, ws, l1, l2, l3 with | [_], [_], [], _, _, _ => ⟨_, rfl, rfl⟩
theorem kb0s (F : FunDf K "wants_of" (topS 3) [.non] f fd) : KB K fd ["sheet", "choice"] 0 ["sheet"] (fun _ zs => zs ++ [.non]) :=
  kb_of F 0 ["sheet"] (fun _ ds zs => zs ++ ds) (by simp) (fun _ d r => r.append d) fun _ _ _ _ _ _ _ us its ws l1 l2 l3 => match us, its, ws, l1, l2, l3 with | [], [_], [_], _, _, _ => ⟨_, rfl, rfl⟩
end
end K08
namespace K08
open PySem PySem.Spec PyProof.Rows L2 PK
abbrev NCounted : List Str := ["_law_plan", "_law_many_here", "_law_row", "_law_found", "_law_number", "_law_figures"]
theorem scCounted : FnScope NCounted ["_law_plan"] (defScope (topS 12)) := ⟨rfl, rfl, rfl, by decide +kernel, rfl, by decide +kernel, by decide +kernel⟩
section
variable {P : Program} {w : World} {K : PySem.W.Frag} {mg : Str → Option Value} {base : Heap}
theorem fig_len : ∀ (ls : List Nat) (fs : List Int) (n : Nat), (ls.foldl figStep (fs, n)).1.length = ls.length + fs.length
  | [], fs, n => (Nat.zero_add _).symm
  | L :: r, fs, n => by
    show (r.foldl figStep (((n % L : Nat) : Int) :: fs, n / L)).1.length = _
    rw [fig_len r, List.length_cons, List.length_cons]
    omega
theorem lens_pos {m n : Nat} {x : Sheet} (h : SheetOk m n x) : ∀ L ∈ lens x, 0 < L := fun L hL => by
  obtain ⟨r, hr, rfl⟩ := List.mem_map.mp hL
  exact (h.each r hr).some
theorem lens_le {m n : Nat} {x : Sheet} (h : SheetOk m n x) : ∀ L ∈ lens x, L ≤ 3 := fun L hL => by
  obtain ⟨r, hr, rfl⟩ := List.mem_map.mp hL
  exact (h.each r hr).len
theorem tot_le {n : Nat} {x : Sheet} (h : SheetOk 6 n x) (i : Nat) : total ((lens x).take i) ≤ 729 := by
  have h1 : total ((lens x).take i) ≤ 3 ^ ((lens x).take i).length := total_le (fun L hL => lens_le h L (List.mem_of_mem_take hL)) (by decide)
  have h2 : ((lens x).take i).length ≤ 6 := by
    rw [List.length_take]
    unfold lens
    rw [List.length_map]
    have := h.len
    omega
  exact Nat.le_trans h1 (Nat.le_trans (Nat.pow_le_pow_right (by decide) h2) (by decide))
def spCounted (K : PySem.W.Frag) : Sp := fun vs H Q _ => ∃ (v : V) (x : Sheet), vs = [v] ∧ Dp K H v (sheetD x) ∧ SheetOk 6 100 x ∧
  ∀ (p : Addr) (us : List V) (H' : Hp), Same H H' → H' p = some (.tup us) → DpAll K H' us ((choicesM (lens x)).map intsD) → Q (.ref p) H'
-- names: ["_law_plan", "_law_many_here", "_law_row", "_law_found", "_law_number", "_law_figures"] cells set()
theorem ok_counted {f : Addr} {fd : FuncData} {k : Nat} (F : Fun K "_law_counted" "_law_counted" (topS 12) f fd) (hT : mg "tuple" = none) (hR : mg "range" = none) (hl : mg "len" = none) :
    FnOk P w K mg base CX0 (k + 1) f fd ["_law_plan"] (spCounted K) := by
  refine F.ok scCounted (fun vs H Q E h => ?_) (fun cdv A outer s H vs Q E hr h => ?_)
  · obtain ⟨v, x, rfl, _⟩ := h
    rfl
  · obtain ⟨v, x, rfl, dv, okx, q⟩ := h
    obtain ⟨b, us, rfl, hb, du⟩ := Dp.tupE dv
    have lus : us.length = x.length := dp_lenM du
    have lx := okx.len
    have llen : (lens x).length = x.length := by unfold lens; rw [List.length_map]
    -- the i-th row
    have rowAt : ∀ {i : Nat} {rv : V} {H2 : Hp}, Same H H2 → us[i]? = some rv → ∃ b1 ws, rv = .ref b1 ∧ SqT K H2 b1 ws ∧ (lens x)[i]? = some ws.length ∧ 1 ≤ ws.length ∧ ws.length ≤ 3 := by
      intro i rv H2 s2 hv
      obtain ⟨e1, he, de⟩ := DpAll.getV du hv
      rw [List.getElem?_map] at he
      obtain ⟨row, hxi, rfl⟩ := Option.map_eq_some_iff.mp he
      obtain ⟨b1, ws, rfl, hb1, dw⟩ := Dp.tupE (Dp.same s2 de)
      have lws : ws.length = row.length := dp_lenM dw
      have okr := okx.each row (List.mem_of_getElem? hxi)
      refine ⟨b1, ws, rfl, hb1, ?_, by rw [lws]; exact okr.some, by rw [lws]; exact okr.len⟩
      unfold lens
      rw [List.getElem?_map, hxi, lws]
      rfl
    refine ⟨_, (pss_cons (ps_set (i := 1) scCounted.nd rfl (.inl rfl) pe_int)
  (pss_cons (ps_for PassesOwn.never rfl (pk_tup K (pv 0)) (pg_name (i := 2) scCounted.nd rfl (.inl rfl))
  (pss_one (ps_set (i := 1) scCounted.nd rfl (.inl rfl) (pe_op op_mul (pv 1) (pe_callB (k_len K) (by rfl) hl PySem.boot_len (pa_cons (pv 2) pa_nil))))))
  (pss_cons (ps_set (i := 3) scCounted.nd rfl (.inl rfl) (pe_lst pa_nil))
  (pss_cons (ps_for PassesOwn.never rfl (pi_range1 (by rfl) hR (pa_cons (pv 1) pa_nil)) (pg_name (i := 4) scCounted.nd rfl (.inl rfl))
  (pss_cons (ps_set (i := 5) scCounted.nd rfl (.inl rfl) (pe_lst pa_nil))
  (pss_cons (ps_for PassesOwn.never rfl (pk_tup K (pek_revT K (pv 0))) (pg_name (i := 2) scCounted.nd rfl (.inl rfl))
  (pss_cons (ps_set (i := 5) scCounted.nd rfl (.inl rfl) (pe_op op_cat (pe_lst (pa_cons (pe_op op_mod (pv 4) (pe_callB (k_len K) (by rfl) hl PySem.boot_len (pa_cons (pv 2) pa_nil))) pa_nil)) (pv 5)))
  (pss_one (ps_set (i := 4) scCounted.nd rfl (.inl rfl) (pe_op op_fdiv (pv 4) (pe_callB (k_len K) (by rfl) hl PySem.boot_len (pa_cons (pv 2) pa_nil)))))))
  (pss_one (ps_expr (pe_bm PySem.F.plainAttrs_list PySem.F.slot_list_append PySem.F.type_list_append mt_append (pv 3) (pa_cons (pe_callTy (k_tup K) (by rfl) hT (by decide +kernel) (pa_cons (pv 5) pa_nil)) pa_nil)))))))
  (pss_one (ps_ret (pe_callTy (k_tup K) (by rfl) hT (by decide +kernel) (pa_cons (pv 3) pa_nil)))))))), ?_⟩
    refine ⟨.ref b, rfl, b, rfl, ⟨us, hb⟩, for_tup (K := K) (a := b) (xs := us) (fun i σ H2 => ∃ (y2 : Option V), σ = [some (.ref b), some (.int ((total ((lens x).take i) : Nat) : Int)), y2, none, none, none] ∧ H2 = H) ⟨none, rfl, rfl⟩ ?_ ?_ ?_⟩
    · rintro i σ H2 _ ⟨y2, rfl, rfl⟩
      exact hb
    · rintro i rv σ H2 hv ⟨y2, rfl, rfl⟩
      obtain ⟨b1, ws, rfl, hb1, hL, _, _⟩ := rowAt (Same.refl _) hv
      have ht := tot_le okx i
      refine ⟨.int _, rfl, .ref b1, rfl, b1, ws, rfl, .inr hb1, _, _, rfl, rfl, .inl ⟨by omega, by omega⟩, some (.ref b1), ?_, rfl⟩
      rw [take_snoc hL, total_snoc]
      simp
    · rintro σ H2 ⟨y2, rfl, rfl⟩
      have e1 : (lens x).take us.length = lens x := List.take_of_length_le (by omega)
      rw [e1]
      have htot : total (lens x) ≤ 729 := by
        have := tot_le okx x.length
        rwa [List.take_of_length_le (by omega)] at this
      refine ⟨Nat.zero_le _, fun o no => ?_⟩
      have s1 : Same H2 (upd H2 o (.lst [])) := same_new (Same.refl H2) no
      refine ⟨.int _, rfl, _, rfl, by omega, by omega, ?_⟩
      refine for_range (lo := 0) (n := ((total (lens x) : Nat) : Int).toNat) (fun i σ H3 => ∃ (vs : List V) (y2 y4 y5 : Option V), σ = [some (.ref b), some (.int ((total (lens x) : Nat) : Int)), y2, some (.ref o), y4, y5] ∧ Same H2 H3 ∧ H3 o = some (.lst vs) ∧
        DpAll K H3 vs (((List.range i).map (figs (lens x))).map intsD)) ⟨[], _, none, none, rfl, s1, upd_same, .nil⟩ ?_ ?_
      · rintro i σ H3 hi ⟨vs, y2, y4, y5, rfl, s3, eo, dvs⟩
        refine ⟨Nat.zero_le _, fun o2 no2 => ?_⟩
        have s4 : Same H3 (upd H3 o2 (.lst [])) := same_new (Same.refl H3) no2
        have e2 : (upd H3 o2 (.lst [])) o2 = some (.lst (([] : List Int).map V.int)) := upd_same
        generalize upd H3 o2 (.lst []) = H4 at s4 e2
        have hb4 := (TKeep.of (s3.trans s4)).sq hb
        refine ⟨.ref b, rfl, b, us, rfl, hb4, fun tr ntr => ?_⟩
        have s5 : Same H4 (upd H4 tr (.tup us.reverse)) := same_new (Same.refl H4) ntr
        have etr : (upd H4 tr (.tup us.reverse)) tr = some (.tup us.reverse) := upd_same
        have e25 : (upd H4 tr (.tup us.reverse)) o2 = some (.lst (([] : List Int).map V.int)) := by rw [upd_ne (ne_of_none e2 ntr)]; exact e2
        generalize upd H4 tr (.tup us.reverse) = H5 at s5 etr e25
        have s35 : Same H3 H5 := s4.trans s5
        refine ⟨tr, rfl, ⟨_, SqT.of etr⟩, for_tup (K := K) (a := tr) (xs := us.reverse) (fun j σ H6 => ∃ (of : Addr) (y2 : Option V), σ = [some (.ref b), some (.int ((total (lens x) : Nat) : Int)), y2, some (.ref o),
            some (.int ((((lens x).reverse.take j).foldl figStep ([], i)).2 : Nat)), some (.ref of)] ∧ Same H5 H6 ∧ H6 of = some (.lst ((((lens x).reverse.take j).foldl figStep ([], i)).1.map V.int))) ⟨o2, y2, by rw [Int.zero_add]; rfl, Same.refl _, e25⟩ ?_ ?_ ?_⟩
        · rintro j σ H6 _ ⟨of, y2, rfl, s6, _⟩
          exact (TKeep.of s6).sq (SqT.of etr)
        · rintro j rv σ H6 hv ⟨of, y2', rfl, s6, ef⟩
          have hj : j < us.length := by
            have := (List.getElem?_eq_some_iff.mp hv).1
            rwa [List.length_reverse] at this
          rw [List.getElem?_reverse hj] at hv
          obtain ⟨b1, ws, rfl, hb1, hL, w1, w3⟩ := rowAt ((s3.trans s35).trans s6) hv
          have hLr : (lens x).reverse[j]? = some ws.length := by
            rw [List.getElem?_reverse (by omega), llen, ← lus]
            exact hL
          have estep : ((lens x).reverse.take (j + 1)).foldl figStep ([], i) = figStep (((lens x).reverse.take j).foldl figStep ([], i)) ws.length := by
            rw [take_snoc hLr, List.foldl_append]
            rfl
          generalize hst : ((lens x).reverse.take j).foldl figStep ([], i) = stt at ef estep
          obtain ⟨fs, nm⟩ := stt
          have hfs : fs.length = j := by
            have h1 := fig_len ((lens x).reverse.take j) [] i
            rw [hst, List.length_take, List.length_reverse, llen] at h1
            have h1 : fs.length = _ := h1
            rw [h1]
            show min j x.length + 0 = j
            omega
          refine ⟨.int (nm : Nat), rfl, .ref b1, rfl, b1, ws, rfl, .inr hb1, _, _, rfl, rfl, (show (0 : Int) < (ws.length : Int) by omega), by show 1 ≤ sizeLine; decide, fun p np => ?_⟩
          have ef7 : (upd H6 p (.lst [.int ((nm : Int) % (ws.length : Int))])) of = some (.lst (fs.map V.int)) := by rw [upd_ne (ne_of_none ef np)]; exact ef
          refine ⟨.ref of, rfl, p, of, _, _, rfl, rfl, upd_same, ef7, ?_, fun p2 np2 => ?_⟩
          · rw [List.length_map]
            exact Nat.le_trans (show _ ≤ 1 + 6 by simp; omega) (by decide)
          · have s7 : Same H6 (upd (upd H6 p (.lst [.int ((nm : Int) % (ws.length : Int))])) p2 (.lst ([.int ((nm : Int) % (ws.length : Int))] ++ fs.map V.int))) := same_new (same_new (Same.refl H6) np) np2
            refine ⟨.int (nm : Nat), rfl, .ref b1, rfl, b1, ws, rfl, .inr ((TKeep.of s7).sq hb1), _, _, rfl, rfl, ⟨by omega, by omega⟩, p2, some (.ref b1), ?_, s6.trans s7, ?_⟩
            · rw [estep]
              show _ = [_, _, _, _, some (V.int ((nm / ws.length : Nat) : Int)), _]
              rfl
            · rw [upd_same, estep]
              rfl
        · rintro σ H6 ⟨of, y2', rfl, s6, ef⟩
          have e6 : (lens x).reverse.take us.reverse.length = (lens x).reverse := List.take_of_length_le (by rw [List.length_reverse, List.length_reverse]; omega)
          rw [e6] at ef
          have eo6 : H6 o = some (.lst vs) := s6 _ _ (s35 _ _ eo)
          refine ⟨.ref o, rfl, .inl ⟨rfl, _, .inl (.inl eo6)⟩, .ref of, rfl, of, _, rfl, .inl ⟨.inl (.inl ef), fun u nu => ?_⟩⟩
          have s7 : Same H3 (upd H6 u (.tup (((lens x).reverse.foldl figStep ([], i)).1.map V.int))) := same_new (s35.trans s6) nu
          have eu : (upd H6 u (.tup (((lens x).reverse.foldl figStep ([], i)).1.map V.int))) u = some (.tup (((lens x).reverse.foldl figStep ([], i)).1.map V.int)) := upd_same
          have eo7 : (upd H6 u (.tup (((lens x).reverse.foldl figStep ([], i)).1.map V.int))) o = some (.lst vs) := by rw [upd_ne (ne_of_none eo6 nu)]; exact eo6
          generalize upd H6 u (.tup (((lens x).reverse.foldl figStep ([], i)).1.map V.int)) = H7 at s7 eu eo7
          have lvs : vs.length = i := by rw [dp_lenM dvs, List.length_map, List.length_range]
          refine ⟨o, vs, .ref u, rfl, rfl, eo7, small1000 (by omega), vs ++ [.ref u], _, _, _, rfl, same_own (s3.trans s7) no, upd_same, ?_⟩
          have e7 : (List.range (i + 1)).map (figs (lens x)) = (List.range i).map (figs (lens x)) ++ [figs (lens x) i] := by
            rw [List.range_succ, List.map_append]
            rfl
          rw [e7]
          have tko := TKeep.lst (o := .lst (vs ++ [.ref u])) eo7
          exact dp_snoc flat_intsD dvs ((TKeep.of s7).trans tko) (.tup (SqT.of (tko u (.tup (((lens x).reverse.foldl figStep ([], i)).1.map V.int)) trivial eu)) (DpAll.ints _))
      · rintro σ H3 ⟨vs, y2, y4, y5, rfl, s3, eo, dvs⟩
        rw [Int.toNat_natCast, counted_choices _ (lens_pos okx)] at dvs
        refine ⟨.ref o, rfl, o, vs, rfl, .inl ⟨.inl (.inl eo), fun t nt => ?_⟩⟩
        exact q t vs _ (same_new s3 nt) upd_same (dp_move flat_intsD dvs (TKeep.new nt))
end
end K08
namespace K08
open PySem PySem.Spec PyProof.Rows L2 PK RZ
abbrev NRight : List Str := ["_law_plan", "_law_due", "_law_pick", "_law_wants", "_law_k", "_law_told_now", "_law_entire", "_law_row"]
theorem scRight : FnScope NRight ["_law_plan"] (defScope (topS 13)) := ⟨rfl, rfl, rfl, by decide +kernel, rfl, by decide +kernel, by decide +kernel⟩

theorem wants_snoc {x : Sheet} {c : List Int} {i : Nat} {row : PK.Row} {p : Int} (lc : c.length = x.length) (hx : x[i]? = some row) (hc : c[i]? = some p) :
    wantsM (x.take (i + 1)) (c.take (i + 1)) = wantsM (x.take i) (c.take i) ++ row.getD p.toNat [] := by
  unfold wantsM
  rw [take_snoc hx, take_snoc hc, List.zip_append (by rw [List.length_take, List.length_take]; omega), List.flatMap_append]
  congr 1
  show row.getD p.toNat [] ++ [] = _
  rw [List.append_nil]
theorem getD_way {n : Nat} {row : PK.Row} (h : RowOk n row) (j : Nat) : WayOk n (row.getD j []) := by
  rw [List.getD_eq_getElem?_getD]
  cases hg : row[j]? with
  | none => exact ⟨Nat.zero_le _, fun _ h => (nomatch h)⟩
  | some wy => exact h.each wy (List.mem_of_getElem? hg)
theorem wants_ok {m n : Nat} {x : Sheet} {c : List Int} (h : SheetOk m n x) (lc : c.length = x.length) : ∀ i, i ≤ x.length → (wantsM (x.take i) (c.take i)).length ≤ i * n ∧ ∀ y ∈ wantsM (x.take i) (c.take i), WantOk y
  | 0, _ => ⟨by simp [wantsM], fun y hy => by simp [wantsM] at hy⟩
  | i + 1, hi => by
    obtain ⟨h1, h2⟩ := wants_ok h lc i (by omega)
    have hx : x[i]? = some x[i] := List.getElem?_eq_getElem (by omega)
    have hc : c[i]? = some (c[i]'(by omega)) := List.getElem?_eq_getElem (by omega)
    have okw := getD_way (h.each _ (List.getElem_mem (show i < x.length by omega))) (c[i]'(by omega)).toNat
    rw [wants_snoc lc hx hc]
    refine ⟨?_, fun y hy => ?_⟩
    · rw [List.length_append, Nat.succ_mul]
      have := okw.len
      omega
    · rcases List.mem_append.mp hy with z | z
      · exact h2 y z
      · exact okw.each y z
theorem wants_all {n : Nat} {x : Sheet} {c : List Int} (h : SheetOk 6 n x) (lc : c.length = x.length) : (wantsM x c).length ≤ 6 * n ∧ ∀ y ∈ wantsM x c, WantOk y := by
  obtain ⟨h1, h2⟩ := wants_ok h lc x.length (Nat.le_refl _)
  rw [List.take_of_length_le (Nat.le_refl _), List.take_of_length_le (by omega)] at h1 h2
  exact ⟨Nat.le_trans h1 (Nat.mul_le_mul_right n h.len), h2⟩
def wantsD (l : List Want) : PyData := .tuple (l.map wantD)
theorem flat_wantsD (l : List Want) : flatT (wantsD l) = true := flat_map flat_want l
theorem sh_wants {x : Sheet} {c : List Int} (h : SheetOk 6 100 x) (lc : c.length = x.length) : Sh (wantsD (wantsM x c)) 3 1475403 := by
  obtain ⟨h1, h2⟩ := wants_all h lc
  refine (Sh.tuple (dp := 2) (n := 2457) (m := 600) (fun d hd => ?_) (by rw [List.length_map]; omega)).mono (Nat.le_refl _) (by decide)
  obtain ⟨y, hy, rfl⟩ := List.mem_map.mp hd
  exact sh_want (h2 y hy)
theorem sh_three {d : PyData} (h : Sh d 3 1475403) : Sh (.list [d, d, d]) 4 4426218 := by
  refine (Sh.list (dp := 3) (n := 1475403) (m := 3) (fun e he => ?_) (Nat.le_refl _)).mono (Nat.le_refl _) (by decide)
  have : e = d := by simpa using he
  rw [this]
  exact h
theorem sh_choices {x : Sheet} (h : SheetOk 6 100 x) : Sh (.tuple ((choicesM (lens x)).map intsD)) 2 296706 := by
  have hc : (choicesM (lens x)).length ≤ 729 := by
    rw [choices_count _ (lens_pos h)]
    have := tot_le h x.length
    rwa [List.take_of_length_le (by unfold lens; rw [List.length_map]; exact Nat.le_refl _)] at this
  refine (Sh.tuple (dp := 1) (n := 405) (m := 729) (fun d hd => ?_) (by rw [List.length_map]; exact hc)).mono (Nat.le_refl _) (by decide)
  obtain ⟨ch, hch, rfl⟩ := List.mem_map.mp hd
  have lch : ch.length ≤ 6 := by
    rw [choices_len _ _ hch]
    unfold lens
    rw [List.length_map]
    exact h.len
  refine (Sh.tuple (dp := 0) (n := 65) (m := 6) (fun e he => ?_) (by rw [List.length_map]; exact lch)).mono (Nat.le_refl _) (by decide)
  obtain ⟨p, hp, rfl⟩ := List.mem_map.mp he
  obtain ⟨i, hi⟩ := List.getElem?_of_mem hp
  obtain ⟨L, hL, p0, p1⟩ := choices_in _ ch hch i p hi
  have : L ≤ 3 := lens_le h L (List.mem_of_getElem? hL)
  exact Sh.int p0 (by omega)
theorem fits_choice {m n : Nat} {x : Sheet} (h : SheetOk m n x) {ch : List Int} (hc : ch ∈ choicesM (lens x)) : Fits x ch := by
  refine ⟨?_, fun i r p hx hp => ?_⟩
  · rw [choices_len _ _ hc]
    unfold lens
    rw [List.length_map]
  · obtain ⟨L, hL, p0, p1⟩ := choices_in _ ch hc i p hp
    unfold lens at hL
    rw [List.getElem?_map, hx] at hL
    have : r.length = L := by simpa using hL
    exact ⟨p0, by omega⟩
theorem fits_nought {m n : Nat} {x : Sheet} (h : SheetOk m n x) : Fits x (List.replicate x.length 0) := by
  refine ⟨List.length_replicate, fun i r p hx hp => ?_⟩
  rw [List.getElem?_replicate] at hp
  split at hp
  · have e := Option.some.inj hp
    have := (h.each r (List.mem_of_getElem? hx)).some
    omega
  · cases hp
theorem few_choices {n : Nat} {x : Sheet} (h : SheetOk 6 n x) (i : Nat) : (choicesM ((lens x).take i)).length ≤ 729 := by
  rw [choices_count _ fun L hL => lens_pos h L (List.mem_of_mem_take hL)]
  exact tot_le h i
section
variable {P : Program} {w : World} {K : PySem.W.Frag} {mg : Str → Option Value} {base : Heap}
def spRight (K : PySem.W.Frag) : Sp := fun vs H Q _ => ∃ (v : V) (x : Sheet), vs = [v] ∧ Dp K H v (sheetD x) ∧ SheetOk 6 100 x ∧ ∀ (H' : Hp), Same H H' → Q (.bl true) H'
theorem dp3 {K : PySem.W.Frag} {H : Hp} {p a b c : Addr} {d : PyData} (hp : H p = some (.lst [.ref a, .ref b, .ref c])) (ha : Dp K H (.ref a) d) (hb : Dp K H (.ref b) d) (hc : Dp K H (.ref c) d) : Dp K H (.ref p) (.list [d, d, d]) :=
  .lst (SqL.of hp) (.cons ha (.cons hb (.cons hc .nil)))
-- names: ["_law_plan", "_law_due", "_law_pick", "_law_wants", "_law_k", "_law_told_now", "_law_entire", "_law_row"] cells set()
theorem ok_right {f fC fCh fP fW : Addr} {fd fdC fdCh fdP fdW : FuncData} {k : Nat} (F : Fun K "_law_right" "_law_right" (topS 13) f fd)
    (Ct : Cal P w K mg base 1 "_law_counted" fC fdC ["_law_plan"] (spCounted K)) (Ch : Cal P w K mg base 1 "choices" fCh fdCh ["sheet"] (spChoices K))
    (Pl : Cal P w K mg base 1 "is_plain" fP fdP ["sheet"] (spPlain K)) (W : CalD P w K mg base 2 "wants_of" fW fdW ["sheet", "choice"] (spWantsOf K))
    (k2 : KB K fdW ["sheet", "choice"] 2 [] (fun vs _ => vs)) (k1c : KB K fdW ["sheet", "choice"] 1 ["choice"] (fun vs zs => vs ++ zs)) (k0cs : KB K fdW ["sheet", "choice"] 0 ["choice", "sheet"] (fun _ zs => zs.reverse))
    (k1 : KB K fdW ["sheet", "choice"] 1 [] (fun vs _ => vs ++ [.non])) (k0s : KB K fdW ["sheet", "choice"] 0 ["sheet"] (fun _ zs => zs ++ [.non]))
    (hT : mg "tuple" = none) (hR : mg "range" = none) (hl : mg "len" = none) (hRp : mg "repr" = none) :
    FnG P w K mg base CX0 (k + 3) f fd ["_law_plan"] (spRight K) := by
  refine funG_ok F scRight (fun vs H Q E h => ?_) (fun cdv A outer s H vs Q E hgd hr h => ?_)
  · obtain ⟨v, x, rfl, _⟩ := h
    rfl
  · obtain ⟨v, x, rfl, dv, okx, q⟩ := h
    obtain ⟨b, us, rfl, hb, du⟩ := Dp.tupE dv
    have lus : us.length = x.length := dp_lenM du
    have lx := okx.len
    have ok100 : SheetOk 100 100 x := okx.mono (by decide) (Nat.le_refl _)
    refine ⟨_, (pss_cons (ps_set (i := 1) scRight.nd rfl (.inl rfl) (pe_call Ct.ok (hr.mono (Nat.le_add_left 1 (k + 1))) (by rfl) Ct.g Ct.kp Ct.b .nil pass0 (pa_cons (pv 0) pa_nil)))
  (pss_cons (ps_if (pt_cmpR op_ne (pe_callB (k_repr K hgd hr) (by rfl) hRp (by decide +kernel) (pa_cons (pe_call Ch.ok (hr.mono (Nat.le_add_left 1 (k + 1))) (by rfl) Ch.g Ch.kp Ch.b .nil pass0 (pa_cons (pv 0) pa_nil)) pa_nil)) (pe_callB (k_repr K hgd hr) (by rfl) hRp (by decide +kernel) (pa_cons (pv 1) pa_nil)) (nomark _))
  (pss_one (ps_ret pe_bl)) pss_nil)
  (pss_cons (ps_for PassesOwn.never rfl (pk_tup K (pv 1)) (pg_name (i := 2) scRight.nd rfl (.inl rfl))
  (pss_cons (ps_set (i := 3) scRight.nd rfl (.inl rfl) (pe_lst pa_nil))
  (pss_cons (ps_for PassesOwn.never rfl (pi_range1 (by rfl) hR (pa_cons (pe_callB (k_len K) (by rfl) hl PySem.boot_len (pa_cons (pv 0) pa_nil)) pa_nil)) (pg_name (i := 4) scRight.nd rfl (.inl rfl))
  (pss_one (ps_expr (pe_bm PySem.F.plainAttrs_list PySem.F.slot_list_extend PySem.F.type_list_extend (km_ext K) (pv 3) (pa_cons (pe_ix (kx_tup K) (pe_ix (kx_tup K) (pv 0) (pv 4) (fun _ _ => rfl)) (pe_ix (kx_tup K) (pv 2) (pv 4) (fun _ _ => rfl)) (fun _ _ => rfl)) pa_nil)))))
  (pss_cons (ps_set (i := 5) scRight.nd rfl (.inl rfl) (pe_lst (pa_cons (pe_kb W.ok (hr.mono (Nat.le_add_left 2 k)) (by rfl) W.g W.kp k2 pass0 (pa_cons (pv 0) (pa_cons (pv 2) pa_nil)) pk_nil) (pa_cons (pe_kb W.ok (hr.mono (Nat.le_add_left 2 k)) (by rfl) W.g W.kp k1c pass0 (pa_cons (pv 0) pa_nil) (pk_cons (pv 2) pk_nil)) (pa_cons (pe_kb0 W.ok (hr.mono (Nat.le_add_left 2 k)) (by rfl) W.g W.kp k0cs pass0 (pk_cons (pv 2) (pk_cons (pv 0) pk_nil))) pa_nil)))))
  (pss_one (ps_if (pt_cmpR op_ne (pe_callB (k_repr K hgd hr) (by rfl) hRp (by decide +kernel) (pa_cons (pv 5) pa_nil)) (pe_callB (k_repr K hgd hr) (by rfl) hRp (by decide +kernel) (pa_cons (pe_op op_rep (pe_lst (pa_cons (pe_callTy (k_tup K) (by rfl) hT (by decide +kernel) (pa_cons (pv 3) pa_nil)) pa_nil)) pe_int) pa_nil)) (nomark _))
  (pss_one (ps_ret pe_bl)) pss_nil))))))
  (pss_cons (ps_if (pt_not (pt_val (pe_call Pl.ok (hr.mono (Nat.le_add_left 1 (k + 1))) (by rfl) Pl.g Pl.kp Pl.b .nil pass0 (pa_cons (pv 0) pa_nil))))
  (pss_one (ps_ret pe_bl)) pss_nil)
  (pss_cons (ps_set (i := 6) scRight.nd rfl (.inl rfl) (pe_lst pa_nil))
  (pss_cons (ps_for PassesOwn.never rfl (pk_tup K (pv 0)) (pg_name (i := 7) scRight.nd rfl (.inl rfl))
  (pss_one (ps_expr (pe_bm PySem.F.plainAttrs_list PySem.F.slot_list_extend PySem.F.type_list_extend (km_ext K) (pv 6) (pa_cons (pe_ix (kx_tup K) (pv 7) pe_int (fun _ _ => rfl)) pa_nil)))))
  (pss_one (ps_ret (pe_cmpR op_eq (pe_callB (k_repr K hgd hr) (by rfl) hRp (by decide +kernel) (pa_cons (pe_lst (pa_cons (pe_kb W.ok (hr.mono (Nat.le_add_left 2 k)) (by rfl) W.g W.kp k1 pass0 (pa_cons (pv 0) pa_nil) pk_nil) (pa_cons (pe_kb W.ok (hr.mono (Nat.le_add_left 2 k)) (by rfl) W.g W.kp k2 pass0 (pa_cons (pv 0) (pa_cons pe_non pa_nil)) pk_nil) (pa_cons (pe_kb0 W.ok (hr.mono (Nat.le_add_left 2 k)) (by rfl) W.g W.kp k0s pass0 (pk_cons (pv 0) pk_nil)) pa_nil)))) pa_nil)) (pe_callB (k_repr K hgd hr) (by rfl) hRp (by decide +kernel) (pa_cons (pe_op op_rep (pe_lst (pa_cons (pe_callTy (k_tup K) (by rfl) hT (by decide +kernel) (pa_cons (pv 6) pa_nil)) pa_nil)) pe_int) pa_nil)) (nomark _)))))))))), ?_⟩
    -- due, and all choices
    refine ⟨.ref b, rfl, .ref b, x, rfl, dv, okx, fun due dus H1 s1 edue ddue => ?_⟩
    refine ⟨.ref b, rfl, .ref b, x, rfl, Dp.same s1 dv, fun n => Nat.le_trans (few_choices okx n) (by decide), fun r hr => Nat.le_trans (okx.each r hr).len (by decide), Nat.le_trans okx.len (by decide), fun pc pcs H2 s2 epc dpc => ?_⟩
    have shc := sh_choices okx
    refine ⟨pc, _, rfl, .tup (SqT.of epc) dpc, shc.ok, shc.nd, Nat.le_trans shc.dep (by decide), Nat.le_trans shc.len (by decide), .ref due, rfl, due, _, rfl, .tup (SqT.of (s2 _ _ edue)) (DpAll.same s2 ddue), shc.ok, shc.nd, Nat.le_trans shc.dep (by decide), Nat.le_trans shc.len (by decide), rfl, _, rfl, iteNS rfl ?_⟩
    have dvs := fun {H'} (s' : Same H H') => Dp.same (K := K) s' dv
    have s12 := s1.trans s2
    have edue2 := s2 _ _ edue
    have ddue2 := DpAll.same s2 ddue
    generalize hdd : (choicesM (lens x)) = cs at ddue2 ddue
    have ldus : dus.length = cs.length := dp_lenM ddue
    -- each choice
    refine ⟨.ref due, rfl, due, rfl, ⟨dus, SqT.of edue2⟩, for_tup (K := K) (a := due) (xs := dus) (fun i σ H3 => ∃ (y2 y3 y4 y5 : Option V), σ = [some (.ref b), some (.ref due), y2, y3, y4, y5, none, none] ∧ Same H2 H3) ⟨none, none, none, none, rfl, Same.refl _⟩ ?_ ?_ ?_⟩
    · rintro i σ H3 _ ⟨_, _, _, _, rfl, s3⟩
      exact SqT.of (s3 _ _ edue2)
    · rintro i pv σ H3 hv ⟨y2, y3, y4, y5, rfl, s3⟩
      obtain ⟨e1, he, de⟩ := DpAll.getV ddue2 hv
      rw [List.getElem?_map] at he
      obtain ⟨c, hci, rfl⟩ := Option.map_eq_some_iff.mp he
      have hcm : c ∈ choicesM (lens x) := by rw [hdd]; exact List.mem_of_getElem? hci
      have fit := fits_choice okx hcm
      have lc := fit.1
      obtain ⟨pb, cvs, rfl, hpb, dcv⟩ := Dp.tupE (Dp.same s3 de)
      have ecv := DpAll.of_ints dcv
      subst ecv
      have s03 := s12.trans s3
      -- its wants, by hand
      refine ⟨Nat.zero_le _, fun o no => ?_⟩
      have s4 : Same H3 (upd H3 o (.lst [])) := same_new (Same.refl H3) no
      refine ⟨.ref b, rfl, b, us, rfl, .inr ((TKeep.of (s03.trans s4)).sq hb), _, rfl, by omega, by omega, ?_⟩
      refine for_range (lo := 0) (n := ((us.length : Nat) : Int).toNat) (fun j σ H5 => ∃ (ws : List V) (y4 : Option V), σ = [some (.ref b), some (.ref due), some (.ref pb), some (.ref o), y4, y5, none, none] ∧ Same H3 H5 ∧ H5 o = some (.lst ws) ∧ DpAll K H5 ws ((wantsM (x.take j) (c.take j)).map wantD)) ⟨[], y4, rfl, s4, upd_same, .nil⟩ ?_ ?_
      · rintro j σ H5 hj ⟨ws, y4', rfl, s5, eo, dws⟩
        have hj' : j < x.length := by omega
        have hxj : x[j]? = some x[j] := List.getElem?_eq_getElem hj'
        have hcj : c[j]? = some (c[j]'(by omega)) := List.getElem?_eq_getElem (by omega)
        obtain ⟨p0, p1⟩ := fit.2 j _ _ hxj hcj
        generalize hp : c[j]'(by omega) = p at p0 p1 hcj
        obtain ⟨rv, hrv, drv⟩ := DpAll.get (i := j) (d := rowD x[j]) du (by rw [List.getElem?_map, hxj]; rfl)
        have s05 := s03.trans s5
        obtain ⟨rb, rws, rfl, hrb, drw⟩ := Dp.tupE (Dp.same s05 drv)
        have okr := okx.each _ (List.getElem_mem hj')
        have hpl : p.toNat < x[j].length := by omega
        obtain ⟨wv, hwv, dwv⟩ := DpAll.get (i := p.toNat) (d := wayD (x[j][p.toNat])) drw (by rw [List.getElem?_map, List.getElem?_eq_getElem hpl]; rfl)
        obtain ⟨wb, wws, rfl, hwb, dww⟩ := Dp.tupE dwv
        have e0 : (0 : Int) + (j : Nat) = ((j : Nat) : Int) := Int.zero_add _
        have lws : ws.length ≤ 600 := by
          rw [dp_lenM dws]
          have := (wants_ok okx lc j (by omega)).1
          have := Nat.mul_le_mul_right 100 (show j ≤ 6 by have := okx.len; omega)
          omega
        have lww : wws.length ≤ 100 := by
          rw [dp_lenM dww]
          exact (okr.each _ (List.getElem_mem hpl)).len
        refine ⟨.ref o, rfl, .inl ⟨rfl, _, .inl (.inl eo)⟩, .ref b, rfl, .int (0 + j), rfl, b, us, _, .ref rb, rfl, rfl, (TKeep.of s05).sq hb, at_of (j := j) e0 hrv, .ref pb, rfl, .int (0 + j), rfl, pb, _, _, .int p, rfl, rfl, (TKeep.of s5).sq hpb, at_of (j := j) e0 (by rw [List.getElem?_map, hcj]; rfl), rb, rws, p, .ref wb, rfl, rfl, hrb, at_of (j := p.toNat) (by omega) hwv, o, wb, ws, wws, rfl, rfl, eo, hwb, Nat.le_trans (show _ ≤ 700 by omega) (by decide), ws ++ wws, _, rfl, same_own s5 no, upd_same, ?_⟩
        have ew : x[j].getD p.toNat [] = x[j][p.toNat] := by
          rw [List.getD_eq_getElem?_getD, List.getElem?_eq_getElem hpl]
          rfl
        rw [wants_snoc lc hxj hcj, ew, List.map_append]
        exact DpAll.app (dp_move flat_want dws (TKeep.lst eo)) (dp_move flat_want dww (TKeep.lst eo))
      · rintro σ H5 ⟨ws, y4', rfl, s5, eo, dws⟩
        have el : ((us.length : Nat) : Int).toNat = x.length := by omega
        rw [el, List.take_of_length_le (Nat.le_refl _), List.take_of_length_le (by omega)] at dws
        have s05 := s03.trans s5
        have dpk : ∀ {H'}, Same H3 H' → Dp K H' (.ref pb) (intsD c) := fun s' => .tup ((TKeep.of s').sq hpb) (DpAll.ints c)
        -- the three askings
        refine ⟨.ref b, rfl, .ref pb, rfl, rfl, rfl, .ref b, .ref pb, x, c, rfl, dvs s05, ok100, fit, .inl (dpk s5), fun a1 u1 H6 s6 ea1 da1 => ?_⟩
        refine ⟨.ref b, rfl, .ref pb, rfl, rfl, rfl, .ref b, .ref pb, x, c, rfl, dvs (s05.trans s6), ok100, fit, .inl (dpk (s5.trans s6)), fun a2 u2 H7 s7 ea2 da2 => ?_⟩
        refine ⟨.ref pb, rfl, .ref b, rfl, rfl, rfl, .ref b, .ref pb, x, c, rfl, dvs ((s05.trans s6).trans s7), ok100, fit, .inl (dpk ((s5.trans s6).trans s7)), fun a3 u3 H8 s8 ea3 da3 => ⟨by show 3 ≤ sizeLine; decide, fun p np => ?_⟩⟩
        have sp : Same H8 (upd H8 p (.lst [.ref a1, .ref a2, .ref a3])) := same_new (Same.refl H8) np
        have ep : (upd H8 p (.lst [.ref a1, .ref a2, .ref a3])) p = some (.lst [.ref a1, .ref a2, .ref a3]) := upd_same
        generalize upd H8 p (.lst [.ref a1, .ref a2, .ref a3]) = H9 at sp ep
        have shw := sh_three (sh_wants okx lc)
        have d1 : Dp K H9 (.ref a1) (wantsD (wantsM x c)) := Dp.same ((s7.trans s8).trans sp) (.tup (SqT.of ea1) da1)
        have d2 : Dp K H9 (.ref a2) (wantsD (wantsM x c)) := Dp.same (s8.trans sp) (.tup (SqT.of ea2) da2)
        have d3 : Dp K H9 (.ref a3) (wantsD (wantsM x c)) := Dp.same sp (.tup (SqT.of ea3) da3)
        refine ⟨.ref p, rfl, p, _, rfl, dp3 ep d1 d2 d3, shw.ok, shw.nd, Nat.le_trans shw.dep (by decide), Nat.le_trans shw.len (by decide), ?_⟩
        have s59 : Same H5 H9 := ((s6.trans s7).trans s8).trans sp
        have eo9 := s59 _ _ eo
        refine ⟨.ref o, rfl, o, ws, rfl, .inl ⟨.inl (.inl eo9), fun t nt => ⟨by show 1 ≤ sizeLine; decide, fun l nl => ?_⟩⟩⟩
        have sl : Same H9 (upd (upd H9 t (.tup ws)) l (.lst [.ref t])) := same_new (same_new (Same.refl H9) nt) nl
        have el2 : (upd (upd H9 t (.tup ws)) l (.lst [.ref t])) l = some (.lst [.ref t]) := upd_same
        have et : (upd (upd H9 t (.tup ws)) l (.lst [.ref t])) t = some (.tup ws) := by rw [upd_ne (ne_of_none upd_same nl), upd_same]
        generalize upd (upd H9 t (.tup ws)) l (.lst [.ref t]) = H10 at sl el2 et
        refine ⟨l, 3, _, rfl, rfl, el2, by decide, by decide, (show 1 * 3 ≤ sizeLine by decide), fun r nr => ?_⟩
        have sr : Same H10 (upd H10 r (.lst [.ref t, .ref t, .ref t])) := same_new (Same.refl H10) nr
        have er : (upd H10 r (.lst [.ref t, .ref t, .ref t])) r = some (.lst [.ref t, .ref t, .ref t]) := upd_same
        have dt : Dp K (upd H10 r (.lst [.ref t, .ref t, .ref t])) (.ref t) (wantsD (wantsM x c)) := Dp.same sr (.tup (SqT.of et) (DpAll.same (s59.trans sl) dws))
        refine ⟨r, _, rfl, dp3 er dt dt dt, shw.ok, shw.nd, Nat.le_trans shw.dep (by decide), Nat.le_trans shw.len (by decide), rfl, _, rfl, iteNS rfl ?_⟩
        exact ⟨_, _, _, _, rfl, (((s3.trans s5).trans s59).trans sl).trans sr⟩
    · rintro σ H3 ⟨y2, y3, y4, y5, rfl, s3⟩
      have s03 := s12.trans s3
      refine ⟨.ref b, rfl, .ref b, x, rfl, dvs s03, Nat.le_trans okx.len (by decide), fun H4 s4 => ⟨_, rfl, ?_⟩⟩
      have s04 := s03.trans s4
      cases hpl : plainM x with
      | false => exact iteT (q H4 s04)
      | true =>
        refine iteF ?_
        -- the wants of a plain one
        have fit := fits_nought okx
        have lc := fit.1
        generalize hc0 : List.replicate x.length (0 : Int) = c at fit lc
        refine ⟨Nat.zero_le _, fun o no => ?_⟩
        have s5 : Same H4 (upd H4 o (.lst [])) := same_new (Same.refl H4) no
        refine ⟨.ref b, rfl, b, rfl, ⟨us, (TKeep.of (s04.trans s5)).sq hb⟩, for_tup (K := K) (a := b) (xs := us) (fun j σ H5 => ∃ (ws : List V) (y7 : Option V), σ = [some (.ref b), some (.ref due), y2, y3, y4, y5, some (.ref o), y7] ∧ Same H4 H5 ∧ H5 o = some (.lst ws) ∧ DpAll K H5 ws ((wantsM (x.take j) (c.take j)).map wantD)) ⟨[], none, rfl, s5, upd_same, .nil⟩ ?_ ?_ ?_⟩
        · rintro j σ H5 _ ⟨_, _, rfl, s5, _⟩
          exact (TKeep.of (s04.trans s5)).sq hb
        · rintro j rv σ H5 hv ⟨ws, y7, rfl, s5, eo, dws⟩
          obtain ⟨e1, he, de⟩ := DpAll.getV du hv
          rw [List.getElem?_map] at he
          obtain ⟨row, hxj, rfl⟩ := Option.map_eq_some_iff.mp he
          have hj' : j < x.length := (List.getElem?_eq_some_iff.mp hxj).1
          have okr := okx.each row (List.mem_of_getElem? hxj)
          have s05 := s04.trans s5
          obtain ⟨rb, rws, rfl, hrb, drw⟩ := Dp.tupE (Dp.same s05 de)
          have hpl : 0 < row.length := okr.some
          obtain ⟨wv, hwv, dwv⟩ := DpAll.get (i := 0) (d := wayD row[0]) drw (by rw [List.getElem?_map, List.getElem?_eq_getElem hpl]; rfl)
          obtain ⟨wb, wws, rfl, hwb, dww⟩ := Dp.tupE dwv
          have hcj : c[j]? = some 0 := by rw [← hc0, List.getElem?_replicate, if_pos hj']
          have lws : ws.length ≤ 600 := by
            rw [dp_lenM dws]
            have := (wants_ok okx lc j (by omega)).1
            have := Nat.mul_le_mul_right 100 (show j ≤ 6 by have := okx.len; omega)
            omega
          have lww : wws.length ≤ 100 := by
            rw [dp_lenM dww]
            exact (okr.each _ (List.getElem_mem hpl)).len
          refine ⟨.ref o, rfl, .inl ⟨rfl, _, .inl (.inl eo)⟩, .ref rb, rfl, rb, rws, 0, .ref wb, rfl, rfl, hrb, at_of (j := 0) rfl hwv, o, wb, ws, wws, rfl, rfl, eo, hwb, Nat.le_trans (show _ ≤ 700 by omega) (by decide), ws ++ wws, _, rfl, same_own s5 no, upd_same, ?_⟩
          have ew : row.getD (0 : Int).toNat [] = row[0] := by
            rw [List.getD_eq_getElem?_getD]
            show (row[0]?).getD [] = _
            rw [List.getElem?_eq_getElem hpl]
            rfl
          rw [wants_snoc lc hxj hcj, ew, List.map_append]
          exact DpAll.app (dp_move flat_want dws (TKeep.lst eo)) (dp_move flat_want dww (TKeep.lst eo))
        · rintro σ H5 ⟨ws, y7, rfl, s5, eo, dws⟩
          rw [lus, List.take_of_length_le (Nat.le_refl _), List.take_of_length_le (by omega)] at dws
          have s05 := s04.trans s5
          refine ⟨.ref b, rfl, rfl, rfl, .ref b, .non, x, c, rfl, dvs s05, ok100, fit, .inr ⟨rfl, hc0.symm⟩, fun a1 u1 H6 s6 ea1 da1 => ?_⟩
          refine ⟨.ref b, rfl, rfl, rfl, .ref b, .non, x, c, rfl, dvs (s05.trans s6), ok100, fit, .inr ⟨rfl, hc0.symm⟩, fun a2 u2 H7 s7 ea2 da2 => ?_⟩
          refine ⟨.ref b, rfl, rfl, rfl, .ref b, .non, x, c, rfl, dvs ((s05.trans s6).trans s7), ok100, fit, .inr ⟨rfl, hc0.symm⟩, fun a3 u3 H8 s8 ea3 da3 => ⟨by show 3 ≤ sizeLine; decide, fun p np => ?_⟩⟩
          have sp : Same H8 (upd H8 p (.lst [.ref a1, .ref a2, .ref a3])) := same_new (Same.refl H8) np
          have ep : (upd H8 p (.lst [.ref a1, .ref a2, .ref a3])) p = some (.lst [.ref a1, .ref a2, .ref a3]) := upd_same
          generalize upd H8 p (.lst [.ref a1, .ref a2, .ref a3]) = H9 at sp ep
          have shw := sh_three (sh_wants okx lc)
          have d1 : Dp K H9 (.ref a1) (wantsD (wantsM x c)) := Dp.same ((s7.trans s8).trans sp) (.tup (SqT.of ea1) da1)
          have d2 : Dp K H9 (.ref a2) (wantsD (wantsM x c)) := Dp.same (s8.trans sp) (.tup (SqT.of ea2) da2)
          have d3 : Dp K H9 (.ref a3) (wantsD (wantsM x c)) := Dp.same sp (.tup (SqT.of ea3) da3)
          refine ⟨p, _, rfl, dp3 ep d1 d2 d3, shw.ok, shw.nd, Nat.le_trans shw.dep (by decide), Nat.le_trans shw.len (by decide), ?_⟩
          have s59 : Same H5 H9 := ((s6.trans s7).trans s8).trans sp
          have eo9 := s59 _ _ eo
          refine ⟨.ref o, rfl, o, ws, rfl, .inl ⟨.inl (.inl eo9), fun t nt => ⟨by show 1 ≤ sizeLine; decide, fun l nl => ?_⟩⟩⟩
          have sl : Same H9 (upd (upd H9 t (.tup ws)) l (.lst [.ref t])) := same_new (same_new (Same.refl H9) nt) nl
          have el2 : (upd (upd H9 t (.tup ws)) l (.lst [.ref t])) l = some (.lst [.ref t]) := upd_same
          have et : (upd (upd H9 t (.tup ws)) l (.lst [.ref t])) t = some (.tup ws) := by rw [upd_ne (ne_of_none upd_same nl), upd_same]
          generalize upd (upd H9 t (.tup ws)) l (.lst [.ref t]) = H10 at sl el2 et
          refine ⟨l, 3, _, rfl, rfl, el2, by decide, by decide, (show 1 * 3 ≤ sizeLine by decide), fun r nr => ?_⟩
          have sr : Same H10 (upd H10 r (.lst [.ref t, .ref t, .ref t])) := same_new (Same.refl H10) nr
          have er : (upd H10 r (.lst [.ref t, .ref t, .ref t])) r = some (.lst [.ref t, .ref t, .ref t]) := upd_same
          have dt : Dp K (upd H10 r (.lst [.ref t, .ref t, .ref t])) (.ref t) (wantsD (wantsM x c)) := Dp.same sr (.tup (SqT.of et) (DpAll.same (s59.trans sl) dws))
          refine ⟨r, _, rfl, dp3 er dt dt dt, shw.ok, shw.nd, Nat.le_trans shw.dep (by decide), Nat.le_trans shw.len (by decide), rfl, ?_⟩
          rw [decide_eq_true rfl]
          exact q _ (((s05.trans s59).trans sl).trans sr)
end
end K08
namespace K08
open PySem PySem.Spec PyProof.Rows L2 PK RZ
abbrev NLaw : List Str := ["_law_script", "_law_feed_here", "_law_forms", "_law_shades", "_law_some", "_law_k", "_law_row", "_law_before", "_law_six", "_law_plan"]
theorem scLaw : FnScope NLaw ["_law_script"] (defScope (topS 14)) := ⟨rfl, rfl, rfl, by decide +kernel, rfl, by decide +kernel, by decide +kernel⟩
section
variable {P : Program} {w : World} {K : PySem.W.Frag} {mg : Str → Option Value} {base : Heap}
def spLaw (K : PySem.W.Frag) : Sp := fun vs H Q _ => ∃ (a : Addr) (ns : List Int), vs = [.ref a] ∧ SqL K H a (ns.map V.int) ∧ ∀ H', Q (.bl true) H'
def firstsM (x : Sheet) : Sheet := x.map fun r => r.take 1
def rowM (k : Int) : PK.Row := [[("a", [], k)], [("b", ["c"], k)]]
def sixM (n : Nat) : Sheet := (List.range n).map fun (k : Nat) => rowM ((k : Int) + 1)
-- names: ["_law_script", "_law_feed_here", "_law_forms", "_law_shades", "_law_some", "_law_k", "_law_row", "_law_before", "_law_six", "_law_plan"] cells {'_law_forms', '_law_feed_here', '_law_shades'}
theorem ok_law {f fF fN fD fS fR fCh fCt : Addr} {fd fdF fdN fdD fdS fdR fdCh fdCt : FuncData} (F : Fun K "law" "law" (topS 14) f fd)
    (Fe : Cal P w K mg base 1 "_law_feed" fF fdF ["_law_script"] (spFeed K)) (D : Cal P w K mg base 1 "_law_draw" fD fdD ["_law_feed_here", "_law_many_here"] spDraw)
    (Nm : Cal P w K mg base 2 "_law_names" fN fdN ["_law_feed_here", "_law_many_here"] spNames) (Sh_ : Cal P w K mg base 4 "_law_sheet" fS fdS ["_law_feed_here", "_law_forms", "_law_shades", "_law_most_now"] (spSheet K))
    (R : CalG P w K mg base 3 "_law_right" fR fdR ["_law_plan"] (spRight K)) (Ch : Cal P w K mg base 1 "choices" fCh fdCh ["sheet"] (spChoices K)) (Ct : Cal P w K mg base 1 "_law_counted" fCt fdCt ["_law_plan"] (spCounted K))
    (hT : mg "tuple" = none) (hR : mg "range" = none) (hRp : mg "repr" = none) :
    FnG P w K mg base CX0 5 f fd ["_law_script"] (spLaw K) := by
  refine funG_ok F scLaw (fun vs H Q E h => ?_) (fun cdv A outer s H vs Q E hgd hr h => ?_)
  · obtain ⟨a, ns, rfl, _⟩ := h
    rfl
  · obtain ⟨a, ns, rfl, hS, q⟩ := h
    refine ⟨_, (pss_cons (ps_set (i := 1) scLaw.nd rfl (.inr rfl) (pe_call Fe.ok (hr.mono (by decide)) (by rfl) Fe.g Fe.kp Fe.b .nil pass0 (pa_cons (pv 0) pa_nil)))
  (pss_cons (ps_asg (pe_tup (pa_cons (pe_call Nm.ok (hr.mono (by decide)) (by rfl) Nm.g Nm.kp Nm.b .nil pass0 (pa_cons (pv 1) (pa_cons (pe_op op_add pe_int (pe_call D.ok (hr.mono (by decide)) (by rfl) D.g D.kp D.b .nil pass0 (pa_cons (pv 1) (pa_cons pe_int pa_nil)))) pa_nil))) (pa_cons (pe_call Nm.ok (hr.mono (by decide)) (by rfl) Nm.g Nm.kp Nm.b .nil pass0 (pa_cons (pv 1) (pa_cons (pe_op op_add pe_int (pe_call D.ok (hr.mono (by decide)) (by rfl) D.g D.kp D.b .nil pass0 (pa_cons (pv 1) (pa_cons pe_int pa_nil)))) pa_nil))) pa_nil))) (pgk_tup K (n := 2) rfl (pgs_cons (pg_name (i := 2) scLaw.nd rfl (.inr rfl)) (pgs_cons (pg_name (i := 3) scLaw.nd rfl (.inr rfl)) pgs_nil))))
  (pss_cons (ps_setLc (i := 4) (own := [("_law_k", 5)]) rfl scLaw.nd rfl rfl (sw_true rfl rfl rfl (by decide +kernel)) (pi_range1 (by rfl) hR (pa_cons pe_int pa_nil)) (blkOk_by (N := NLaw) (sc := defScope (topS 14)) (own := [("_law_k", 5)]) (by decide +kernel)) (fun _ _ _ _ _ => (pg_name (i := 5) scLaw.nd rfl (.inl rfl))) (fun _ _ _ _ _ => pts_nil) (fun _ _ _ _ _ => (pe_call Sh_.ok (hr.mono (by decide)) (by rfl) Sh_.g Sh_.kp Sh_.b .nil pass0 (pa_cons (pv 1) (pa_cons (pv 2) (pa_cons (pv 3) (pa_cons pe_int pa_nil)))))))
  (pss_cons (ps_expr (pe_bm PySem.F.plainAttrs_list PySem.F.slot_list_append PySem.F.type_list_append mt_append (pv 4) (pa_cons (pe_callTy (k_tup K) (by rfl) hT (by decide +kernel) (pa_cons (pe_lc (own := [("_law_row", 6)]) rfl scLaw.nd (pk_tup K (pe_ix (kx_list K) (pv 4) pe_int (fun _ _ => rfl))) (blkOk_by (N := NLaw) (sc := defScope (topS 14)) (own := [("_law_row", 6)]) (by decide +kernel)) (fun _ _ _ _ _ => (pg_name (i := 6) scLaw.nd rfl (.inl rfl))) (fun _ _ _ _ _ => pts_nil) (fun _ _ _ _ _ => (pe_slice (ks_tup K) (pv 6) po_none (po_some pe_int)))) pa_nil)) pa_nil)))
  (pss_cons (ps_set (i := 7) scLaw.nd rfl (.inl rfl) (pe_callB (k_repr K hgd hr) (by rfl) hRp (by decide +kernel) (pa_cons (pv 4) pa_nil)))
  (pss_cons (ps_set (i := 8) scLaw.nd rfl (.inl rfl) (pe_callTy (k_tup K) (by rfl) hT (by decide +kernel) (pa_cons (pe_lc (own := [("_law_k", 5)]) rfl scLaw.nd (pi_range1 (by rfl) hR (pa_cons pe_int pa_nil)) (blkOk_by (N := NLaw) (sc := defScope (topS 14)) (own := [("_law_k", 5)]) (by decide +kernel)) (fun _ _ _ _ _ => (pg_name (i := 5) scLaw.nd rfl (.inl rfl))) (fun _ _ _ _ _ => pts_nil) (fun _ _ _ _ _ => (pe_tup (pa_cons (pe_tup (pa_cons (pe_tup (pa_cons pe_str (pa_cons (pe_tup pa_nil) (pa_cons (pe_op op_add (pv 5) pe_int) pa_nil)))) pa_nil)) (pa_cons (pe_tup (pa_cons (pe_tup (pa_cons pe_str (pa_cons (pe_tup (pa_cons pe_str pa_nil)) (pa_cons (pe_op op_add (pv 5) pe_int) pa_nil)))) pa_nil)) pa_nil))))) pa_nil)))
  (pss_cons (ps_if (pt_cmpR (ko_neNil K hr) (pe_lc (own := [("_law_plan", 9)]) rfl scLaw.nd (pk_list K (pe_op op_cat (pv 4) (pe_lst (pa_cons (pe_tup pa_nil) pa_nil)))) (blkOk_by (N := NLaw) (sc := defScope (topS 14)) (own := [("_law_plan", 9)]) (by decide +kernel)) (fun _ _ _ _ _ => (pg_name (i := 9) scLaw.nd rfl (.inl rfl))) (fun _ _ _ _ _ => pts_one (pt_not (pt_val (pe_callG R.ok hgd (hr.mono (by decide)) (by rfl) R.g R.kp R.b .nil pass0 (pa_cons (pv 9) pa_nil))))) (fun _ _ _ _ _ => (pv 9))) (pe_lst pa_nil) (nomark _))
  (pss_one (ps_ret pe_bl)) pss_nil)
  (pss_one (ps_ret (pe_and (pe_cmpR op_eq (pe_callB (k_repr K hgd hr) (by rfl) hRp (by decide +kernel) (pa_cons (pe_call Ch.ok (hr.mono (by decide)) (by rfl) Ch.g Ch.kp Ch.b .nil pass0 (pa_cons (pv 8) pa_nil)) pa_nil)) (pe_callB (k_repr K hgd hr) (by rfl) hRp (by decide +kernel) (pa_cons (pe_call Ct.ok (hr.mono (by decide)) (by rfl) Ct.g Ct.kp Ct.b .nil pass0 (pa_cons (pv 8) pa_nil)) pa_nil)) (nomark _)) (pe_one (pe_cmpR op_eq (pe_callB (k_repr K hgd hr) (by rfl) hRp (by decide +kernel) (pa_cons (pv 4) pa_nil)) (pv 7) (nomark _))))))))))))), ?_⟩
    -- the feed, the names
    refine ⟨.ref a, rfl, a, ns, rfl, hS, fun fe c H1 nfe s1 f1 => ?_⟩
    refine ⟨.ref fe, rfl, .ref fe, rfl, fe, c, 4, rfl, f1, by decide, by decide, fun r1 H2 a0 a1 e2 f2 => ⟨1, r1, rfl, rfl, fe, c, _, rfl, f2, by omega, by omega, fun pf H3 fs npf e3 f3 epf lpf wpf => ?_⟩⟩
    refine ⟨.ref fe, rfl, .ref fe, rfl, fe, c, 4, rfl, f3, by decide, by decide, fun r2 H4 b0 b1 e4 f4 => ⟨1, r2, rfl, rfl, fe, c, _, rfl, f4, by omega, by omega, fun ps H5 ss nps e5 f5 eps lps wps => ?_⟩⟩
    refine ⟨by show 2 ≤ sizeLine; decide, fun tp ntp => ?_⟩
    have npc := f5.ne ntp
    have f6 := f5.new (o := .tup [.ref pf, .ref ps]) ntp
    have x35 : Ext fe H3 H5 := e4.trans e5
    have wf5 : Words H5 pf fs := (Words.mk epf (by intro z; subst z; simp at lpf; omega) (by omega) wpf : Words H3 pf fs).ext f3 x35
    have ws5 : Words H5 ps ss := ⟨eps, by intro z; subst z; simp at lps; omega, by omega, wps⟩
    have wf6 := wf5.new (o := .tup [.ref pf, .ref ps]) ntp
    have ws6 := ws5.new (o := .tup [.ref pf, .ref ps]) ntp
    have etp : (upd H5 tp (.tup [.ref pf, .ref ps])) tp = some (.tup [.ref pf, .ref ps]) := upd_same
    generalize upd H5 tp (.tup [.ref pf, .ref ps]) = H6 at f6 wf6 ws6 etp
    refine ⟨tp, _, rfl, SqT.of etp, rfl, _, _, rfl, _, _, rfl, rfl, ?_⟩
    -- two sheets
    refine ⟨2, rfl, by decide, by decide, fun d nd => ?_⟩
    have ndc := f6.ne nd
    refine lc_range (lo := 0) (n := (2 : Int).toNat) (fun i H7 => ∃ (xs : List Sheet) (us : List V), xs.length = i ∧ (∀ x ∈ xs, SheetOk 3 3 x) ∧ H7 d = some (.lst us) ∧ DpAll K H7 us (xs.map sheetD) ∧ Ext fe H6 H7 ∧ IsFeed H7 fe c) ⟨[], [], rfl, fun _ h => (nomatch h), upd_same, .nil, (Ext.refl fe H6).new nd, f6.new nd⟩ ?_ ?_
    · rintro i H7 hi ⟨xs, us, xl, xok, ed, du, x7, f7⟩
      refine ⟨rfl, .ref fe, rfl, .ref pf, rfl, .ref ps, rfl, fe, c, pf, ps, fs, ss, 3, rfl, f7, wf6.ext f6 x7, ws6.ext f6 x7, by decide, fun v H8 x okx e8 f8 dv => ?_⟩
      have ed8 := e8 d _ ed ndc.1
      refine ⟨us, ed8, ?_, xs ++ [x], us ++ [v], by rw [List.length_append, xl]; rfl, fun y hy => ?_, upd_same, ?_, (x7.trans e8).own nd, f8.own ndc⟩
      · rw [dp_lenM du]
        exact small1000 (by have hi : i < 2 := hi; omega)
      · rcases List.mem_append.mp hy with h | h
        · exact xok y h
        · rw [List.mem_singleton.mp h]; exact okx
      · exact dp_snoc flat_sheet du ((TKeep.feed f7 e8).trans (TKeep.lst ed8)) (Dp.keepT (TKeep.lst ed8) (flat_sheet x) dv)
    · rintro H7 ⟨xs, us, xl, xok, ed, du, x7, f7⟩
      have xl : xs.length = 2 := xl
      obtain ⟨s1', s2', rfl⟩ : ∃ s1 s2, xs = [s1, s2] := by
        match xs, xl with
        | [p, q], _ => exact ⟨p, q, rfl⟩
      have ok1 := xok s1' (by simp)
      have ok2 := xok s2' (by simp)
      obtain ⟨v1, v2, rfl, dv1, dv2⟩ : ∃ v1 v2, us = [v1, v2] ∧ Dp K H7 v1 (sheetD s1') ∧ Dp K H7 v2 (sheetD s2') := by
        cases du with
        | cons h1 h2 =>
          cases h2 with
          | cons h2 h3 =>
            cases h3
            exact ⟨_, _, rfl, h1, h2⟩
      -- the first one's rows, each with its first way
      obtain ⟨b0, rs, rfl, hb0, dr⟩ := Dp.tupE dv1
      have lrs : rs.length = s1'.length := dp_lenM dr
      have l3 := ok1.len
      refine ⟨.ref d, rfl, .inl ⟨rfl, _, .inl (.inl ed)⟩, .ref d, rfl, d, _, 0, .ref b0, rfl, rfl, .inl (.inl ed), at_of (j := 0) rfl rfl, b0, rfl, ⟨rs, hb0⟩, fun d2 nd2 => ?_⟩
      refine lc_tup (K := K) (a := b0) (xs := rs) (fun i H8 => ∃ zs : List V, H8 d2 = some (.lst zs) ∧ DpAll K H8 zs ((firstsM (s1'.take i)).map rowD) ∧ Same H7 H8) ⟨[], upd_same, .nil, same_new (Same.refl H7) nd2⟩ ?_ ?_ ?_
      · rintro i H8 _ ⟨_, _, _, s8⟩
        exact (TKeep.of s8).sq hb0
      · rintro i rv H8 hv ⟨zs, ed2, dz, s8⟩
        obtain ⟨e1, he, de⟩ := DpAll.getV dr hv
        rw [List.getElem?_map] at he
        obtain ⟨row, hxi, rfl⟩ := Option.map_eq_some_iff.mp he
        have okr := ok1.each row (List.mem_of_getElem? hxi)
        obtain ⟨rb, ws, rfl, hrb, dw⟩ := Dp.tupE (Dp.same s8 de)
        have lws : ws.length = row.length := dp_lenM dw
        have w1 := okr.some
        have fsnoc : firstsM (s1'.take (i + 1)) = firstsM (s1'.take i) ++ [row.take 1] := by
          unfold firstsM
          rw [take_snoc hxi, List.map_append]
          rfl
        have fin : ∀ (u : Addr) (H9 : Hp), Same H8 H9 → SqT K H9 u (ws.take 1) → ∃ acc, H9 d2 = some (.lst acc) ∧ acc.length < sizeLine ∧ ∃ zs, (upd H9 d2 (.lst (acc ++ [.ref u]))) d2 = some (.lst zs) ∧ DpAll K (upd H9 d2 (.lst (acc ++ [.ref u]))) zs ((firstsM (s1'.take (i + 1))).map rowD) ∧ Same H7 (upd H9 d2 (.lst (acc ++ [.ref u]))) := by
          intro u H9 s9 hu
          have ed9 := s9 _ _ ed2
          refine ⟨zs, ed9, ?_, zs ++ [.ref u], upd_same, ?_, same_own (s8.trans s9) nd2⟩
          · rw [dp_lenM dz]
            unfold firstsM
            rw [List.length_map, List.length_take]
            exact small1000 (by omega)
          · rw [fsnoc]
            have tk := TKeep.lst (o := .lst (zs ++ [.ref u])) ed9
            refine dp_snoc flat_row dz ((TKeep.of s9).trans tk) (.tup (tk.sq hu) ?_)
            rw [List.map_take]
            exact DpAll.take 1 (dp_move flat_way (DpAll.same s9 dw) tk)
        have i1 : HT.sIx ws.length ws.length (some 1) = min 1 ws.length := HT.sIx_nat ws.length ws.length 1
        refine ⟨rfl, .ref rb, rfl, 1, rfl, rb, ws, rfl, hrb, fun hw => ?_, fun hw p np => ?_⟩
        · refine fin rb H8 (Same.refl H8) ?_
          have : ws.length ≤ 1 := by
            have h2 := hw.2
            rw [i1] at h2
            omega
          rw [List.take_of_length_le this]
          exact hrb
        · refine fin p _ (same_new (Same.refl H8) np) (SqT.of ?_)
          rw [upd_same]
          unfold cutV
          rw [HT.sIx_none, i1, Nat.sub_zero, List.drop_zero, Nat.min_eq_left (by omega)]
      · rintro H8 ⟨zs, ed2, dz, s8⟩
        rw [lrs, List.take_of_length_le (Nat.le_refl _)] at dz
        have ok3 : SheetOk 3 3 (firstsM s1') := by
          refine ⟨by unfold firstsM; rw [List.length_map]; exact l3, fun r hr => ?_⟩
          obtain ⟨r0, h0, rfl⟩ := List.mem_map.mp hr
          have okr := ok1.each r0 h0
          have w1 := okr.some
          exact ⟨by rw [List.length_take]; omega, by rw [List.length_take]; omega, fun y hy => okr.each y (List.mem_of_mem_take hy)⟩
        refine ⟨d2, zs, rfl, .inl ⟨.inl (.inl ed2), fun t nt => ?_⟩⟩
        have st : Same H7 (upd H8 t (.tup zs)) := same_new s8 nt
        have et : (upd H8 t (.tup zs)) t = some (.tup zs) := upd_same
        have dzt := dp_move flat_row dz (TKeep.new (o := .tup zs) nt)
        generalize upd H8 t (.tup zs) = H9 at st et dzt
        have ed9 := st _ _ ed
        refine ⟨d, _, _, rfl, rfl, ed9, by show 2 < sizeLine; decide, ?_⟩
        -- all three
        have tk := TKeep.lst (o := .lst ([.ref b0, v2] ++ [.ref t])) ed9
        have dd : DpAll K (upd H9 d (.lst ([.ref b0, v2] ++ [.ref t]))) [.ref b0, v2, .ref t] ([s1', s2', firstsM s1'].map sheetD) :=
          .cons (Dp.keepT tk (flat_sheet _) (Dp.same st (.tup hb0 dr))) (.cons (Dp.keepT tk (flat_sheet _) (Dp.same st dv2)) (.cons (Dp.keepT tk (flat_sheet _) (.tup (SqT.of et) dzt)) .nil))
        have edd : (upd H9 d (.lst ([.ref b0, v2] ++ [.ref t]))) d = some (.lst [.ref b0, v2, .ref t]) := upd_same
        generalize upd H9 d (.lst ([.ref b0, v2] ++ [.ref t])) = Ha at dd edd
        have oks : ∀ x ∈ [s1', s2', firstsM s1'], SheetOk 3 3 x := by
          intro x hx
          rcases List.mem_cons.mp hx with rfl | hx
          · exact ok1
          rcases List.mem_cons.mp hx with rfl | hx
          · exact ok2
          · rw [List.mem_singleton.mp hx]; exact ok3
        generalize hxs : [s1', s2', firstsM s1'] = xs at dd oks
        generalize hus : [V.ref b0, v2, .ref t] = us at dd edd
        have lxs : xs.length = 3 := by rw [← hxs]; rfl
        have lus : us.length = 3 := by rw [← hus]; rfl
        have shs : Sh (.list (xs.map sheetD)) 6 1000000 := by
          refine (Sh.list (dp := 5) (n := 66528) (m := 3) (fun e he => ?_) (by rw [List.length_map]; omega)).mono (Nat.le_refl _) (by decide)
          obtain ⟨x, hx, rfl⟩ := List.mem_map.mp he
          exact (sh_sheet (oks x hx)).mono (Nat.le_refl _) (by decide)
        refine ⟨.ref d, rfl, d, _, rfl, .lst (SqL.of edd) dd, shs.ok, shs.nd, Nat.le_trans shs.dep (by decide), Nat.le_trans shs.len (by decide), ?_⟩
        -- six rows of two ways
        have wa : Word "a" := by
          rw [show (Str.ofString "a") = ⟨#[97]⟩ by decide +kernel]
          exact word_one ⟨by decide, by decide⟩
        have wb : Word "b" := by
          rw [show (Str.ofString "b") = ⟨#[98]⟩ by decide +kernel]
          exact word_one ⟨by decide, by decide⟩
        have wc : Word "c" := by
          rw [show (Str.ofString "c") = ⟨#[99]⟩ by decide +kernel]
          exact word_one ⟨by decide, by decide⟩
        refine ⟨6, rfl, by decide, by decide, fun d4 nd4 => ?_⟩
        refine lc_range (lo := 0) (n := (6 : Int).toNat) (fun i Hb => ∃ zs : List V, Hb d4 = some (.lst zs) ∧ DpAll K Hb zs ((sixM i).map rowD) ∧ Same Ha Hb) ⟨[], upd_same, .nil, same_new (Same.refl Ha) nd4⟩ ?_ ?_
        · rintro i Hb hi ⟨zs, ed4, dz4, sb⟩
          have ssnoc : sixM (i + 1) = sixM i ++ [rowM ((i : Int) + 1)] := by
            unfold sixM
            rw [List.range_succ, List.map_append]
            rfl
          have e0 : (0 : Int) + (i : Nat) = (i : Int) := Int.zero_add _
          refine ⟨rfl, Nat.zero_le _, fun p1 n1 => ?_⟩
          have t1 : Same Hb (upd Hb p1 (.tup [])) := same_new (Same.refl Hb) n1
          have g1 : (upd Hb p1 (.tup [])) p1 = some (.tup []) := upd_same
          generalize upd Hb p1 (.tup []) = Hc at t1 g1
          refine ⟨.int (0 + i), rfl, _, 1, rfl, rfl, by show 3 ≤ sizeLine; decide, fun p2 n2 => ⟨by show 1 ≤ sizeLine; decide, fun p3 n3 => ?_⟩⟩
          have t3 : Same Hc (upd (upd Hc p2 (.tup [.str "a", .ref p1, .int (0 + i + 1)])) p3 (.tup [.ref p2])) := same_new (same_new (Same.refl Hc) n2) n3
          have g3 : (upd (upd Hc p2 (.tup [.str "a", .ref p1, .int (0 + i + 1)])) p3 (.tup [.ref p2])) p3 = some (.tup [.ref p2]) := upd_same
          have g2 : (upd (upd Hc p2 (.tup [.str "a", .ref p1, .int (0 + i + 1)])) p3 (.tup [.ref p2])) p2 = some (.tup [.str "a", .ref p1, .int (0 + i + 1)]) := by rw [upd_ne (ne_of_none upd_same n3), upd_same]
          generalize upd (upd Hc p2 (.tup [.str "a", .ref p1, .int (0 + i + 1)])) p3 (.tup [.ref p2]) = He at t3 g3 g2
          refine ⟨by show 1 ≤ sizeLine; decide, fun p4 n4 => ?_⟩
          have t4 : Same He (upd He p4 (.tup [.str "c"])) := same_new (Same.refl He) n4
          have g4 : (upd He p4 (.tup [.str "c"])) p4 = some (.tup [.str "c"]) := upd_same
          generalize upd He p4 (.tup [.str "c"]) = Hf at t4 g4
          refine ⟨.int (0 + i), rfl, _, 1, rfl, rfl, by show 3 ≤ sizeLine; decide, fun p5 n5 => ⟨by show 1 ≤ sizeLine; decide, fun p6 n6 => ⟨by show 2 ≤ sizeLine; decide, fun p7 n7 => ?_⟩⟩⟩
          have t6 : Same Hf (upd (upd Hf p5 (.tup [.str "b", .ref p4, .int (0 + i + 1)])) p6 (.tup [.ref p5])) := same_new (same_new (Same.refl Hf) n5) n6
          have g6 : (upd (upd Hf p5 (.tup [.str "b", .ref p4, .int (0 + i + 1)])) p6 (.tup [.ref p5])) p6 = some (.tup [.ref p5]) := upd_same
          have g5 : (upd (upd Hf p5 (.tup [.str "b", .ref p4, .int (0 + i + 1)])) p6 (.tup [.ref p5])) p5 = some (.tup [.str "b", .ref p4, .int (0 + i + 1)]) := by rw [upd_ne (ne_of_none upd_same n6), upd_same]
          generalize upd (upd Hf p5 (.tup [.str "b", .ref p4, .int (0 + i + 1)])) p6 (.tup [.ref p5]) = Hg at t6 g6 g5 n7
          have t7 : Same Hg (upd Hg p7 (.tup [.ref p3, .ref p6])) := same_new (Same.refl Hg) n7
          have g7 : (upd Hg p7 (.tup [.ref p3, .ref p6])) p7 = some (.tup [.ref p3, .ref p6]) := upd_same
          generalize upd Hg p7 (.tup [.ref p3, .ref p6]) = Hh at t7 g7
          have tb : Same Hb Hh := (((t1.trans t3).trans t4).trans t6).trans t7
          have ed4h := tb _ _ ed4
          have drow : Dp K Hh (.ref p7) (rowD (rowM ((i : Int) + 1))) := by
            rw [e0] at g2 g5
            have A : Dp K Hh (.ref p2) (wantD ("a", [], (i : Int) + 1)) := Dp.same ((t4.trans t6).trans t7) (.tup (SqT.of g2) (.cons (.str _) (.cons (.tup (SqT.of (t3 _ _ g1)) .nil) (.cons (.int _) .nil))))
            have B : Dp K Hh (.ref p5) (wantD ("b", ["c"], (i : Int) + 1)) := Dp.same t7 (.tup (SqT.of g5) (.cons (.str _) (.cons (.tup (SqT.of (t6 _ _ g4)) (.cons (.str _) .nil)) (.cons (.int _) .nil))))
            exact .tup (SqT.of g7) (.cons (.tup (SqT.of (((t4.trans t6).trans t7) _ _ g3)) (.cons A .nil)) (.cons (.tup (SqT.of (t7 _ _ g6)) (.cons B .nil)) .nil))
          refine ⟨zs, ed4h, ?_, zs ++ [.ref p7], upd_same, ?_, same_own (sb.trans tb) nd4⟩
          · rw [dp_lenM dz4]
            unfold sixM
            rw [List.length_map, List.length_range]
            have hi : i < 6 := hi
            exact small1000 (by omega)
          · rw [ssnoc]
            have tk := TKeep.lst (o := .lst (zs ++ [.ref p7])) ed4h
            exact dp_snoc flat_row dz4 ((TKeep.of tb).trans tk) (Dp.keepT tk (flat_row _) drow)
        · rintro Hb ⟨zs6, ed6, dz6, sb⟩
          have dz6 : DpAll K Hb zs6 ((sixM 6).map rowD) := dz6
          have ok6 : SheetOk 6 1 (sixM 6) := by
            refine ⟨by unfold sixM; rw [List.length_map, List.length_range]; exact Nat.le_refl _, fun r hr => ?_⟩
            obtain ⟨k, hk, rfl⟩ := List.mem_map.mp hr
            have hk' := List.mem_range.mp hk
            refine ⟨by show 1 ≤ 2; decide, by show 2 ≤ 3; decide, fun w hw => ?_⟩
            unfold rowM at hw
            rcases List.mem_cons.mp hw with rfl | hw
            · refine ⟨Nat.le_refl _, fun y hy => ?_⟩
              rw [List.mem_singleton.mp hy]
              exact ⟨wa, fun _ h => (nomatch h), Nat.zero_le _, by show (1 : Int) ≤ (k : Int) + 1; omega, by show (k : Int) + 1 ≤ 1000000000; omega⟩
            · rw [List.mem_singleton.mp hw]
              refine ⟨Nat.le_refl _, fun y hy => ?_⟩
              rw [List.mem_singleton.mp hy]
              exact ⟨wb, fun y hy => by rw [List.mem_singleton.mp hy]; exact wc, by show 1 ≤ 8; decide, by show (1 : Int) ≤ (k : Int) + 1; omega, by show (k : Int) + 1 ≤ 1000000000; omega⟩
          refine ⟨d4, zs6, rfl, .inl ⟨.inl (.inl ed6), fun t6 nt6 => ?_⟩⟩
          have st6 : Same Ha (upd Hb t6 (.tup zs6)) := same_new sb nt6
          have d6 : Dp K (upd Hb t6 (.tup zs6)) (.ref t6) (sheetD (sixM 6)) := .tup (SqT.of upd_same) (dp_move flat_row dz6 (TKeep.new nt6))
          generalize upd Hb t6 (.tup zs6) = Hc at st6 d6
          have eddc := st6 _ _ edd
          have ddc := DpAll.same st6 dd
          -- the three sheets, and the void one
          refine ⟨.ref d, rfl, Nat.zero_le _, fun e ne => ⟨by show 1 ≤ sizeLine; decide, fun l nl => ?_⟩⟩
          have sl : Same Hc (upd (upd Hc e (.tup [])) l (.lst [.ref e])) := same_new (same_new (Same.refl Hc) ne) nl
          have el : (upd (upd Hc e (.tup [])) l (.lst [.ref e])) l = some (.lst [.ref e]) := upd_same
          have ee : (upd (upd Hc e (.tup [])) l (.lst [.ref e])) e = some (.tup []) := by rw [upd_ne (ne_of_none upd_same nl), upd_same]
          generalize upd (upd Hc e (.tup [])) l (.lst [.ref e]) = Hd at sl el ee
          refine ⟨d, l, us, _, rfl, rfl, sl _ _ eddc, el, by rw [lus]; show 4 ≤ sizeLine; decide, fun p np => ?_⟩
          have sp : Same Hd (upd Hd p (.lst (us ++ [.ref e]))) := same_new (Same.refl Hd) np
          have ep : (upd Hd p (.lst (us ++ [.ref e]))) p = some (.lst (us ++ [.ref e])) := upd_same
          generalize upd Hd p (.lst (us ++ [.ref e])) = He at sp ep
          have sce := sl.trans sp
          have dall : DpAll K He (us ++ [.ref e]) ((xs ++ [[]]).map sheetD) := by
            rw [List.map_append]
            exact DpAll.snoc (.tup (SqT.of (sp _ _ ee)) .nil) (DpAll.same sce ddc)
          have okall : ∀ x ∈ xs ++ [[]], SheetOk 6 100 x := by
            intro x hx
            rcases List.mem_append.mp hx with h | h
            · exact (oks x h).mono (by decide) (by decide)
            · rw [List.mem_singleton.mp h]
              exact ⟨Nat.zero_le _, fun _ h => (nomatch h)⟩
          refine ⟨p, rfl, ⟨_, .inl (.inl ep)⟩, fun d5 nd5 => ?_⟩
          refine lc_list (K := K) (a := p) (xs := us ++ [.ref e]) (fun i Hf => Hf d5 = some (.lst []) ∧ Same He Hf) ⟨upd_same, same_new (Same.refl He) nd5⟩ ?_ ?_ ?_
          · rintro i Hf _ ⟨_, sf⟩
            exact .inl (.inl (sf _ _ ep))
          · rintro i v Hf hv ⟨ed5, sf⟩
            obtain ⟨e1, he, de⟩ := DpAll.getV dall hv
            rw [List.getElem?_map] at he
            obtain ⟨x, hxi, rfl⟩ := Option.map_eq_some_iff.mp he
            exact ⟨rfl, v, rfl, v, x, rfl, Dp.same sf de, okall x (List.mem_of_getElem? hxi), fun Hg sg => ⟨true, rfl, iteF ⟨sg _ _ ed5, sf.trans sg⟩⟩⟩
          · rintro Hf ⟨ed5, sf⟩
            refine ⟨Nat.zero_le _, fun z nz => ⟨d5, z, [], rfl, rfl, .inl (.inl (by rw [upd_ne (ne_of_none ed5 nz)]; exact ed5)), .inl (.inl upd_same), _, rfl, iteF ?_⟩⟩
            have sz : Same Hc (upd Hf z (.lst [])) := same_new (sce.trans sf) nz
            generalize upd Hf z (.lst []) = Hg at sz
            have d6g := Dp.same sz d6
            have ok6' : SheetOk 6 100 (sixM 6) := ok6.mono (Nat.le_refl _) (by decide)
            have shc := sh_choices ok6'
            refine ⟨.ref t6, rfl, .ref t6, sixM 6, rfl, d6g, fun n => Nat.le_trans (few_choices ok6' n) (by decide), fun r hr => Nat.le_trans (ok6.each r hr).len (by decide), Nat.le_trans ok6.len (by decide), fun pc pcs Hh sh epc dpc => ?_⟩
            refine ⟨pc, _, rfl, .tup (SqT.of epc) dpc, shc.ok, shc.nd, Nat.le_trans shc.dep (by decide), Nat.le_trans shc.len (by decide), ?_⟩
            refine ⟨.ref t6, rfl, .ref t6, sixM 6, rfl, Dp.same sh d6g, ok6', fun pq pqs Hi si epq dpq => ?_⟩
            refine ⟨pq, _, rfl, .tup (SqT.of epq) dpq, shc.ok, shc.nd, Nat.le_trans shc.dep (by decide), Nat.le_trans shc.len (by decide), rfl, ?_⟩
            rw [decide_eq_true rfl]
            refine ⟨true, rfl, iteT ?_⟩
            have sci := (sz.trans sh).trans si
            refine ⟨.ref d, rfl, d, _, rfl, .lst (SqL.of (sci _ _ eddc)) (DpAll.same sci ddc), shs.ok, shs.nd, Nat.le_trans shs.dep (by decide), Nat.le_trans shs.len (by decide), _, rfl, rfl, ?_⟩
            rw [decide_eq_true rfl]
            exact q _
end
end K08
namespace K08
open PySem PySem.Spec PyProof.Rows L2 PK RZ
theorem all_mk {l : PySem.W.OpenLaw} {w : World} {K : PySem.W.Frag} {h : Heap} {mg : Str → Option Value} {fa : Addr} (X : K.In h) (G : h.Ns mainGlobals mg) (hfa : mg "law" = some (.ref fa))
    {f_feed : Addr} {od_feed an_feed : Option Addr} {sl_feed : Array (Option Value)} {oc_feed kV_feed dc_feed pm_feed cd_feed ct_feed : Value}
    (a_feed : PySem.W.nsIn K mainGlobals "_law_feed" = some (some (.ref f_feed))) (l_feed : K.lookup f_feed = some ⟨oc_feed, od_feed, .func (PySem.W.fnOf "_law_feed" "_law_feed" (defArgs (topS 6)) (defBody (topS 6)) (defScope (topS 6)) .none kV_feed dc_feed pm_feed an_feed cd_feed ct_feed), sl_feed⟩) (c_feed : PySem.W.codeIn K cd_feed "_law_feed" = true) (k_feed : PySem.W.keepIn K (.ref f_feed) = true)
    {f_draw : Addr} {od_draw an_draw : Option Addr} {sl_draw : Array (Option Value)} {oc_draw kV_draw dc_draw pm_draw cd_draw ct_draw : Value}
    (a_draw : PySem.W.nsIn K mainGlobals "_law_draw" = some (some (.ref f_draw))) (l_draw : K.lookup f_draw = some ⟨oc_draw, od_draw, .func (PySem.W.fnOf "_law_draw" "_law_draw" (defArgs (topS 7)) (defBody (topS 7)) (defScope (topS 7)) .none kV_draw dc_draw pm_draw an_draw cd_draw ct_draw), sl_draw⟩) (c_draw : PySem.W.codeIn K cd_draw "_law_draw" = true) (k_draw : PySem.W.keepIn K (.ref f_draw) = true)
    {f_names : Addr} {od_names an_names : Option Addr} {sl_names : Array (Option Value)} {oc_names kV_names dc_names pm_names cd_names ct_names : Value}
    (a_names : PySem.W.nsIn K mainGlobals "_law_names" = some (some (.ref f_names))) (l_names : K.lookup f_names = some ⟨oc_names, od_names, .func (PySem.W.fnOf "_law_names" "_law_names" (defArgs (topS 8)) (defBody (topS 8)) (defScope (topS 8)) .none kV_names dc_names pm_names an_names cd_names ct_names), sl_names⟩) (c_names : PySem.W.codeIn K cd_names "_law_names" = true) (k_names : PySem.W.keepIn K (.ref f_names) = true)
    {f_many : Addr} {od_many an_many : Option Addr} {sl_many : Array (Option Value)} {oc_many kV_many dc_many pm_many cd_many ct_many : Value}
    (a_many : PySem.W.nsIn K mainGlobals "_law_many" = some (some (.ref f_many))) (l_many : K.lookup f_many = some ⟨oc_many, od_many, .func (PySem.W.fnOf "_law_many" "_law_many" (defArgs (topS 9)) (defBody (topS 9)) (defScope (topS 9)) .none kV_many dc_many pm_many an_many cd_many ct_many), sl_many⟩) (c_many : PySem.W.codeIn K cd_many "_law_many" = true) (k_many : PySem.W.keepIn K (.ref f_many) = true)
    {f_want : Addr} {od_want an_want : Option Addr} {sl_want : Array (Option Value)} {oc_want kV_want dc_want pm_want cd_want ct_want : Value}
    (a_want : PySem.W.nsIn K mainGlobals "_law_want" = some (some (.ref f_want))) (l_want : K.lookup f_want = some ⟨oc_want, od_want, .func (PySem.W.fnOf "_law_want" "_law_want" (defArgs (topS 10)) (defBody (topS 10)) (defScope (topS 10)) .none kV_want dc_want pm_want an_want cd_want ct_want), sl_want⟩) (c_want : PySem.W.codeIn K cd_want "_law_want" = true) (k_want : PySem.W.keepIn K (.ref f_want) = true)
    {f_sheet : Addr} {od_sheet an_sheet : Option Addr} {sl_sheet : Array (Option Value)} {oc_sheet kV_sheet dc_sheet pm_sheet cd_sheet ct_sheet : Value}
    (a_sheet : PySem.W.nsIn K mainGlobals "_law_sheet" = some (some (.ref f_sheet))) (l_sheet : K.lookup f_sheet = some ⟨oc_sheet, od_sheet, .func (PySem.W.fnOf "_law_sheet" "_law_sheet" (defArgs (topS 11)) (defBody (topS 11)) (defScope (topS 11)) .none kV_sheet dc_sheet pm_sheet an_sheet cd_sheet ct_sheet), sl_sheet⟩) (c_sheet : PySem.W.codeIn K cd_sheet "_law_sheet" = true) (k_sheet : PySem.W.keepIn K (.ref f_sheet) = true)
    {f_copy : Addr} {od_copy an_copy : Option Addr} {sl_copy : Array (Option Value)} {oc_copy kV_copy dc_copy pm_copy cd_copy ct_copy : Value}
    (a_copy : PySem.W.nsIn K mainGlobals "copied_way" = some (some (.ref f_copy))) (l_copy : K.lookup f_copy = some ⟨oc_copy, od_copy, .func (PySem.W.fnOf "copied_way" "copied_way" (defArgs (topS 4)) (defBody (topS 4)) (defScope (topS 4)) .none kV_copy dc_copy pm_copy an_copy cd_copy ct_copy), sl_copy⟩) (c_copy : PySem.W.codeIn K cd_copy "copied_way" = true) (k_copy : PySem.W.keepIn K (.ref f_copy) = true)
    {f_choices : Addr} {od_choices an_choices : Option Addr} {sl_choices : Array (Option Value)} {oc_choices kV_choices dc_choices pm_choices cd_choices ct_choices : Value}
    (a_choices : PySem.W.nsIn K mainGlobals "choices" = some (some (.ref f_choices))) (l_choices : K.lookup f_choices = some ⟨oc_choices, od_choices, .func (PySem.W.fnOf "choices" "choices" (defArgs (topS 2)) (defBody (topS 2)) (defScope (topS 2)) .none kV_choices dc_choices pm_choices an_choices cd_choices ct_choices), sl_choices⟩) (c_choices : PySem.W.codeIn K cd_choices "choices" = true) (k_choices : PySem.W.keepIn K (.ref f_choices) = true)
    {f_plain : Addr} {od_plain an_plain : Option Addr} {sl_plain : Array (Option Value)} {oc_plain kV_plain dc_plain pm_plain cd_plain ct_plain : Value}
    (a_plain : PySem.W.nsIn K mainGlobals "is_plain" = some (some (.ref f_plain))) (l_plain : K.lookup f_plain = some ⟨oc_plain, od_plain, .func (PySem.W.fnOf "is_plain" "is_plain" (defArgs (topS 1)) (defBody (topS 1)) (defScope (topS 1)) .none kV_plain dc_plain pm_plain an_plain cd_plain ct_plain), sl_plain⟩) (c_plain : PySem.W.codeIn K cd_plain "is_plain" = true) (k_plain : PySem.W.keepIn K (.ref f_plain) = true)
    {f_counted : Addr} {od_counted an_counted : Option Addr} {sl_counted : Array (Option Value)} {oc_counted kV_counted dc_counted pm_counted cd_counted ct_counted : Value}
    (a_counted : PySem.W.nsIn K mainGlobals "_law_counted" = some (some (.ref f_counted))) (l_counted : K.lookup f_counted = some ⟨oc_counted, od_counted, .func (PySem.W.fnOf "_law_counted" "_law_counted" (defArgs (topS 12)) (defBody (topS 12)) (defScope (topS 12)) .none kV_counted dc_counted pm_counted an_counted cd_counted ct_counted), sl_counted⟩) (c_counted : PySem.W.codeIn K cd_counted "_law_counted" = true) (k_counted : PySem.W.keepIn K (.ref f_counted) = true)
    {f_right : Addr} {od_right an_right : Option Addr} {sl_right : Array (Option Value)} {oc_right kV_right dc_right pm_right cd_right ct_right : Value}
    (a_right : PySem.W.nsIn K mainGlobals "_law_right" = some (some (.ref f_right))) (l_right : K.lookup f_right = some ⟨oc_right, od_right, .func (PySem.W.fnOf "_law_right" "_law_right" (defArgs (topS 13)) (defBody (topS 13)) (defScope (topS 13)) .none kV_right dc_right pm_right an_right cd_right ct_right), sl_right⟩) (c_right : PySem.W.codeIn K cd_right "_law_right" = true) (k_right : PySem.W.keepIn K (.ref f_right) = true)
    {f_law : Addr} {od_law an_law : Option Addr} {sl_law : Array (Option Value)} {oc_law kV_law dc_law pm_law cd_law ct_law : Value}
    (a_law : PySem.W.nsIn K mainGlobals "law" = some (some (.ref f_law))) (l_law : K.lookup f_law = some ⟨oc_law, od_law, .func (PySem.W.fnOf "law" "law" (defArgs (topS 14)) (defBody (topS 14)) (defScope (topS 14)) .none kV_law dc_law pm_law an_law cd_law ct_law), sl_law⟩) (c_law : PySem.W.codeIn K cd_law "law" = true) (k_law : PySem.W.keepIn K (.ref f_law) = true)
    {f_wants T_wants : Addr} {od_wants an_wants odT_wants : Option Addr} {sl_wants slT_wants : Array (Option Value)} {nT_wants : Nat} {oc_wants ocT_wants kV_wants dc_wants pm_wants cd_wants ct_wants : Value}
    (a_wants : PySem.W.nsIn K mainGlobals "wants_of" = some (some (.ref f_wants))) (l_wants : K.lookup f_wants = some ⟨oc_wants, od_wants, .func (PySem.W.fnOf "wants_of" "wants_of" (defArgs (topS 3)) (defBody (topS 3)) (defScope (topS 3)) (.ref T_wants) kV_wants dc_wants pm_wants an_wants cd_wants ct_wants), sl_wants⟩) (t_wants : K.lookup T_wants = some ⟨ocT_wants, odT_wants, .seq #[.none] nT_wants, slT_wants⟩) (c_wants : PySem.W.codeIn K cd_wants "wants_of" = true) (k_wants : PySem.W.keepIn K (.ref f_wants) = true)
    (z_len : PySem.W.nsIn K mainGlobals "len" = some none)
    (z_list : PySem.W.nsIn K mainGlobals "list" = some none)
    (z_range : PySem.W.nsIn K mainGlobals "range" = some none)
    (z_tuple : PySem.W.nsIn K mainGlobals "tuple" = some none)
    (z_sorted : PySem.W.nsIn K mainGlobals "sorted" = some none)
    (z_all : PySem.W.nsIn K mainGlobals "all" = some none)
    (z_zip : PySem.W.nsIn K mainGlobals "zip" = some none)
    (z_repr : PySem.W.nsIn K mainGlobals "repr" = some none)
    : ∃ fd : FuncData, (∀ (s : Shared) (v : Value), BindsTo s fd ⟨[v], []⟩ [("_law_script", v)]) ∧ ∀ base : Heap, K.In base → base.Ns mainGlobals mg → FnG l.prog w K mg base CX0 5 fa fd ["_law_script"] (spLaw K) := by
  have e := hfa.symm.trans (PySem.W.mg_of X G a_law)
  cases e
  have F_feed := fun_mk (st := topS 6) l_feed c_feed k_feed
  have g_feed := PySem.W.mg_of X G a_feed
  have b_feed := F_feed.binds (ps := ["_law_script"]) fun _ _ _ _ _ _ us hl => match us, hl with | [_], _ => rfl
  have F_draw := fun_mk (st := topS 7) l_draw c_draw k_draw
  have g_draw := PySem.W.mg_of X G a_draw
  have b_draw := F_draw.binds (ps := ["_law_feed_here", "_law_many_here"]) fun _ _ _ _ _ _ us hl => match us, hl with | [_, _], _ => rfl
  have F_names := fun_mk (st := topS 8) l_names c_names k_names
  have g_names := PySem.W.mg_of X G a_names
  have b_names := F_names.binds (ps := ["_law_feed_here", "_law_many_here"]) fun _ _ _ _ _ _ us hl => match us, hl with | [_, _], _ => rfl
  have F_many := fun_mk (st := topS 9) l_many c_many k_many
  have g_many := PySem.W.mg_of X G a_many
  have b_many := F_many.binds (ps := ["_law_feed_here"]) fun _ _ _ _ _ _ us hl => match us, hl with | [_], _ => rfl
  have F_want := fun_mk (st := topS 10) l_want c_want k_want
  have g_want := PySem.W.mg_of X G a_want
  have b_want := F_want.binds (ps := ["_law_feed_here", "_law_forms", "_law_shades"]) fun _ _ _ _ _ _ us hl => match us, hl with | [_, _, _], _ => rfl
  have F_sheet := fun_mk (st := topS 11) l_sheet c_sheet k_sheet
  have g_sheet := PySem.W.mg_of X G a_sheet
  have b_sheet := F_sheet.binds (ps := ["_law_feed_here", "_law_forms", "_law_shades", "_law_most_now"]) fun _ _ _ _ _ _ us hl => match us, hl with | [_, _, _, _], _ => rfl
  have F_copy := fun_mk (st := topS 4) l_copy c_copy k_copy
  have g_copy := PySem.W.mg_of X G a_copy
  have b_copy := F_copy.binds (ps := ["way"]) fun _ _ _ _ _ _ us hl => match us, hl with | [_], _ => rfl
  have F_choices := fun_mk (st := topS 2) l_choices c_choices k_choices
  have g_choices := PySem.W.mg_of X G a_choices
  have b_choices := F_choices.binds (ps := ["sheet"]) fun _ _ _ _ _ _ us hl => match us, hl with | [_], _ => rfl
  have F_plain := fun_mk (st := topS 1) l_plain c_plain k_plain
  have g_plain := PySem.W.mg_of X G a_plain
  have b_plain := F_plain.binds (ps := ["sheet"]) fun _ _ _ _ _ _ us hl => match us, hl with | [_], _ => rfl
  have F_counted := fun_mk (st := topS 12) l_counted c_counted k_counted
  have g_counted := PySem.W.mg_of X G a_counted
  have b_counted := F_counted.binds (ps := ["_law_plan"]) fun _ _ _ _ _ _ us hl => match us, hl with | [_], _ => rfl
  have F_right := fun_mk (st := topS 13) l_right c_right k_right
  have g_right := PySem.W.mg_of X G a_right
  have b_right := F_right.binds (ps := ["_law_plan"]) fun _ _ _ _ _ _ us hl => match us, hl with | [_], _ => rfl
  have F_law := fun_mk (st := topS 14) l_law c_law k_law
  have g_law := PySem.W.mg_of X G a_law
  have F_wants : FunDf K "wants_of" (topS 3) [.non] f_wants _ := fund_mk (its := [.none]) l_wants c_wants k_wants t_wants rfl (.cons rfl .nil) (by simp)
  have g_wants := PySem.W.mg_of X G a_wants
  have m_len := PySem.W.mg_none_of X G z_len
  have m_list := PySem.W.mg_none_of X G z_list
  have m_range := PySem.W.mg_none_of X G z_range
  have m_tuple := PySem.W.mg_none_of X G z_tuple
  have m_sorted := PySem.W.mg_none_of X G z_sorted
  have m_all := PySem.W.mg_none_of X G z_all
  have m_zip := PySem.W.mg_none_of X G z_zip
  have m_repr := PySem.W.mg_none_of X G z_repr
  refine ⟨PySem.W.fnOf "law" "law" (defArgs (topS 14)) (defBody (topS 14)) (defScope (topS 14)) .none kV_law dc_law pm_law an_law cd_law ct_law, fun s v => .of_eq rfl, fun base _ _ => ?_⟩
  have Fe : Cal l.prog w K mg base 1 "_law_feed" f_feed _ ["_law_script"] (spFeed K) := ⟨ok_feed F_feed m_list, g_feed, k_feed, b_feed⟩
  have D : Cal l.prog w K mg base 1 "_law_draw" f_draw _ ["_law_feed_here", "_law_many_here"] spDraw := ⟨ok_draw F_draw m_len, g_draw, k_draw, b_draw⟩
  have Nm : Cal l.prog w K mg base 2 "_law_names" f_names _ ["_law_feed_here", "_law_many_here"] spNames := ⟨ok_names F_names D m_len m_range, g_names, k_names, b_names⟩
  have Mn : Cal l.prog w K mg base 2 "_law_many" f_many _ ["_law_feed_here"] spMany := ⟨ok_many F_many D, g_many, k_many, b_many⟩
  have Wt : Cal l.prog w K mg base 3 "_law_want" f_want _ ["_law_feed_here", "_law_forms", "_law_shades"] (spWant K) := ⟨ok_want F_want D Mn m_len m_tuple m_sorted, g_want, k_want, b_want⟩
  have St : Cal l.prog w K mg base 4 "_law_sheet" f_sheet _ ["_law_feed_here", "_law_forms", "_law_shades", "_law_most_now"] (spSheet K) := ⟨ok_sheet F_sheet D Wt m_range m_tuple, g_sheet, k_sheet, b_sheet⟩
  have Cp : Cal l.prog w K mg base 1 "copied_way" f_copy _ ["way"] (spCopy K) := ⟨ok_copy F_copy m_tuple, g_copy, k_copy, b_copy⟩
  have Ch : Cal l.prog w K mg base 1 "choices" f_choices _ ["sheet"] (spChoices K) := ⟨ok_choices F_choices m_tuple m_range m_len, g_choices, k_choices, b_choices⟩
  have Pl : Cal l.prog w K mg base 1 "is_plain" f_plain _ ["sheet"] (spPlain K) := ⟨ok_plain F_plain m_all m_len, g_plain, k_plain, b_plain⟩
  have W : CalD l.prog w K mg base 2 "wants_of" f_wants _ ["sheet", "choice"] (spWantsOf K) := ⟨ok_wants F_wants Cp m_tuple m_zip m_len, g_wants, k_wants⟩
  have Ct : Cal l.prog w K mg base 1 "_law_counted" f_counted _ ["_law_plan"] (spCounted K) := ⟨ok_counted F_counted m_tuple m_range m_len, g_counted, k_counted, b_counted⟩
  have R : CalG l.prog w K mg base 3 "_law_right" f_right _ ["_law_plan"] (spRight K) := ⟨ok_right F_right Ct Ch Pl W (kb2 F_wants) (kb1c F_wants) (kb0cs F_wants) (kb1 F_wants) (kb0s F_wants) m_tuple m_range m_len m_repr, g_right, k_right, b_right⟩
  exact ok_law F_law Fe D Nm St R Ch Ct m_tuple m_range m_repr
end K08

open PySem PySem.W PyProof.Rows
set_option maxHeartbeats 0 in
theorem PySem.Challenge.cw_partkits_k08_choices_and_wants_holds : PySem.Challenge.rw_partkits_k08_choices_and_wants.Holds := by
  w_on; o_law; k_head; (case hw => w_witness2)
  k_fill
  refine PK.walk_ofG (l := PySem.Challenge.rw_partkits_k08_choices_and_wants) (n := 63) (k := 5) (x := "_law_script") (sp := fun w => K08.spLaw _) rfl (by decide) rfl ⟨rfl, by decide, by decide⟩ (fun w h Y => PySem.W.kIn_of Y) ?F (fun _ _ a ns hl _ hS => ⟨a, ns, rfl, hS, fun _ => rfl⟩)
  case F =>
    intro w mg fa h KX G hmg
    refine' K08.all_mk KX G hmg ?a_feed ?l_feed ?c_feed ?k_feed ?a_draw ?l_draw ?c_draw ?k_draw ?a_names ?l_names ?c_names ?k_names ?a_many ?l_many ?c_many ?k_many ?a_want ?l_want ?c_want ?k_want ?a_sheet ?l_sheet ?c_sheet ?k_sheet ?a_copy ?l_copy ?c_copy ?k_copy ?a_choices ?l_choices ?c_choices ?k_choices ?a_plain ?l_plain ?c_plain ?k_plain ?a_counted ?l_counted ?c_counted ?k_counted ?a_right ?l_right ?c_right ?k_right ?a_law ?l_law ?c_law ?k_law ?a_wants ?l_wants ?t_wants ?c_wants ?k_wants ?z_len ?z_list ?z_range ?z_tuple ?z_sorted ?z_all ?z_zip ?z_repr
    (case a_feed => k_is)
    (case l_feed => k_is)
    (case c_feed => k_is)
    (case k_feed => k_is)
    (case a_draw => k_is)
    (case l_draw => k_is)
    (case c_draw => k_is)
    (case k_draw => k_is)
    (case a_names => k_is)
    (case l_names => k_is)
    (case c_names => k_is)
    (case k_names => k_is)
    (case a_many => k_is)
    (case l_many => k_is)
    (case c_many => k_is)
    (case k_many => k_is)
    (case a_want => k_is)
    (case l_want => k_is)
    (case c_want => k_is)
    (case k_want => k_is)
    (case a_sheet => k_is)
    (case l_sheet => k_is)
    (case c_sheet => k_is)
    (case k_sheet => k_is)
    (case a_copy => k_is)
    (case l_copy => k_is)
    (case c_copy => k_is)
    (case k_copy => k_is)
    (case a_choices => k_is)
    (case l_choices => k_is)
    (case c_choices => k_is)
    (case k_choices => k_is)
    (case a_plain => k_is)
    (case l_plain => k_is)
    (case c_plain => k_is)
    (case k_plain => k_is)
    (case a_counted => k_is)
    (case l_counted => k_is)
    (case c_counted => k_is)
    (case k_counted => k_is)
    (case a_right => k_is)
    (case l_right => k_is)
    (case c_right => k_is)
    (case k_right => k_is)
    (case a_law => k_is)
    (case l_law => k_is)
    (case c_law => k_is)
    (case k_law => k_is)
    (case a_wants => k_is)
    (case l_wants => k_is)
    (case t_wants => k_is)
    (case c_wants => k_is)
    (case k_wants => k_is)
    (case z_len => k_is)
    (case z_list => k_is)
    (case z_range => k_is)
    (case z_tuple => k_is)
    (case z_sorted => k_is)
    (case z_all => k_is)
    (case z_zip => k_is)
    (case z_repr => k_is)
