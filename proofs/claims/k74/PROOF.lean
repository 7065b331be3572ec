import PyProof.Rows.All
import Wide.All
import OpenK.AllK
import Wide.FinOn
import PyProof.EqAt
import PyProof.EqKinds
import PyProof.TupleCall
import PyProof.ReprRoads
import HandS.ForMost
import HandS.Walk
import HandS.TupAny
import HandS.TupMul
import HandS.Zip
import HandS.Defaults
import HandS.Style
import HandS.Evl
import HandS.FStrTup
import HandS.Conv
import HandS.More
import HandS.Set
import KE.DatumOrd
import KE.SortData
import HandS.MakeKwOnly
import HandS.ExcInit
import HandS.ExcSuper
import KE.KExcSuper
import HandS.WordsExc
import HandS.CallSlots
import HandS.ExcField
import HandS.ExcIs
import HandS.SetTxt0
import HandS.SetBool
import HandS.Comp
import HandS.Codes
import HandS.Deep
import HandS.IsInst
import PyProof.InstNe
import OpenK.KOps
import PyProof.Rows.IntBool
import HandS.SetFor
import HandS.Text
import KE.KCallOwn
import HandS.FStr
import HandS.DictComp
import KE.KDictKeyed
import HandS.TryOnly
import HandS.DictEq
import HandS.List
import HandS.Iter
import KE.GoesEnum
import PyProof.P3Eq
import HandS.Sort
import PyProof.SeqRoads2
import HandS.SetKeys
import PyProof.ReprReads
import KE.KFmtOwn
import PyProof.ReprHeads
import PyProof.ReprNest
import PyProof.NeKinds
import HandS.Small
import HandS.Star
import HandS.Strs
import HandS.ExcOwn
import KE.KExcIs
import PyProof.FitsInt
import HandS.TupLe
import PySem.Challenge.RW_partkits_k74_tales
set_option Elab.async false
set_option linter.all false
set_option maxRecDepth 100000
set_option maxHeartbeats 4000000
namespace PK
open PySem PySem.Spec PyProof.Rows L2

/-! ### defs that show things: called where nothing is being shown -/
structure FnG (P : Program) (w : World) (K : PySem.W.Frag) (mg : Str → Option Value) (base : Heap) (CX : CXT)
    (k : Nat) (f : Addr) (fd : FuncData) (ps : List Str) (sp : Sp) : Prop where
  len : ∀ vs H Q E, sp vs H Q E → vs.length = ps.length
  go : ∀ {A : Around} {outer : List Env} {s : Shared} {H : Hp} {args : Args} {us : List Value} {vs : List V} {Q : VK} {E : XK},
    A.guards = some [] → Room k A → Env0 P w K mg base A outer s H → BindsTo s fd args (ps.zip us) → Vals vs us →
    sp vs H Q E → codeAny (model P w) A (.call (.ref f) args) (CR CX outer P w H s Q E) s
theorem FnG.of {P : Program} {w : World} {K : PySem.W.Frag} {mg : Str → Option Value} {base : Heap} {CX : CXT}
    {k : Nat} {f : Addr} {fd : FuncData} {ps : List Str} {sp : Sp} (F : FnOk P w K mg base CX k f fd ps sp) :
    FnG P w K mg base CX k f fd ps sp :=
  ⟨F.len, fun _ hr e0 hb hv hs => F.run _ _ _ _ _ _ _ _ _ hr e0 hb hv hs⟩

/-- the def's promise from its body, the body read where nothing is being shown -/
theorem fnG_of {CX : CXT} {P : Program} {w : World} {K : PySem.W.Frag} {mg : Str → Option Value} {base : Heap} {k : Nat} {f : Addr} {fd : FuncData}
    {x qual : Str} {st : Stmt} {N ps : List Str} {sp : Sp} (F : Fun K x qual st f fd) (S : FnScope N ps (defScope st))
    (len : ∀ vs H Q E, sp vs H Q E → vs.length = ps.length)
    (hbody : ∀ (cdv : Value) (A : Around) (outer : List Env) (s : Shared) (H : Hp) (vs : List V) (Q : VK) (E : XK), A.guards = some [] →
      Room k (A.deeper (envOfC qual (defScope st) s.heap.objs.size f cdv)) → sp vs H Q E →
      ∃ t, PSs (cxOf CX P w K mg base N qual (defScope st) f cdv A outer s H E) (defBody st) t ∧
        t { nx := fun _ H' => Q .non H', rt := Q } (start N vs) H) : FnG P w K mg base CX (k + 1) f fd ps sp := by
  obtain ⟨oc, od, kV, doc, pm, an, cdv, ct, osl, rfl, lk, hcd⟩ := F.ex
  refine ⟨len, fun {A outer s H args us vs Q E} hgd hr e0 hb hv hsp => ?_⟩
  have kept : ∀ b o, base.get? b = some o → s.heap.get? b = some o := fun b o e => (e0.bs b o e).1
  have KX := e0.mod.kin.keeps kept
  have noLim := e0.mod.nolimit.keeps kept
  refine codeAny_call_function hr.depth (KX _ _ lk) rfl S.co S.gen rfl (PySem.W.codeRec_of KX hcd) (hb _ _ _ _ ?_)
  refine wpAny_newFunctionEnv_cells S.kind (fun y hy => ?_) fun env he s1 hx => ?_
  · rcases S.par y.1 (List.of_mem_zip (show (y.1, y.2) ∈ ps.zip us from hy)).1 with q | q
    · exact Or.inl q
    · exact Or.inr ⟨q, PySem.W.cellsFrom_some _ _ _ (Or.inl q)⟩
  cases he
  refine ⟨noLim.keeps hx.toInCall.keep, codeAny_func ?_⟩
  obtain ⟨t, ht, hq⟩ := hbody cdv A outer s H vs Q E hgd (hr.deeper _) hsp
  have I := inv_start (CX := CX) (N := N) (E := E) S hr.hd e0 (len _ _ _ _ hsp) hv hx
  refine wpAny_mono (ht.run [] s1 _ H _ I hq) (fun fl s' hs => ?_) (fun _ _ h => h)
  cases fl with
  | ret u =>
    obtain ⟨v, σ', H', J, rv, q⟩ := hs
    exact ⟨v, H', J.os, J.bare, J.base, J.hok, rv, q⟩
  | next =>
    obtain ⟨σ', H', J, q⟩ := hs
    exact ⟨V.non, H', J.os, J.bare, J.base, J.hok, rfl, q⟩
  | brk => exact hs.elim fun _ h => h.elim fun _ h => h.2.elim
  | cont => exact hs.elim fun _ h => h.elim fun _ h => h.2.elim

section
variable {X : Cx} {CX : CXT} {k : Nat} {f : Addr} {fd : FuncData} {ps : List Str} {sp : Sp} {dvs : List V} {ds : List Value} {E : XK}
  {x : Str} {p pos : Pos} {e : Expr} {es : List Expr} {t : TA}
end

/-! ### repr of data -/
end PK
namespace PK
open PySem PySem.Spec PyProof.Rows L2
section
open PySem.SeqAt
open PySem.AutoSeq1 (wpAny_loadPart')
open PySem.MeetsSeq PySem.MeetsSeq2 PySem.MeetsSeq3

end

section
variable {X : Cx}
end

/-! ### t[::-1] -/
section
variable {prog : Program} {w : World} {A : Around} {E : Value → Shared → Prop} {s : Shared}
end
section
variable {X : Cx}
end

/-! ### xs != [], xs == [] -/
section
open PySem.SeqAt
open PySem.AutoSeq1 (wpAny_loadPart')
open PySem.MeetsSeq PySem.MeetsSeq2 PySem.MeetsSeq3
theorem list_ne_sizes (l b : Addr) (xs ys : Array Value) (n m : Nat) (sl sl2 : Array (Option Value)) (hc : (xs.size != ys.size) = true) :
    Meets (Builtin.«list.__ne__» ⟨[.ref l, .ref b], []⟩)
      (fun _ R s => s.heap.get? l = some { cls := .type "list", dict := none, data := .seq xs n, slots := sl } ∧
        s.heap.get? b = some { cls := .type "list", dict := none, data := .seq ys m, slots := sl2 } ∧ R (.ok (.ret (.bool true))) s) :=
  .of_wp fun prog w A R s h => by
    obtain ⟨hp, g, d, tk, os⟩ := s
    obtain ⟨hl, hb, h⟩ := h
    have f3 := AutoSeq1.sub_list_list
    wp_walk using wpAny_loadPart' hl, wpAny_loadPart' hb
    exact ⟨_, rfl, h⟩
end
section
variable {X : Cx}
def rNeNil (K : PySem.W.Frag) : R2 := fun x y H Q => ∃ a b xs, x = .ref a ∧ y = .ref b ∧ SqL K H a xs ∧ SqL K H b [] ∧ Q (.bl (!xs.isEmpty)) H
theorem op_neNil {k : Nat} (hr : Room k X.A) : OpR X (compareOp .NotEq) (rNeNil X.K) := by
  intro pins s σ H x y v u Q I rx ry h
  obtain ⟨a, b, xs, rfl, rfl, ha, hb, q⟩ := h
  cases xs with
  | nil => exact op_neD hr.units pins s σ H _ _ v u Q I rx ry ⟨.list [], .list [], .lst ha .nil, .lst hb .nil, rfl, rfl, q⟩
  | cons z zs =>
    cases rx
    cases ry
    obtain ⟨its, r, ⟨⟨cls, dd, data, sl⟩, n, ho, hc, hdd, hd⟩, _⟩ := I.list ha
    obtain ⟨jts, r2, ⟨⟨cls2, dd2, data2, sl2⟩, n2, ho2, hc2, hdd2, hd2⟩, _⟩ := I.list hb
    simp only at hc hd hdd hc2 hd2 hdd2
    subst hc hd hdd hc2 hd2 hdd2
    cases r2
    have hz : (its.toArray.size != ([] : List Value).toArray.size) = true := by
      rw [List.size_toArray, ← r.length]
      rfl
    exact richCompare_meets_room (op := .NotEq) ⟨_, ho, rfl⟩ ⟨_, ho2, rfl⟩ PySem.F.slot_list_ne PySem.F.entry_list_ne (PySem.F.args_list_ne_2 _ _)
      (list_ne_sizes a b its.toArray ([] : List Value).toArray n n2 sl sl2 hz) ⟨ho, ho2, (fun z => nomatch z), ⟨.bl true, H, I, rfl, q⟩⟩ hr.units0
end
end PK
namespace PK
open PySem PySem.Spec PyProof.Rows L2

/-- a def that may be called: its promise, its name, how its arguments come -/
structure Cal (P : Program) (w : World) (K : PySem.W.Frag) (mg : Str → Option Value) (base : Heap) (k : Nat) (x : Str) (f : Addr)
    (fd : FuncData) (ps : List Str) (sp : Sp) : Prop where
  ok : FnOk P w K mg base CX0 k f fd ps sp
  g : mg x = some (.ref f)
  kp : PySem.W.keepIn K (.ref f) = true
  b : Binds K fd ps []
structure CalG (P : Program) (w : World) (K : PySem.W.Frag) (mg : Str → Option Value) (base : Heap) (k : Nat) (x : Str) (f : Addr)
    (fd : FuncData) (ps : List Str) (sp : Sp) : Prop where
  ok : FnG P w K mg base CX0 k f fd ps sp
  g : mg x = some (.ref f)
  kp : PySem.W.keepIn K (.ref f) = true
  b : Binds K fd ps []

/-! ### the heap but for one object -/
/-- all that was tracked, but the object at a, is as it was -/
def Ext (a : Addr) (H H' : Hp) : Prop := ∀ b o, H b = some o → b ≠ a → H' b = some o
theorem Ext.refl (a : Addr) (H : Hp) : Ext a H H := fun _ _ h _ => h
theorem Ext.trans {a : Addr} {H H1 H2 : Hp} (x : Ext a H H1) (y : Ext a H1 H2) : Ext a H H2 := fun b o h n => y b o (x b o h n) n
theorem Ext.of {a : Addr} {H H' : Hp} (x : Same H H') : Ext a H H' := fun b o h _ => x b o h
theorem Ext.new {a p : Addr} {H H1 : Hp} {o : HO} (x : Ext a H H1) (np : H1 p = none) : Ext a H (upd H1 p o) := fun b u h n => by
  have h1 := x b u h n
  rw [upd_ne (ne_of_none h1 np)]
  exact h1
theorem Ext.at {a : Addr} {H H1 : Hp} {o : HO} (x : Ext a H H1) : Ext a H (upd H1 a o) := fun b u h n => by
  rw [upd_ne n]
  exact x b u h n
/-- a new object of ours changes -/
theorem Ext.own {a p : Addr} {H H1 : Hp} {o : HO} (x : Ext a H H1) (np : H p = none) : Ext a H (upd H1 p o) := fun b u h n => by
  rw [upd_ne (ne_of_none h np)]
  exact x b u h n
theorem Ext.free {a p : Addr} {H H1 : Hp} (x : Ext a H H1) (np : H1 p = none) (ne : p ≠ a) : H p = none := by
  cases q : H p with
  | none => rfl
  | some o =>
    rw [x p o q ne] at np
    cases np
theorem same_new {H H1 : Hp} {p : Addr} {o : HO} (x : Same H H1) (np : H1 p = none) : Same H (upd H1 p o) := fun b u h => by
  have h1 := x b u h
  rw [upd_ne (ne_of_none h1 np)]
  exact h1
/-! ### what the law draws from -/
abbrev kC : Key := Sum.inr "cells"
abbrev kA : Key := Sum.inr "at"
abbrev kL : Key := Sum.inr "left"
abbrev kN : Key := Sum.inr "count"
def feed (c : Addr) (i l n : Int) : List (Key × V) := [(kC, .ref c), (kA, .int i), (kL, .int l), (kN, .int n)]
/-- the feed at a: cells, all of them ints, and three numbers -/
structure Feed (H : Hp) (a : Addr) (c : Addr) (cs : List Int) (i l n : Int) : Prop where
  d : H a = some (.dK (feed c i l n))
  l : H c = some (.lst (cs.map V.int))
  i0 : 0 ≤ i
theorem Feed.ne {H : Hp} {a c : Addr} {cs : List Int} {i l n : Int} (f : Feed H a c cs i l n) : c ≠ a := ne_of f.l f.d (by intro z; cases z)
def IsFeed (H : Hp) (a c : Addr) : Prop := ∃ cs i l n, Feed H a c cs i l n
theorem Feed.new {H : Hp} {a c p : Addr} {cs : List Int} {i l n : Int} {o : HO} (f : Feed H a c cs i l n) (np : H p = none) : Feed (upd H p o) a c cs i l n :=
  ⟨by rw [upd_ne (ne_of_none f.d np)]; exact f.d, by rw [upd_ne (ne_of_none f.l np)]; exact f.l, f.i0⟩
theorem Feed.put {H : Hp} {a c : Addr} {cs : List Int} {i l n i' l' n' : Int} (f : Feed H a c cs i l n) (h : 0 ≤ i') : Feed (upd H a (.dK (feed c i' l' n'))) a c cs i' l' n' :=
  ⟨upd_same, by rw [upd_ne f.ne]; exact f.l, h⟩
theorem IsFeed.new {H : Hp} {a c p : Addr} {o : HO} (f : IsFeed H a c) (np : H p = none) : IsFeed (upd H p o) a c := by
  obtain ⟨cs, i, l, n, f⟩ := f
  exact ⟨cs, i, l, n, f.new np⟩
theorem IsFeed.keep {H H' : Hp} {a c : Addr} (f : IsFeed H a c) (h : Same H H') : IsFeed H' a c := by
  obtain ⟨cs, i, l, n, f⟩ := f
  exact ⟨cs, i, l, n, h _ _ f.d, h _ _ f.l, f.i0⟩
theorem IsFeed.some {H : Hp} {a c : Addr} (f : IsFeed H a c) : ∃ o, H a = some o := by
  obtain ⟨cs, i, l, n, f⟩ := f
  exact ⟨_, f.d⟩
theorem IsFeed.ne {H : Hp} {a c p : Addr} (f : IsFeed H a c) (np : H p = none) : p ≠ a ∧ p ≠ c := by
  obtain ⟨cs, i, l, n, f⟩ := f
  exact ⟨(ne_of_none f.d np).symm, (ne_of_none f.l np).symm⟩
/-- an object of ours that is neither the feed nor its cells changes -/
theorem IsFeed.own {H : Hp} {a c p : Addr} {o : HO} (f : IsFeed H a c) (h : p ≠ a ∧ p ≠ c) : IsFeed (upd H p o) a c := by
  obtain ⟨cs, i, l, n, f⟩ := f
  exact ⟨cs, i, l, n, by rw [upd_ne h.1.symm]; exact f.d, by rw [upd_ne h.2.symm]; exact f.l, f.i0⟩

end PK
namespace PK
open PySem PySem.Spec PyProof.Rows L2
/-- a small letter; a word: one to eight of them -/
def Lw (c : Nat) : Prop := 97 ≤ c ∧ c ≤ 122
structure Word (y : Str) : Prop where
  one : 1 ≤ y.length
  eight : y.length ≤ 8
  low : ∀ c ∈ y.cps.toList, Lw c
abbrev abc : Str := "abcdefghijklmnopqrstuvwxyz"
theorem len_one (c : Nat) : (⟨#[c]⟩ : Str).length = 1 := rfl
end PK
namespace PK
open PySem PySem.Spec PyProof.Rows L2
end PK
namespace PK
open PySem PySem.Spec PyProof.Rows L2

/-! ### what never changes: tuples -/
def Tk : HO → Prop
  | .tup _ => True
  | .frz _ _ => True
  | _ => False
/-- the tuples (and what is locked) stay -/
def TKeep (H H' : Hp) : Prop := ∀ b u, Tk u → H b = some u → H' b = some u
theorem TKeep.refl (H : Hp) : TKeep H H := fun _ _ _ h => h
theorem TKeep.trans {H H1 H2 : Hp} (x : TKeep H H1) (y : TKeep H1 H2) : TKeep H H2 := fun b u t h => y b u t (x b u t h)
theorem TKeep.of {H H' : Hp} (x : Same H H') : TKeep H H' := fun b u _ h => x b u h
theorem TKeep.new {H : Hp} {p : Addr} {o : HO} (np : H p = none) : TKeep H (upd H p o) := fun b u _ h => by
  rw [upd_ne (ne_of_none h np)]
  exact h
theorem TKeep.lst {H : Hp} {p : Addr} {xs : List V} {o : HO} (hp : H p = some (.lst xs)) : TKeep H (upd H p o) := fun b u t h => by
  rw [upd_ne (ne_of h hp (by rintro rfl; exact t))]
  exact h
theorem TKeep.ext {H H' : Hp} {a : Addr} {kv : List (Key × V)} (ha : H a = some (.dK kv)) (x : Ext a H H') : TKeep H H' := fun b u t h =>
  x b u h (ne_of h ha (by rintro rfl; exact t))
theorem TKeep.feed {H H' : Hp} {a c : Addr} (f : IsFeed H a c) (x : Ext a H H') : TKeep H H' := by
  obtain ⟨cs, i, l, n, f⟩ := f
  exact TKeep.ext f.d x
theorem TKeep.sq {K : PySem.W.Frag} {H H' : Hp} {b : Addr} {xs : List V} (x : TKeep H H') (h : SqT K H b xs) : SqT K H' b xs := by
  rcases h with (h | ⟨o, h⟩) | h
  · exact Or.inl (Or.inl (x _ _ trivial h))
  · exact Or.inl (Or.inr ⟨o, x _ _ trivial h⟩)
  · exact Or.inr h
mutual
/-- data without lists and dicts -/
def flatT : PyData → Bool
  | .none | .bool _ | .int _ | .str _ => true
  | .tuple xs => flatTs xs
  | _ => false
def flatTs : List PyData → Bool
  | [] => true
  | x :: xs => flatT x && flatTs xs
end
mutual
theorem Dp.keepT {K : PySem.W.Frag} {H H' : Hp} (x : TKeep H H') : ∀ {d : PyData} {v : V}, flatT d = true → Dp K H v d → Dp K H' v d
  | .none, _, _, .non => .non
  | .bool _, _, _, .bl b => .bl b
  | .int _, _, _, .int i => .int i
  | .str _, _, _, .str y => .str y
  | .list _, _, h, _ => by simp [flatT] at h
  | .dict _, _, h, _ => by simp [flatT] at h
  | .tuple ds, _, h, .tup hs ha => .tup (x.sq hs) (DpAll.keepT x (by simpa [flatT] using h) ha)
theorem DpAll.keepT {K : PySem.W.Frag} {H H' : Hp} (x : TKeep H H') : ∀ {ds : List PyData} {vs : List V}, flatTs ds = true → DpAll K H vs ds → DpAll K H' vs ds
  | [], _, _, .nil => .nil
  | d :: ds, _, h, .cons h1 h2 => by
    have h' : flatT d = true ∧ flatTs ds = true := by simpa [flatTs] using h
    exact .cons (Dp.keepT x h'.1 h1) (DpAll.keepT x h'.2 h2)
end
mutual
theorem Dp.same {K : PySem.W.Frag} {H H' : Hp} (x : Same H H') : ∀ {d : PyData} {v : V}, Dp K H v d → Dp K H' v d
  | .none, _, .non => .non
  | .bool _, _, .bl b => .bl b
  | .int _, _, .int i => .int i
  | .str _, _, .str y => .str y
  | .list ds, _, .lst hs ha => .lst (x.seq hs) (DpAll.same x ha)
  | .tuple ds, _, .tup hs ha => .tup ((TKeep.of x).sq hs) (DpAll.same x ha)
theorem DpAll.same {K : PySem.W.Frag} {H H' : Hp} (x : Same H H') : ∀ {ds : List PyData} {vs : List V}, DpAll K H vs ds → DpAll K H' vs ds
  | [], _, .nil => .nil
  | d :: ds, _, .cons h1 h2 => .cons (Dp.same x h1) (DpAll.same x h2)
end
theorem DpAll.len {K : PySem.W.Frag} {H : Hp} : ∀ {vs : List V} {ds : List PyData}, DpAll K H vs ds → vs.length = ds.length
  | _, _, .nil => rfl
  | _, _, .cons _ h => by rw [List.length_cons, List.length_cons, DpAll.len h]
theorem DpAll.snoc {K : PySem.W.Frag} {H : Hp} {v : V} {d : PyData} (h : Dp K H v d) : ∀ {vs : List V} {ds : List PyData}, DpAll K H vs ds → DpAll K H (vs ++ [v]) (ds ++ [d])
  | _, _, .nil => .cons h .nil
  | _, _, .cons h1 h2 => .cons h1 (DpAll.snoc h h2)
theorem DpAll.app {K : PySem.W.Frag} {H : Hp} : ∀ {vs us : List V} {ds es : List PyData}, DpAll K H vs ds → DpAll K H us es → DpAll K H (vs ++ us) (ds ++ es)
  | _, _, _, _, .nil, h => h
  | _, _, _, _, .cons h1 h2, h => .cons h1 (DpAll.app h2 h)
theorem DpAll.get {K : PySem.W.Frag} {H : Hp} : ∀ {vs : List V} {ds : List PyData} {i : Nat} {d : PyData}, DpAll K H vs ds → ds[i]? = some d → ∃ v, vs[i]? = some v ∧ Dp K H v d
  | _, _, _, _, .nil, h => by simp at h
  | _, _, 0, _, .cons h1 _, h => ⟨_, rfl, by
    have e := Option.some.inj h
    rw [← e]; exact h1⟩
  | _, _, i + 1, _, .cons _ h2, h => by
    obtain ⟨v, e, r⟩ := DpAll.get (i := i) h2 (by simpa using h)
    exact ⟨v, by simpa using e, r⟩
theorem DpAll.getV {K : PySem.W.Frag} {H : Hp} : ∀ {vs : List V} {ds : List PyData} {i : Nat} {v : V}, DpAll K H vs ds → vs[i]? = some v → ∃ d, ds[i]? = some d ∧ Dp K H v d
  | _, _, _, _, .nil, h => by simp at h
  | _, _, 0, _, .cons h1 _, h => ⟨_, rfl, by
    have e := Option.some.inj h
    rw [← e]; exact h1⟩
  | _, _, i + 1, _, .cons _ h2, h => by
    obtain ⟨v, e, r⟩ := DpAll.getV (i := i) h2 (by simpa using h)
    exact ⟨v, by simpa using e, r⟩
theorem DpAll.take {K : PySem.W.Frag} {H : Hp} : ∀ (n : Nat) {vs : List V} {ds : List PyData}, DpAll K H vs ds → DpAll K H (vs.take n) (ds.take n)
  | 0, _, _, _ => .nil
  | _ + 1, _, _, .nil => .nil
  | n + 1, _, _, .cons h1 h2 => .cons h1 (DpAll.take n h2)
theorem DpAll.rev {K : PySem.W.Frag} {H : Hp} : ∀ {vs : List V} {ds : List PyData}, DpAll K H vs ds → DpAll K H vs.reverse ds.reverse
  | _, _, .nil => .nil
  | _, _, .cons h1 h2 => by
    rw [List.reverse_cons, List.reverse_cons]
    exact DpAll.snoc h1 (DpAll.rev h2)
theorem DpAll.ints {K : PySem.W.Frag} {H : Hp} : ∀ ns : List Int, DpAll K H (ns.map V.int) (ns.map PyData.int)
  | [] => .nil
  | n :: ns => .cons (.int n) (DpAll.ints ns)
theorem DpAll.of_ints {K : PySem.W.Frag} {H : Hp} : ∀ {ns : List Int} {vs : List V}, DpAll K H vs (ns.map PyData.int) → vs = ns.map V.int
  | [], _, .nil => rfl
  | n :: ns, _, .cons (.int _) h => by rw [DpAll.of_ints h]; rfl
theorem Dp.tupE {K : PySem.W.Frag} {H : Hp} {v : V} {ds : List PyData} (h : Dp K H v (.tuple ds)) : ∃ b xs, v = .ref b ∧ SqT K H b xs ∧ DpAll K H xs ds := by
  cases h with
  | tup hs ha => exact ⟨_, _, rfl, hs, ha⟩
theorem Dp.lstE {K : PySem.W.Frag} {H : Hp} {v : V} {ds : List PyData} (h : Dp K H v (.list ds)) : ∃ b xs, v = .ref b ∧ SqL K H b xs ∧ DpAll K H xs ds := by
  cases h with
  | lst hs ha => exact ⟨_, _, rfl, hs, ha⟩

/-! ### what can be shown, how deep and how long it is -/
structure Sh (d : PyData) (dp n : Nat) : Prop where
  ok : d.showable = true
  nd : d.hasDict = false
  dep : d.depth ≤ dp
  len : d.shown.length ≤ n
theorem Sh.mono {d : PyData} {a b n m : Nat} (h : Sh d a n) (h1 : a ≤ b) (h2 : n ≤ m) : Sh d b m := ⟨h.ok, h.nd, Nat.le_trans h.dep h1, Nat.le_trans h.len h2⟩
theorem Sh.all {dp n : Nat} : ∀ {ds : List PyData}, (∀ d ∈ ds, Sh d dp n) → PyData.showableAll ds = true ∧ PyData.hasDictAll ds = false ∧
    PyData.depthAll ds ≤ dp ∧ ((PyData.shownAll ds).map (·.length)).sum ≤ ds.length * n ∧ (PyData.shownAll ds).length = ds.length
  | [], _ => ⟨rfl, rfl, Nat.zero_le _, Nat.zero_le _, rfl⟩
  | d :: ds, h => by
    obtain ⟨h1, h2, h3, h4, h5⟩ := Sh.all (ds := ds) fun e he => h e (List.mem_cons_of_mem _ he)
    have q := h d List.mem_cons_self
    refine ⟨?_, ?_, ?_, ?_, ?_⟩
    · show (d.showable && PyData.showableAll ds) = true
      rw [q.ok, h1]
      rfl
    · show (d.hasDict || PyData.hasDictAll ds) = false
      rw [q.nd, h2]
      rfl
    · show max d.depth (PyData.depthAll ds) ≤ dp
      exact Nat.max_le.mpr ⟨q.dep, h3⟩
    · show (d.shown.length :: ((PyData.shownAll ds).map (·.length))).sum ≤ (d :: ds).length * n
      rw [List.sum_cons, List.length_cons, Nat.succ_mul]
      have := q.len
      omega
    · show (PyData.shownAll ds).length + 1 = ds.length + 1
      rw [h5]
theorem Sh.tuple {dp n m : Nat} {ds : List PyData} (h : ∀ d ∈ ds, Sh d dp n) (hm : ds.length ≤ m) : Sh (.tuple ds) (dp + 1) (m * n + 2 * m + 3) := by
  obtain ⟨h1, h2, h3, h4, h5⟩ := Sh.all h
  refine ⟨by simpa [PyData.showable] using h1, by simpa [PyData.hasDict] using h2, by simpa [PyData.depth] using h3, ?_⟩
  have e : (PyData.shown (.tuple ds)) = tupleText (PyData.shownAll ds) := by simp only [PyData.shown]
  rw [e]
  have l := tupleText_len_le (PyData.shownAll ds)
  rw [h5] at l
  have : ds.length * n ≤ m * n := Nat.mul_le_mul_right n hm
  omega
theorem Sh.list {dp n m : Nat} {ds : List PyData} (h : ∀ d ∈ ds, Sh d dp n) (hm : ds.length ≤ m) : Sh (.list ds) (dp + 1) (m * n + 2 * m + 3) := by
  obtain ⟨h1, h2, h3, h4, h5⟩ := Sh.all h
  refine ⟨by simpa [PyData.showable] using h1, by simpa [PyData.hasDict] using h2, by simpa [PyData.depth] using h3, ?_⟩
  have e : (PyData.shown (.list ds)) = listText (PyData.shownAll ds) := by simp only [PyData.shown]
  rw [e]
  have l := listText_len_le (PyData.shownAll ds)
  rw [h5] at l
  have : ds.length * n ≤ m * n := Nat.mul_le_mul_right n hm
  omega
theorem Sh.non : Sh .none 0 4 := ⟨rfl, rfl, Nat.le_refl _, by decide +kernel⟩
theorem Sh.bl (b : Bool) : Sh (.bool b) 0 5 := ⟨rfl, rfl, Nat.le_refl _, by cases b <;> decide +kernel⟩
theorem Sh.word {y : Str} (h : Word y) : Sh (.str y) 0 82 := by
  refine ⟨rfl, rfl, Nat.le_refl _, ?_⟩
  have e : (PyData.shown (.str y)) = reprText y := by simp only [PyData.shown]
  rw [e]
  have l := StrLaws.reprText_len y fun c hc => Nat.lt_of_le_of_lt (h.low c hc).2 (by decide)
  have := h.eight
  omega
/-- a number of at most 1920 bits -/
theorem Sh.intB {i : Int} {k : Nat} (hk : 0 < k) (h : i.natAbs.log2 < k) (hk2 : k ≤ 1920) : Sh (.int i) 0 (k + 1) := by
  refine ⟨decide_eq_true (Nat.lt_of_lt_of_le h hk2), rfl, Nat.le_refl _, ?_⟩
  have e : (PyData.shown (.int i)) = Str.ofString (toString i) := by simp only [PyData.shown]
  rw [e, PySem.ofString_length]
  exact int_text_length_le hk h
theorem Sh.int {i : Int} (h0 : 0 ≤ i) (h : i < 2 ^ 64) : Sh (.int i) 0 65 := by
  refine Sh.intB (k := 64) (by decide) ?_ (by decide)
  by_cases z : i.natAbs = 0
  · rw [z]; decide
  · exact (Nat.log2_lt z).mpr (by omega)
end PK
namespace PK
open PySem PySem.Spec PyProof.Rows L2

/-! ### wants, ways, rows, sheets as data -/
abbrev Want := Str × List Str × Int
abbrev Way := List Want
abbrev Row := List Way
abbrev Sheet := List Row
structure WantOk (x : Want) : Prop where
  form : Word x.1
  shades : ∀ y ∈ x.2.1, Word y
  few : x.2.1.length ≤ 8
  one : 1 ≤ x.2.2
  most : x.2.2 ≤ 1000000000
structure WayOk (n : Nat) (x : Way) : Prop where
  len : x.length ≤ n
  each : ∀ y ∈ x, WantOk y
structure RowOk (n : Nat) (x : Row) : Prop where
  some : 1 ≤ x.length
  len : x.length ≤ 3
  each : ∀ y ∈ x, WayOk n y
structure SheetOk (m n : Nat) (x : Sheet) : Prop where
  len : x.length ≤ m
  each : ∀ y ∈ x, RowOk n y
/-! ### all choices: two ways to count them -/
/-- as the program does it -/
def grow (told : List (List Int)) (L : Nat) : List (List Int) := told.flatMap fun c => (List.range L).map fun (p : Nat) => c ++ [((p : Nat) : Int)]
def total (ls : List Nat) : Nat := ls.foldl (· * ·) 1
end PK
namespace PK
open PySem PySem.Spec PyProof.Rows L2
/-- a list of words at p, some of them -/
structure Words (H : Hp) (p : Addr) (ws : List Str) : Prop where
  at_ : H p = some (.lst (ws.map V.str))
  some : ws ≠ []
  few : ws.length ≤ 8
  each : ∀ y ∈ ws, Word y
theorem Words.ext {H H' : Hp} {a c p : Addr} {ws : List Str} (w : Words H p ws) (f : IsFeed H a c) (x : Ext a H H') : Words H' p ws := by
  obtain ⟨cs, i, l, n, f⟩ := f
  exact ⟨x p _ w.at_ (ne_of w.at_ f.d (by intro z; cases z)), w.some, w.few, w.each⟩
theorem Words.new {H : Hp} {p q : Addr} {o : HO} {ws : List Str} (w : Words H p ws) (nq : H q = none) : Words (upd H q o) p ws :=
  ⟨by rw [upd_ne (ne_of_none w.at_ nq)]; exact w.at_, w.some, w.few, w.each⟩
theorem Words.same {H H' : Hp} {p : Addr} {ws : List Str} (w : Words H p ws) (x : Same H H') : Words H' p ws := ⟨x _ _ w.at_, w.some, w.few, w.each⟩
theorem Words.own {H : Hp} {p q : Addr} {o : HO} {ws : List Str} (w : Words H p ws) (ne : p ≠ q) : Words (upd H q o) p ws :=
  ⟨by rw [upd_ne ne]; exact w.at_, w.some, w.few, w.each⟩
theorem Words.pos {H : Hp} {p : Addr} {ws : List Str} (w : Words H p ws) : 0 < ws.length := by
  cases h : ws with
  | nil => exact absurd h w.some
  | cons _ _ => simp
end PK
namespace PK
open PySem PySem.Spec PyProof.Rows L2
end PK
namespace PK
open PySem PySem.Spec PyProof.Rows L2
/-! ### places in the text -/
theorem take_snoc {α : Type} {l : List α} {i : Nat} {x : α} (h : l[i]? = some x) : l.take (i + 1) = l.take i ++ [x] := by
  rw [List.take_add_one, h]
  rfl
end PK
/-! The rules with the written part K said: within a comprehension the block's own context is not named. -/
namespace PK
open PySem PySem.Spec PyProof.Rows L2
def rTupOf (K : PySem.W.Frag) : List V → Hp → VK → Prop := fun xs H Q => ∃ p ys, xs = [.ref p] ∧
  ((SqL K H p ys ∧ ∀ l, H l = none → Q (.ref l) (upd H l (.tup ys))) ∨ (SqT K H p ys ∧ Q (.ref p) H))
def rLenOf (K : PySem.W.Frag) : List V → Hp → VK → Prop := fun xs H Q => ∃ p ys, xs = [.ref p] ∧ (SqL K H p ys ∨ SqT K H p ys) ∧ Q (.int ys.length) H
def rListOf (K : PySem.W.Frag) : List V → Hp → VK → Prop := fun xs H Q => ∃ p ys, xs = [.ref p] ∧ (SqL K H p ys ∨ SqT K H p ys) ∧
  ∀ l, H l = none → Q (.ref l) (upd H l (.lst ys))
section
variable {X : Cx} (K : PySem.W.Frag)
theorem k_tup (hK : X.K = K := by rfl) : CallR X (.type "tuple") (rTupOf K) := by subst hK; exact call_tuple_of
theorem k_len (hK : X.K = K := by rfl) : CallR X (.builtin "len") (rLenOf K) := by subst hK; exact call_len_seq
theorem k_list (hK : X.K = K := by rfl) : CallR X (.type "list") (rListOf K) := by subst hK; exact call_list_of
theorem ks_list (hK : X.K = K := by rfl) : SlR X (rSlL K) := by subst hK; exact sl_list
theorem ko_catA (hK : X.K = K := by rfl) : OpR X (binaryOp .Add) (rCatA K) := by subst hK; exact op_catA
theorem ko_neNil {k : Nat} (hr : Room k X.A) (hK : X.K = K := by rfl) : OpR X (compareOp .NotEq) (rNeNil K) := by subst hK; exact op_neNil hr
theorem ko_eqD {k : Nat} (hr : Room k X.A) (hK : X.K = K := by rfl) : OpR X (compareOp .Eq) (rEqD K) := by subst hK; exact op_eqD hr.units
theorem ko_neD {k : Nat} (hr : Room k X.A) (hK : X.K = K := by rfl) : OpR X (compareOp .NotEq) (rNeD K) := by subst hK; exact op_neD hr.units
end
end PK
namespace PK
open PySem PySem.Spec PyProof.Rows L2
section
open PySem.SeqAt
open PySem.AutoSeq1 (wpAny_loadPart')
open PySem.MeetsSeq PySem.MeetsSeq2 PySem.MeetsSeq3
theorem mul_one (l : Addr) (items : Array Value) (n : Nat) (dd : Option Addr) (sl : Array (Option Value)) (u : Tok) :
    Meets (Builtin.«tuple.__mul__» ⟨[.ref l, .int 1 u], []⟩) (fun _ R s => s.heap.get? l = some { cls := .type "tuple", dict := dd, data := .seq items n, slots := sl } ∧
      R (.ok (.ret (Value.ref l))) s) :=
  .of_wp fun prog w A R s h => by
    obtain ⟨hp, g, d, tk, os⟩ := s
    obtain ⟨hl, h⟩ := h
    have f1 := AutoSeq1.idx_int
    have c1 : (items.isEmpty || (1 : Int) == 1) = true := by simp
    wp_walk using wpAny_loadPart' hl
    exact ⟨_, rfl, h⟩
theorem mul_nought (l : Addr) (items : Array Value) (n : Nat) (dd : Option Addr) (sl : Array (Option Value)) (u : Tok) (c1 : (items.isEmpty || (0 : Int) == 1) = false) :
    Meets (Builtin.«tuple.__mul__» ⟨[.ref l, .int 0 u], []⟩) (fun _ R s => s.heap.get? l = some { cls := .type "tuple", dict := dd, data := .seq items n, slots := sl } ∧
      R (.ok (.ret (Value.ref s.heap.objs.size))) { s with heap := s.heap.push { cls := Value.type "tuple", data := Data.seq #[] } }) :=
  .of_wp fun prog w A R s h => by
    obtain ⟨hp, g, d, tk, os⟩ := s
    obtain ⟨hl, h⟩ := h
    have f1 := AutoSeq1.idx_int
    wp_walk using wpAny_loadPart' hl
    repeat (first
      | (refine wpAny_ite_false (decide_eq_false (by rw [c1]; exact Bool.false_ne_true)) ?_; wp_walk using wpAny_loadPart' hl))
    exact ⟨_, rfl, h⟩
end
/-- t * k, k from nought on -/
def rRepA (K : PySem.W.Frag) : R2 := fun x y H Q => ∃ l k xs, x = .ref l ∧ y = .int k ∧ SqT K H l xs ∧ xs ≠ [] ∧ 0 ≤ k ∧ k ≤ 1000 ∧ xs.length ≤ 1000 ∧
  (k = 1 → Q (.ref l) H) ∧ (k ≠ 1 → ∀ p, H p = none → Q (.ref p) (upd H p (.tup (List.replicate k.toNat xs).flatten)))
theorem ko_repA {X : Cx} (K : PySem.W.Frag) (hK : X.K = K := by rfl) : OpR X (binaryOp .Mult) (rRepA K) := by
  subst hK
  intro pins s σ H x y v u Q I rx ry h
  obtain ⟨l, k, xs, rfl, rfl, hT, hne, h0, h1, hz, q1, q2⟩ := h
  by_cases k2 : 2 ≤ k
  · exact op_repT pins s σ H _ _ v u Q I rx ry ⟨l, k, xs, rfl, rfl, hT, hne, k2, h1, hz, q2 (by omega)⟩
  · cases rx
    obtain ⟨t, rfl⟩ := ry
    obtain ⟨its, r, ⟨⟨cls, dd, data, sl⟩, ho, hc, n, hd⟩, hs⟩ := I.tuple hT
    simp only at hc hd
    subst hc hd
    have hle : its.length = xs.length := r.length.symm
    have hi : its.toArray.isEmpty = false := by
      cases its with
      | nil => exact absurd (List.eq_nil_of_length_eq_zero hle.symm) hne
      | cons _ _ => rfl
    have kk : k = 0 ∨ k = 1 := by omega
    rcases kk with rfl | rfl
    · refine wpAny_binaryOp_repeat_ref (T := "tuple") (U := "int") (by decide) ⟨_, ho, rfl⟩ (fun s' => typeIs_int s' 0 t) noFill_tuple_mul F.fills_int_mul F.slot_int_rmul repeat_tuple F.slot_int_index.lookup
        (call_meets F.slot_int_rmul (typeIs_int s 0 t) F.entry_int_rmul (F.args_int_rmul_2 _ _) (int_rmul_tuple 0 t l its.toArray n dd sl)
          ⟨ho, rfl, ⟨_, ho, rfl⟩, call_meets F.slot_tuple_mul ⟨_, ho, rfl⟩ F.entry_tuple_mul (F.args_tuple_mul_2 _ _) (mul_nought l its.toArray n dd sl t (by rw [hi]; rfl)) ⟨ho, ?_⟩⟩)
      refine ⟨.ref _, _, I.laid (t' := s.toks) (o := .tup []) (fun b ob q => Heap.get?_push_of_some _ q) (Nat.le_refl _) ?_, rfl, q2 (by decide) _ (I.hok.fresh (Nat.le_refl _))⟩
      exact ⟨Nat.zero_le _, [], .nil, ⟨_, Heap.get?_push_size _ rfl, rfl, 0, rfl⟩⟩
    · refine wpAny_binaryOp_repeat_ref (T := "tuple") (U := "int") (by decide) ⟨_, ho, rfl⟩ (fun s' => typeIs_int s' 1 t) noFill_tuple_mul F.fills_int_mul F.slot_int_rmul repeat_tuple F.slot_int_index.lookup
        (call_meets F.slot_int_rmul (typeIs_int s 1 t) F.entry_int_rmul (F.args_int_rmul_2 _ _) (int_rmul_tuple 1 t l its.toArray n dd sl)
          ⟨ho, rfl, ⟨_, ho, rfl⟩, call_meets F.slot_tuple_mul ⟨_, ho, rfl⟩ F.entry_tuple_mul (F.args_tuple_mul_2 _ _) (mul_one l its.toArray n dd sl t) ⟨ho, ?_⟩⟩)
      exact ⟨.ref l, H, I, rfl, q1 rfl⟩
end PK
namespace PK
open PySem PySem.Spec PyProof.Rows L2 RZ
section
variable {J J1 : It} {n n1 : Nat} {G G1 : Hp → Prop} {Y Y1 : Nat → Hp → V → Hp → Prop}
end
end PK
/-! Defs with defaults, called by places and by names. -/
namespace PK
open PySem PySem.Spec PyProof.Rows L2 RZ
theorem fund_mk {K : PySem.W.Frag} {x qual : Str} {st : Stmt} {f T : Addr} {oc : Value} {od an : Option Addr} {osl : Array (Option Value)} {kV doc pm cdv ct : Value} {o : Obj} {its : List Value} {n : Nat} {dvs : List V}
    (l : K.lookup f = some ⟨oc, od, .func (PySem.W.fnOf x qual (defArgs st) (defBody st) (defScope st) (.ref T) kV doc pm an cdv ct), osl⟩)
    (c : PySem.W.codeIn K cdv qual = true) (k : PySem.W.keepIn K (.ref f) = true) (lT : K.lookup T = some o) (oT : o.data = .seq its.toArray n) (r : Vals dvs its) (hd : dvs ≠ []) :
    FunD K x qual (defArgs st) (defBody st) (defScope st) dvs [] f (PySem.W.fnOf x qual (defArgs st) (defBody st) (defScope st) (.ref T) kV doc pm an cdv ct) :=
  ⟨⟨oc, od, .ref T, kV, doc, pm, an, cdv, ct, osl, rfl, l, c, Or.inr ⟨hd, T, o, its, n, rfl, lT, oT, r⟩, Or.inl rfl⟩, k⟩
/-- how such a call binds: n values by their places, ks the names of the others -/
def KB (K : PySem.W.Frag) (fd : FuncData) (ps : List Str) (n : Nat) (ks : List Str) (gV : List V → List V → List V) : Prop :=
  ∃ g : List Value → List Value → List Value, KBn K fd ps n ks g gV
theorem kb_of {K : PySem.W.Frag} {x qual : Str} {params : Arguments} {body : List Stmt} {scope : Scope} {dvs : List V} {f : Addr} {fd : FuncData} {ps : List Str}
    (F : FunD K x qual params body scope dvs [] f fd) (n : Nat) (ks : List Str) (g : {α : Type} → List α → List α → List α → List α) (hd : dvs ≠ [])
    (hrel : ∀ {vs ds zs : List V} {us its ws : List Value}, Vals vs us → Vals ds its → Vals zs ws → Vals (g vs ds zs) (g us its ws))
    (h : ∀ (T : Addr) (kV doc pm : Value) (an : Option Addr) (cdv ct : Value) (us its ws : List Value), us.length = n → its.length = dvs.length → ws.length = ks.length →
      (∃ k, bindArgs (PySem.W.fnOf x qual params body scope (.ref T) kV doc pm an cdv ct) ⟨us, ks.zip ws⟩ = seqItems? (.ref T) >>= k ∧ k (some its.toArray) = pure (ps.zip (g us its ws)))) :
    KB K fd ps n ks (fun vs zs => g vs dvs zs) := by
  obtain ⟨oc, od, dV, kV, doc, pm, an, cdv, ct, osl, rfl, lk, hcd, hD, hK⟩ := F.ex
  rcases hD with ⟨e, _⟩ | ⟨_, T, o, its, m, rfl, lT, oT, rT⟩
  · exact absurd e hd
  · refine ⟨fun us ws => g us its ws, fun s us ws X l1 l2 => ?_, fun r1 r2 => hrel r1 rT r2⟩
    obtain ⟨k, e1, e2⟩ := h T kV doc pm an cdv ct us its ws l1 rT.length.symm l2
    refine BindsTo.of_looks fun M => ?_
    rw [e1]
    exact looks_items X lT oT (PySem.W.Looks.of_pure e2)
section
variable {X : Cx} {CX : CXT} {k n : Nat} {f : Addr} {fd : FuncData} {ps ks : List Str} {sp : Sp} {E : XK} {x : Str} {p pos : Pos} {e : Expr} {es : List Expr} {kws : List Keyword} {t tk : TA} {gV : List V → List V → List V}
theorem pe_kb (F : FnOk X.prog X.w X.K X.mg X.base CX k f fd ps sp) (hr : Room k X.A) (hg : Gl X x) (hm : X.mg x = some (.ref f)) (hk : PySem.W.keepIn X.K (.ref f) = true) (hb : KB X.K fd ps n ks gV) (hx : Passes CX X E)
    (ha : PA X (e :: es) t) (hkw : PK X kws tk) (hall : (backToKw pos (keywordEach kws X.env)).all (·.1.isSome) = true := by rfl) (hks : (backToKw pos (keywordEach kws X.env)).filterMap (·.1) = ks := by rfl)
    (hdb : (x == ("__debug__" : Str)) = false := by decide) (he : starEach (e :: es) X.env = (false, eval e X.env) :: starEach es X.env := by rfl)
    (hpl : ((backTo pos (starEach (e :: es) X.env)).any (·.1) || (backToKw pos (keywordEach kws X.env)).any (·.1.isNone)) = false := by rfl) :
    PE X (.Call (.Name x p) (e :: es) kws pos) (tCallN n ks.length sp gV E t tk) := by
  obtain ⟨g, hb⟩ := hb
  exact pe_callN F hr hg hm hk hb hx ha hkw hall hks hdb he hpl
end
structure CalD (P : Program) (w : World) (K : PySem.W.Frag) (mg : Str → Option Value) (base : Heap) (k : Nat) (x : Str) (f : Addr)
    (fd : FuncData) (ps : List Str) (sp : Sp) : Prop where
  ok : FnOk P w K mg base CX0 k f fd ps sp
  g : mg x = some (.ref f)
  kp : PySem.W.keepIn K (.ref f) = true
/-! ### lengths of choices -/
theorem SheetOk.mono {a b c d : Nat} {x : Sheet} (h : SheetOk a b x) (h1 : a ≤ c) (h2 : b ≤ d) : SheetOk c d x :=
  ⟨Nat.le_trans h.len h1, fun r hr => ⟨(h.each r hr).some, (h.each r hr).len, fun w hw => ⟨Nat.le_trans ((h.each r hr).each w hw).len h2, ((h.each r hr).each w hw).each⟩⟩⟩
/-- the rule for a def that shows things and lets no exception out -/
theorem funG_ok {P : Program} {w : World} {K : PySem.W.Frag} {mg : Str → Option Value} {base : Heap} {k : Nat} {f : Addr} {fd : FuncData}
    {x qual : Str} {st : Stmt} {N ps : List Str} {sp : Sp} (F : Fun K x qual st f fd) (S : FnScope N ps (defScope st))
    (len : ∀ vs H Q E, sp vs H Q E → vs.length = ps.length)
    (hbody : ∀ (cdv : Value) (A : Around) (outer : List Env) (s : Shared) (H : Hp) (vs : List V) (Q : VK) (E : XK), A.guards = some [] →
      Room k (A.deeper (envOfC qual (defScope st) s.heap.objs.size f cdv)) → sp vs H Q E →
      ∃ t, PSs (cxOf CX0 P w K mg base N qual (defScope st) f cdv A outer s H E).nox (defBody st) t ∧
        t { nx := fun _ H' => Q .non H', rt := Q } (start N vs) H) : FnG P w K mg base CX0 (k + 1) f fd ps sp :=
  fnG_of F S len fun cdv A outer s H vs Q E hg hr h => by
    obtain ⟨t, ht, hq⟩ := hbody cdv A outer s H vs Q E hg hr h
    exact ⟨t, ht.nox, hq⟩
end PK
/-! The order of data; sorted and min of data; sorted of a dict with tuple keys. -/
namespace PK
open PySem PySem.Spec PyProof.Rows L2
/-! ### the order -/
abbrev dlt : PyData → PyData → Bool := PySem.W.dataLt
mutual
theorem eqv_eq : ∀ (x y : PyData), PySem.W.alike x y = true → PyData.eqv x y = true → x = y
  | .none, y, h, e => by cases y <;> simp [PySem.W.alike] at h <;> rfl
  | .bool _, y, h, e => by cases y <;> simp [PySem.W.alike] at h; simpa [PyData.eqv] using e
  | .int _, y, h, e => by cases y <;> simp [PySem.W.alike] at h; simpa [PyData.eqv] using e
  | .str _, y, h, e => by cases y <;> simp [PySem.W.alike] at h; simpa [PyData.eqv] using e
  | .list xs, y, h, e => by
    cases y with
    | list ys => rw [eqvAll_eq xs ys (by simpa [PySem.W.alike] using h) (by simpa [PyData.eqv] using e)]
    | _ => simp [PySem.W.alike] at h
  | .tuple xs, y, h, e => by
    cases y with
    | tuple ys => rw [eqvAll_eq xs ys (by simpa [PySem.W.alike] using h) (by simpa [PyData.eqv] using e)]
    | _ => simp [PySem.W.alike] at h
  | .dict _, y, h, e => by cases y <;> simp [PySem.W.alike] at h
theorem eqvAll_eq : ∀ (xs ys : List PyData), PySem.W.alikeAll xs ys = true → PyData.eqvAll xs ys = true → xs = ys
  | [], [], _, _ => rfl
  | [], _ :: _, _, e => by simp [PyData.eqvAll] at e
  | _ :: _, [], _, e => by simp [PyData.eqvAll] at e
  | x :: xs, y :: ys, h, e => by
    obtain ⟨h1, h2⟩ := PySem.W.alike_all_cons h
    rw [PySem.W.eqv_all_cons, Bool.and_eq_true] at e
    rw [eqv_eq x y h1 e.1, eqvAll_eq xs ys h2 e.2]
end
mutual
theorem eqv_refl : ∀ (x : PyData), flatT x = true → PyData.eqv x x = true
  | .none, _ => by simp [PyData.eqv]
  | .bool _, _ => by simp [PyData.eqv]
  | .int _, _ => by simp [PyData.eqv]
  | .str _, _ => by simp [PyData.eqv]
  | .list _, h => by simp [flatT] at h
  | .dict _, h => by simp [flatT] at h
  | .tuple xs, h => by
    rw [PyData.eqv]
    exact eqvAll_refl xs (by simpa [flatT] using h)
theorem eqvAll_refl : ∀ (xs : List PyData), flatTs xs = true → PyData.eqvAll xs xs = true
  | [], _ => by simp [PyData.eqvAll]
  | x :: xs, h => by
    have h' : flatT x = true ∧ flatTs xs = true := by simpa [flatTs] using h
    rw [PySem.W.eqv_all_cons, eqv_refl x h'.1, eqvAll_refl xs h'.2]
    rfl
end
theorem eqv_false {x y : PyData} (h : PySem.W.alike x y = true) (e : x ≠ y) : PyData.eqv x y = false := by
  cases q : PyData.eqv x y with
  | false => rfl
  | true => exact absurd (eqv_eq x y h q) e
theorem dlt_irr (x : PyData) : dlt x x = false := PyProof.Rows.lex_irrefl _
theorem dlt_tr {x y z : PyData} (h1 : dlt x y = true) (h2 : dlt y z = true) : dlt x z = true := PyProof.Rows.lex_trans _ _ _ h1 h2
theorem dlt_asym {x y : PyData} (h : dlt x y = true) : dlt y x = false := by
  cases q : dlt y x with
  | false => rfl
  | true =>
    have := dlt_tr h q
    rw [dlt_irr] at this
    cases this
theorem dlt_split {x z : PyData} (y : PyData) (h : dlt x z = true) : dlt x y = true ∨ dlt y z = true := PyProof.Rows.lex_negTrans _ _ _ h
theorem dlt_tot {x y : PyData} (h : PySem.W.alike x y = true) (e : x ≠ y) : dlt x y = true ∨ dlt y x = true := by
  cases q1 : dlt x y with
  | true => exact Or.inl rfl
  | false =>
    cases q2 : dlt y x with
    | true => exact Or.inr rfl
    | false =>
      have et := PyProof.Rows.lex_total _ _ q1 q2
      have f := (PySem.W.toks_eqv x y h).2 (eqv_false h e) [.inl 0] [.inl 1]
      rw [et, PySem.W.lex_pre, PyProof.Rows.lex_irrefl] at f
      exact absurd f (by decide)
/-- rising -/
def Rises (ds : List PyData) : Prop := ds.Pairwise fun x y => dlt x y = true
theorem rises_ext : ∀ {xs ys : List PyData}, Rises xs → Rises ys → (∀ d, d ∈ xs ↔ d ∈ ys) → xs = ys
  | [], [], _, _, _ => rfl
  | [], y :: _, _, _, h => nomatch (h y).mpr List.mem_cons_self
  | x :: _, [], _, _, h => nomatch (h x).mp List.mem_cons_self
  | x :: xs, y :: ys, h1, h2, h => by
    obtain ⟨a1, a2⟩ := List.pairwise_cons.mp h1
    obtain ⟨b1, b2⟩ := List.pairwise_cons.mp h2
    have e : x = y := by
      rcases List.mem_cons.mp ((h x).mp List.mem_cons_self) with q | q
      · exact q
      · rcases List.mem_cons.mp ((h y).mpr List.mem_cons_self) with q2 | q2
        · exact q2.symm
        · have c1 := b1 x q
          have c2 := dlt_asym (a1 y q2)
          rw [c1] at c2
          cases c2
    subst e
    have nx : x ∉ xs := fun q => by
      have := a1 x q
      rw [dlt_irr] at this
      cases this
    have ny : x ∉ ys := fun q => by
      have := b1 x q
      rw [dlt_irr] at this
      cases this
    rw [rises_ext a2 b2 fun d => ⟨fun hd => ?_, fun hd => ?_⟩]
    · rcases List.mem_cons.mp ((h d).mp (List.mem_cons_of_mem _ hd)) with q | q
      · subst q
        exact absurd hd nx
      · exact q
    · rcases List.mem_cons.mp ((h d).mpr (List.mem_cons_of_mem _ hd)) with q | q
      · subst q
        exact absurd hd ny
      · exact q
/-! ### sorted -/
def srt {α : Type} (rev : Bool) (k : α → PyData) (bs : List α) : List α := bs.mergeSort (PySem.W.dataLe rev k)
theorem srt_perm {α : Type} (rev : Bool) (k : α → PyData) (bs : List α) : (srt rev k bs).Perm bs := List.mergeSort_perm _ _
theorem srt_up {α : Type} (k : α → PyData) (bs : List α) : (srt false k bs).Pairwise fun x y => dlt (k y) (k x) = false := by
  have tr : ∀ a b c : α, PySem.W.dataLe false k a b = true → PySem.W.dataLe false k b c = true → PySem.W.dataLe false k a c = true := by
    intro a b c h1 h2
    rw [PySem.W.dataLe_eq] at h1 h2 ⊢
    simp only [cond_false, Bool.not_eq_true'] at h1 h2 ⊢
    cases q : PySem.W.dataLt (k c) (k a) with
    | false => rfl
    | true =>
      rcases dlt_split (k b) q with z | z
      · rw [show PySem.W.dataLt (k c) (k b) = true from z] at h2
        cases h2
      · rw [show PySem.W.dataLt (k b) (k a) = true from z] at h1
        cases h1
  have tot : ∀ a b : α, (PySem.W.dataLe false k a b || PySem.W.dataLe false k b a) = true := by
    intro a b
    rw [PySem.W.dataLe_eq]
    simp only [cond_false]
    cases q : PySem.W.dataLt (k b) (k a) with
    | false => rfl
    | true =>
      have := dlt_asym q
      rw [show PySem.W.dataLt (k a) (k b) = false from this]
      rfl
  refine (List.pairwise_mergeSort tr tot bs).imp fun {a b} h => ?_
  rw [PySem.W.dataLe_eq] at h
  simpa using h
/-- alike, all different: strictly rising -/
theorem srt_rises {α : Type} {k : α → PyData} {bs : List α} (ha : PySem.W.AllAlike (bs.map k)) (hn : (bs.map k).Nodup) : Rises ((srt false k bs).map k) := by
  have p := (srt_perm false k bs).map k
  have hn' : ((srt false k bs).map k).Nodup := p.nodup_iff.mpr hn
  have up : ((srt false k bs).map k).Pairwise fun x y => dlt y x = false := List.pairwise_map.mpr (srt_up k bs)
  have ha' : PySem.W.AllAlike ((srt false k bs).map k) := fun d hd e he => ha d (p.mem_iff.mp hd) e (p.mem_iff.mp he)
  generalize (srt false k bs).map k = ds at hn' up ha'
  have both : ds.Pairwise fun x y => x ≠ y ∧ dlt y x = false := by
    have := hn'
    unfold List.Nodup at this
    exact List.pairwise_and_iff.mpr ⟨this, up⟩
  clear up hn'
  unfold Rises
  induction ds with
  | nil => exact List.Pairwise.nil
  | cons d ds ih =>
    obtain ⟨h1, h2⟩ := List.pairwise_cons.mp both
    refine List.pairwise_cons.mpr ⟨fun e he => ?_, ih (fun a h b h' => ha' a (List.mem_cons_of_mem _ h) b (List.mem_cons_of_mem _ h')) h2⟩
    obtain ⟨q1, q2⟩ := h1 e he
    rcases dlt_tot (ha' d List.mem_cons_self e (List.mem_cons_of_mem _ he)) q1 with z | z
    · exact z
    · rw [z] at q2
      cases q2
/-! ### the rules -/
structure Cmpb (ds : List PyData) : Prop where
  al : PySem.W.AllAlike ds
  so : PySem.W.Sortable ds
  dp : ∀ d ∈ ds, d.depth ≤ 90
theorem dp_zip {K : PySem.W.Frag} {H : Hp} : ∀ {xs : List V} {ds : List PyData}, DpAll K H xs ds → (∀ b ∈ xs.zip ds, Dp K H b.1 b.2) ∧ (xs.zip ds).map (·.1) = xs ∧ (xs.zip ds).map (·.2) = ds
  | _, _, .nil => ⟨fun _ h => (nomatch h), rfl, rfl⟩
  | x :: xs, d :: ds, .cons h1 h2 => by
    obtain ⟨a, b, c⟩ := dp_zip h2
    refine ⟨fun p hp => ?_, ?_, ?_⟩
    · rcases List.mem_cons.mp hp with rfl | q
      · exact h1
      · exact a p q
    · show x :: (xs.zip ds).map (·.1) = _
      rw [b]
    · show d :: (xs.zip ds).map (·.2) = _
      rw [c]
theorem each_vals {bs : List (V × PyData)} : ∀ {us : List Value}, Vals (bs.map (·.1)) us → PySem.W.EachIs (fun v b => RelV b.1 v) us bs := by
  induction bs with
  | nil =>
    intro us r
    cases r
    exact .nil
  | cons b bs ih =>
    intro us r
    cases r with
    | cons r1 r2 => exact .cons r1 (ih r2)
theorem vals_each {bs : List (V × PyData)} : ∀ {us : List Value}, PySem.W.EachIs (fun v b => RelV b.1 v) us bs → Vals (bs.map (·.1)) us
  | _, .nil => .nil
  | _, .cons r1 r2 => .cons r1 (vals_each r2)
theorem each_reads {X : Cx} {pins : List (Addr × Obj)} {σ : L2.St} {H : Hp} {s : Shared} (I : Inv X pins σ H s) : ∀ {bs : List (V × PyData)} {us : List Value}, PySem.W.EachIs (fun v b => RelV b.1 v) us bs → (∀ b ∈ bs, Dp X.K H b.1 b.2) →
    PySem.W.EachIs (fun v (b : V × PyData) => ∃ as, Reads s.heap v b.2 as) us bs
  | _, _, .nil, _ => .nil
  | _, _, .cons r1 r2, h => .cons (Dp.reads I _ _ _ (h _ List.mem_cons_self) r1) (each_reads I r2 fun b hb => h b (List.mem_cons_of_mem _ hb))
section
variable {X : Cx}
theorem depthAll_le {n : Nat} : ∀ {ds : List PyData}, (∀ d ∈ ds, d.depth ≤ n) → PyData.depthAll ds ≤ n
  | [], _ => Nat.zero_le _
  | d :: ds, h => Nat.max_le.mpr ⟨h d List.mem_cons_self, depthAll_le fun e he => h e (List.mem_cons_of_mem _ he)⟩
/-! ### a dict with tuple keys -/
end
end PK
/-! Part rows: their sums, rising, each part once. -/
namespace PK
open PySem PySem.Spec PyProof.Rows L2
abbrev PKey := Str × Str
abbrev PRow := Str × Str × Int
def pk (r : PRow) : PKey := (r.1, r.2.1)
def pkD (k : PKey) : PyData := .tuple [.str k.1, .str k.2]
def prowD (r : PRow) : PyData := .tuple [.str r.1, .str r.2.1, .int r.2.2]
def rowsD (L : List PRow) : PyData := .tuple (L.map prowD)
theorem flat_prow (r : PRow) : flatT (prowD r) = true := rfl
theorem flatTs_map {α : Type} {f : α → PyData} (h : ∀ a, flatT (f a) = true) : ∀ l : List α, flatTs (l.map f) = true
  | [] => rfl
  | a :: l => by
    show (flatT (f a) && flatTs (l.map f)) = true
    rw [h a, flatTs_map h l]
    rfl
theorem flat_rows (L : List PRow) : flatT (rowsD L) = true := by
  show flatTs (L.map prowD) = true
  exact flatTs_map flat_prow L
theorem pkD_inj {a b : PKey} (h : pkD a = pkD b) : a = b := by
  unfold pkD at h
  injection h with h
  injection h with h1 h2
  injection h1 with h1
  injection h2 with h2 _
  injection h2 with h2
  exact Prod.ext h1 h2
theorem pkD_alike (a b : PKey) : PySem.W.alike (pkD a) (pkD b) = true := by simp [pkD, PySem.W.alike, PySem.W.alikeAll]
theorem pk_allAlike (ks : List PKey) : PySem.W.AllAlike (ks.map pkD) := PySem.W.AllAlike.of pkD_alike
theorem nodup_mapD {ks : List PKey} (h : ks.Nodup) : (ks.map pkD).Nodup := by
  unfold List.Nodup at h ⊢
  refine List.pairwise_map.mpr (h.imp fun {a b} q e => q (pkD_inj e))
/-! ### how many -/
def cnt : List PRow → PKey → Int
  | [], _ => 0
  | r :: L, k => (if pk r = k then r.2.2 else 0) + cnt L k
theorem cnt_nil (k : PKey) : cnt [] k = 0 := rfl
theorem cnt_cons (r : PRow) (L : List PRow) (k : PKey) : cnt (r :: L) k = (if pk r = k then r.2.2 else 0) + cnt L k := rfl
theorem cnt_app : ∀ (L M : List PRow) (k : PKey), cnt (L ++ M) k = cnt L k + cnt M k
  | [], M, k => by rw [List.nil_append, cnt_nil]; omega
  | r :: L, M, k => by
    rw [List.cons_append, cnt_cons, cnt_cons, cnt_app L M k]
    omega
theorem cnt_none {L : List PRow} {k : PKey} (h : k ∉ L.map pk) : cnt L k = 0 := by
  induction L with
  | nil => rfl
  | cons r L ih =>
    rw [List.map_cons, List.mem_cons, not_or] at h
    rw [cnt_cons, if_neg (fun e => h.1 e.symm), ih h.2]
    rfl
/-- a drawn row: words, from 1 on -/
structure PRowOk (b : Int) (r : PRow) : Prop where
  f : Word r.1
  s : Word r.2.1
  lo : 1 ≤ r.2.2
  hi : r.2.2 ≤ b
structure RowsOk (n : Nat) (b : Int) (L : List PRow) : Prop where
  len : L.length ≤ n
  each : ∀ r ∈ L, PRowOk b r
theorem PRowOk.mono {b c : Int} {r : PRow} (h : PRowOk b r) (hb : b ≤ c) : PRowOk c r := ⟨h.f, h.s, h.lo, Int.le_trans h.hi hb⟩
theorem RowsOk.mono {n m : Nat} {b c : Int} {L : List PRow} (h : RowsOk n b L) (hn : n ≤ m) (hb : b ≤ c) : RowsOk m c L := ⟨Nat.le_trans h.len hn, fun r hr => (h.each r hr).mono hb⟩
theorem RowsOk.tail {n : Nat} {b : Int} {r : PRow} {L : List PRow} (h : RowsOk n b (r :: L)) : RowsOk n b L := ⟨by have := h.len; rw [List.length_cons] at this; omega, fun q hq => h.each q (List.mem_cons_of_mem _ hq)⟩
theorem cnt_nn {n : Nat} {b : Int} {L : List PRow} (h : RowsOk n b L) (k : PKey) : 0 ≤ cnt L k := by
  induction L with
  | nil => exact Int.le_refl 0
  | cons r L ih =>
    rw [cnt_cons]
    have h1 := (h.each r List.mem_cons_self).lo
    have h2 := ih h.tail
    split <;> omega
theorem cnt_pos {n : Nat} {b : Int} {L : List PRow} (h : RowsOk n b L) {k : PKey} (hk : k ∈ L.map pk) : 0 < cnt L k := by
  induction L with
  | nil => cases hk
  | cons r L ih =>
    rw [cnt_cons]
    have h1 := (h.each r List.mem_cons_self).lo
    have h2 := cnt_nn h.tail k
    rcases List.mem_cons.mp hk with e | e
    · rw [if_pos e.symm]; omega
    · have := ih h.tail e
      split <;> omega
theorem cnt_le {n : Nat} {b : Int} (hb : 0 ≤ b) {L : List PRow} (h : RowsOk n b L) (k : PKey) : cnt L k ≤ (L.length : Int) * b := by
  induction L with
  | nil => simp [cnt_nil]
  | cons r L ih =>
    rw [cnt_cons, List.length_cons]
    have h1 := (h.each r List.mem_cons_self).hi
    have h2 := ih h.tail
    have e : ((L.length + 1 : Nat) : Int) * b = (L.length : Int) * b + b := by
      rw [Int.natCast_add, Int.add_mul]
      simp
    rw [e]
    split <;> omega
theorem cnt_key {n : Nat} {b : Int} {L : List PRow} (h : RowsOk n b L) (k : PKey) : k ∈ L.map pk ↔ 0 < cnt L k := by
  refine ⟨cnt_pos h, fun q => ?_⟩
  by_cases z : k ∈ L.map pk
  · exact z
  · rw [cnt_none z] at q
    omega
/-! ### the sums, rising -/
def nub : List PKey → List PKey
  | [] => []
  | k :: ks => k :: (nub ks).filter fun q => decide (q ≠ k)
theorem mem_nub {k : PKey} : ∀ {ks : List PKey}, k ∈ nub ks ↔ k ∈ ks
  | [] => Iff.rfl
  | q :: ks => by
    show k ∈ q :: _ ↔ _
    rw [List.mem_cons, List.mem_cons, List.mem_filter, mem_nub (ks := ks)]
    by_cases e : k = q
    · simp [e]
    · simp [e]
theorem nodup_nub : ∀ ks : List PKey, (nub ks).Nodup
  | [] => List.nodup_nil
  | q :: ks => List.nodup_cons.mpr ⟨fun h => by
      have := (List.mem_filter.mp h).2
      simp at this, (nodup_nub ks).filter _⟩
def skeys (L : List PRow) : List PKey := srt false pkD (nub (L.map pk))
def sumR (L : List PRow) : List PRow := (skeys L).map fun k => (k.1, k.2, cnt L k)
theorem mem_skeys {L : List PRow} {k : PKey} : k ∈ skeys L ↔ k ∈ L.map pk := ((srt_perm false pkD _).mem_iff).trans mem_nub
theorem skeys_rises (L : List PRow) : Rises ((skeys L).map pkD) := srt_rises (pk_allAlike _) (nodup_mapD (nodup_nub _))
theorem sumR_keys (L : List PRow) : (sumR L).map pk = skeys L := by
  unfold sumR
  rw [List.map_map]
  exact List.map_id'' (fun k => rfl) _
theorem map_inj {ks ls : List PKey} : ks.map pkD = ls.map pkD → ks = ls := by
  induction ks generalizing ls with
  | nil => intro h; cases ls with
    | nil => rfl
    | cons => cases h
  | cons k ks ih =>
    intro h
    cases ls with
    | nil => cases h
    | cons l ls =>
      rw [List.map_cons, List.map_cons] at h
      injection h with h1 h2
      rw [pkD_inj h1, ih h2]
/-- rising keys that are just these -/
theorem skeys_of {L : List PRow} {ks : List PKey} (h : Rises (ks.map pkD)) (hm : ∀ k, k ∈ ks ↔ k ∈ L.map pk) : ks = skeys L := by
  refine map_inj (rises_ext h (skeys_rises L) fun d => ⟨fun hd => ?_, fun hd => ?_⟩)
  · obtain ⟨k, hk, rfl⟩ := List.mem_map.mp hd
    exact List.mem_map.mpr ⟨k, mem_skeys.mpr ((hm k).mp hk), rfl⟩
  · obtain ⟨k, hk, rfl⟩ := List.mem_map.mp hd
    exact List.mem_map.mpr ⟨k, (hm k).mpr (mem_skeys.mp hk), rfl⟩
theorem sumR_of {L M : List PRow} (h : Rises (M.map fun r => pkD (pk r))) (hm : ∀ k, k ∈ M.map pk ↔ k ∈ L.map pk) (hc : ∀ r ∈ M, r.2.2 = cnt L (pk r)) : M = sumR L := by
  have e : M.map pk = skeys L := skeys_of (by rw [List.map_map]; exact h) hm
  unfold sumR
  rw [← e, List.map_map]
  symm
  refine (List.map_congr_left (g := id) fun r hr => ?_).trans (List.map_id _)
  show (r.1, r.2.1, cnt L (pk r)) = r
  rw [← hc r hr]
theorem sumR_congr {L M : List PRow} (hm : ∀ k, k ∈ L.map pk ↔ k ∈ M.map pk) (hc : ∀ k, cnt L k = cnt M k) : sumR L = sumR M := by
  have e : skeys L = skeys M := skeys_of (skeys_rises L) fun k => mem_skeys.trans (hm k)
  unfold sumR
  rw [e]
  exact List.map_congr_left fun k _ => by rw [hc k]
/-- the same how many of each: the same sums -/
theorem sumR_eq {n m : Nat} {b c : Int} {L M : List PRow} (hL : RowsOk n b L) (hM : RowsOk m c M) (h : ∀ k, cnt L k = cnt M k) : sumR L = sumR M :=
  sumR_congr (fun k => by rw [cnt_key hL, cnt_key hM, h k]) h
theorem sumR_len (L : List PRow) : (sumR L).length ≤ L.length := by
  unfold sumR
  rw [List.length_map]
  have h : ∀ ks : List PKey, (nub ks).length ≤ ks.length := by
    intro ks
    induction ks with
    | nil => exact Nat.le_refl _
    | cons k ks ih =>
      show ((nub ks).filter _).length + 1 ≤ ks.length + 1
      have := List.length_filter_le (fun q => decide (q ≠ k)) (nub ks)
      omega
  have e := (srt_perm false pkD (nub (L.map pk))).length_eq
  have := h (L.map pk)
  rw [List.length_map] at this
  unfold skeys
  omega
theorem sumR_ok {n : Nat} {b : Int} (hb : 0 ≤ b) {L : List PRow} (h : RowsOk n b L) : RowsOk n (n * b) (sumR L) := by
  refine ⟨Nat.le_trans (sumR_len L) h.len, fun r hr => ?_⟩
  unfold sumR at hr
  obtain ⟨k, hk, rfl⟩ := List.mem_map.mp hr
  have hk' := mem_skeys.mp hk
  obtain ⟨q, hq, rfl⟩ := List.mem_map.mp hk'
  have okq := h.each q hq
  refine ⟨okq.f, okq.s, ?_, ?_⟩
  · have := cnt_pos h hk'
    show 1 ≤ cnt L (pk q)
    omega
  · have h1 := cnt_le hb h (pk q)
    have h2 : (L.length : Int) * b ≤ (n : Int) * b := Int.mul_le_mul_of_nonneg_right (by have := h.len; omega) hb
    exact Int.le_trans h1 h2
/-! ### shown -/
end PK
/-! A dict of how many, by part; what the heaps' defs promise. -/
namespace PK
open PySem PySem.Spec PyProof.Rows L2
abbrev kk (k : PKey) : List Key := [Sum.inr k.1, Sum.inr k.2]
theorem Dp.pk {K : PySem.W.Frag} {H : Hp} {b : Addr} {k : PKey} (h : SqT K H b [.str k.1, .str k.2]) : Dp K H (.ref b) (pkD k) := .tup h (.cons (.str _) (.cons (.str _) .nil))
/-! ### the promises -/
/-- a heap's attributes -/
def hf (t : Addr) : List (Str × V) := putF "held" (.ref t) []
theorem hf_no (t : Addr) {m : Str} (h : ¬ m = "held") : (hf t).lookup m = none := by
  unfold hf
  rw [lookup_putF, if_neg h]
  all_goals rfl
/-- a heap of these rows stands at p -/
def HeapAt (K : PySem.W.Frag) (C : Addr) (H : Hp) (p : Addr) (L : List PRow) : Prop := ∃ dx t, H p = some (.ins C dx (hf t)) ∧ Dp K H (.ref t) (rowsD L)
theorem HeapAt.same {K : PySem.W.Frag} {C : Addr} {H H' : Hp} {p : Addr} {L : List PRow} (h : HeapAt K C H p L) (s : Same H H') : HeapAt K C H' p L := by
  obtain ⟨dx, t, h1, h2⟩ := h
  exact ⟨dx, t, s _ _ h1, Dp.same s h2⟩
theorem HeapAt.ext {K : PySem.W.Frag} {C : Addr} {H H' : Hp} {p a c : Addr} {L : List PRow} (h : HeapAt K C H p L) (fe : IsFeed H a c) (x : Ext a H H') : HeapAt K C H' p L := by
  obtain ⟨dx, t, h1, h2⟩ := h
  obtain ⟨cs, i, l, n, fe'⟩ := id fe
  exact ⟨dx, t, x _ _ h1 (ne_of h1 fe'.d (by intro z; cases z)), Dp.keepT (TKeep.feed fe x) (flat_rows L) h2⟩
/-- __init__ -/
def spInit (K : PySem.W.Frag) (C : Addr) : Sp := fun vs H Q _ => ∃ (p dx : Addr) (x : V) (L : List PRow), vs = [.ref p, x] ∧ H p = some (.ins C dx []) ∧ ((x = .non ∧ L = []) ∨ Dp K H x (rowsD L)) ∧ L.length ≤ 900 ∧
  ∀ H' : Hp, (∀ b o, H b = some o → b ≠ p → H' b = some o) → HeapAt K C H' p (sumR L) → Q .non H'
/-- what is known of the class -/
structure HCls (K : PySem.W.Frag) (mg : Str → Option Value) (C : Addr) : Prop where
  cl : Cls K C
  nh : NoAttr K C "held"
  mg : mg "Heap" = some (.ref C)
end PK
/-! A heap made: Heap(), Heap(x), Heap(rows=x). -/
namespace PK
open PySem PySem.Spec PyProof.Rows L2
/-- all that is known of the class and its __init__ -/
structure HMk (P : Program) (w : World) (K : PySem.W.Frag) (mg : Str → Option Value) (base : Heap) (k : Nat) (C f : Addr) (fd : FuncData) : Prop where
  c : HCls K mg C
  m : Mk K C f
  ok : FnOk P w K mg base CX0 k f fd ["self", "rows"] (spInit K C)
  b0 : ∃ ds, Vals [V.non] ds ∧ Binds K fd ["self", "rows"] ds
  b1 : KB K fd ["self", "rows"] 2 [] (fun vs _ => vs)
  bk : KB K fd ["self", "rows"] 1 ["rows"] (fun vs zs => vs ++ zs)
section
variable {X : Cx} {k : Nat} {C f : Addr} {fd : FuncData} {p pos : Pos} {e : Expr} {kw : Keyword} {te : TE}
/-- the one argument -/
def one (R : V → Hp → Prop) : List V → Hp → Prop := fun vs H => match vs with
  | [x] => R x H
  | _ => False
end
/-- a method that may be called, all its arguments given -/
structure MCal (P : Program) (w : World) (K : PySem.W.Frag) (mg : Str → Option Value) (base : Heap) (k : Nat) (C : Addr) (x : Str) (f : Addr) (fd : FuncData) (ps : List Str) (sp : Sp) : Prop where
  ok : FnOk P w K mg base CX0 k f fd ps sp
  m : Meth K C x f
  b : Binds K fd ps []
theorem HeapAt.no {K : PySem.W.Frag} {C : Addr} {H : Hp} {p : Addr} {L : List PRow} (h : HeapAt K C H p L) {m : Str} (hm : ¬ m = "held") : ∃ dx fs, H p = some (.ins C dx fs) ∧ fs.lookup m = none := by
  obtain ⟨dx, t, h1, _⟩ := h
  exact ⟨dx, _, h1, hf_no t hm⟩
end PK
/-! Drawn rows; sums by taking the least one by one; rows parted in two. -/
namespace PK
open PySem PySem.Spec PyProof.Rows L2
/-- what has been found, what is left -/
structure Least (L M : List PRow) (ks : List PKey) : Prop where
  up : Rises (M.map fun r => pkD (pk r))
  ahead : ∀ r ∈ M, ∀ q ∈ ks, dlt (pkD (pk r)) (pkD q) = true
  all : ∀ k, k ∈ L.map pk ↔ k ∈ M.map pk ∨ k ∈ ks
  many : ∀ r ∈ M, r.2.2 = cnt L (pk r)
theorem Least.start (L : List PRow) : Least L [] (L.map pk) := ⟨List.Pairwise.nil, fun _ h => (nomatch h), fun k => ⟨Or.inr, fun h => h.resolve_left (fun z => nomatch z)⟩, fun _ h => (nomatch h)⟩
theorem Least.done {L M : List PRow} (h : Least L M []) : M = sumR L := sumR_of h.up (fun k => ⟨fun z => (h.all k).mpr (Or.inl z), fun z => ((h.all k).mp z).resolve_right (fun z => nomatch z)⟩) h.many
theorem Least.next {L M : List PRow} {ks : List PKey} {m : PKey} (h : Least L M ks) (hm : m ∈ ks) (hl : ∀ q ∈ ks, q ≠ m → dlt (pkD m) (pkD q) = true) :
    Least L (M ++ [(m.1, m.2, cnt L m)]) (ks.filter fun q => decide (q ≠ m)) := by
  refine ⟨?_, fun r hr q hq => ?_, fun k => ?_, fun r hr => ?_⟩
  · unfold Rises
    rw [List.map_append]
    refine List.pairwise_append.mpr ⟨h.up, List.pairwise_singleton _ _, fun d hd e he => ?_⟩
    obtain ⟨r, hr, rfl⟩ := List.mem_map.mp hd
    have : e = pkD m := List.mem_singleton.mp he
    rw [this]
    exact h.ahead r hr m hm
  · obtain ⟨q1, q2⟩ := List.mem_filter.mp hq
    rcases List.mem_append.mp hr with hr | hr
    · exact h.ahead r hr q q1
    · rw [List.mem_singleton.mp hr]
      exact hl q q1 (of_decide_eq_true q2)
  · rw [h.all k, List.map_append, List.mem_append, List.mem_filter]
    show _ ↔ (k ∈ M.map pk ∨ k ∈ [m]) ∨ _
    rw [List.mem_singleton, decide_eq_true_eq]
    by_cases e : k = m
    · subst e
      simp [hm]
    · simp [e]
  · rcases List.mem_append.mp hr with hr | hr
    · exact h.many r hr
    · rw [List.mem_singleton.mp hr]
      rfl
/-! ### rows parted in two -/
def parted1 (r : PRow) : List PRow := (if 1 < r.2.2 then [(r.1, r.2.1, r.2.2 / 2)] else []) ++ [(r.1, r.2.1, r.2.2 - r.2.2 / 2)]
def parted (L : List PRow) : List PRow := L.flatMap parted1
end PK
/-! An own error whose __init__ says super().__init__(text), its families over ValueError. -/
namespace PK
open PySem PySem.Spec PyProof.Rows L2
/-! ### the bound built-in __init__, called -/
section
variable {prog : Program} {w : World} {A : Around} {E : Value → Shared → Prop} {h : Heap} {g : Array GenState} {d : Drawn} {t : Nat} {os : OsState}
variable {nm q : Str} {C N : Addr} {bs bm : List Value} {hdct : Bool} {sn : List Str} {sub : List Value} {ab : Bool} {col : Option Bool} {dd : Option Addr} {k0 k1 k2 k3 k5 : Option Value}
end
/-! ### a def that says super() -/
/-- the def of the text, within the class at D -/
structure FunS (P : Program) (K : PySem.W.Frag) (x qual : Str) (st : Stmt) (D f : Addr) (fd : FuncData) : Prop where
  ex : ∃ (oc : Value) (od : Option Addr) (osl : Array (Option Value)) (kV doc pm : Value) (an : Option Addr) (cda : Addr) (ct : Value) (cc : Addr) (ccl : Value) (cdd : Option Addr) (vs : Array Value) (ccs : Array (Option Value)) (file : Str) (tf : Tok) (cl : Value) (cld : Option Addr) (csl : Array (Option Value)),
    fd = PySem.W.fnX x qual (defArgs st) (defBody st) (defScope st) [("__class__", cc)] .none kV doc pm an (.ref cda) ct ∧ K.lookup f = some ⟨oc, od, .func fd, osl⟩ ∧ PySem.W.codeIn K (.ref cda) qual = true ∧
    K.lookup cda = some ⟨ccl, cdd, .fields vs, ccs⟩ ∧ vs[2]? = some (.str file tf) ∧ ((P.main.file : Str) == file) = true ∧ K.lookup cc = some ⟨cl, cld, .cell (some (.ref D)), csl⟩
  top : (P.main.scope.names.lookup ("super" : Str)).isSome = false
/-- the class of the error, with its line of classes over ValueError -/
structure SupC (K : PySem.W.Frag) (mg : Str → Option Value) (C : Addr) : Prop where
  ex : OexC K C
  cls : ∃ cd, PySem.W.clsIn K C = some cd
  self : PySem.W.mroIn K C (.ref C) = some true
  ve : PySem.W.mroIn K C (.type "ValueError") = some true
  up : PySem.W.ks_superIn K C C "__init__" = some (some (.builtin "ValueError.__init__"))
  third : PySem.W.nsIn K cStatics "thirdparty.any" = some none
  sup : mg "super" = none
structure SScope (N ps : List Str) (sc : Scope) : Prop where
  kind : sc.kind = .function
  co : sc.isCoroutine = false
  gen : sc.isGenerator = false
  nd : N.Nodup
  pre : N.take ps.length = ps
  par : ∀ x ∈ ps, sc.names.lookup x = some .local
  nocell : ∀ y ∈ sc.names, y.2 ≠ .cell
  fr : ∀ y ∈ sc.names, y.2 = .free → y.1 = "__class__"
  ksup : sc.names.lookup ("super" : Str) = some .globalImplicit
  kcls : sc.names.lookup ("__class__" : Str) = some .free
end PK
/-! Heaps together, what is above, what lacks. -/
namespace PK
open PySem PySem.Spec PyProof.Rows L2
/-- of this form, and of this shade where one is told -/
def sel (f : Str) (o : Option Str) (r : PRow) : Bool := decide (r.1 = f) && match o with
  | none => true
  | some t => decide (r.2.1 = t)
def selL (L : List PRow) (f : Str) (o : Option Str) : List Int := (L.filter (sel f o)).map fun r => r.2.2
def manyR (L : List PRow) (f : Str) (o : Option Str) : Int := (selL L f o).sum
/-- what the one has more than the other -/
def above1 (M : List PRow) (r : PRow) : Option PRow := if 0 < r.2.2 - cnt M (pk r) then some (r.1, r.2.1, r.2.2 - cnt M (pk r)) else none
def aboveR (L M : List PRow) : List PRow := L.filterMap (above1 M)
theorem aboveR_len (L M : List PRow) : (aboveR L M).length ≤ L.length := List.length_filterMap_le _ _
theorem aboveR_mem {L M : List PRow} {q : PRow} (h : q ∈ aboveR L M) : ∃ r ∈ L, pk q = pk r ∧ q.2.2 = r.2.2 - cnt M (pk r) ∧ 0 < q.2.2 := by
  obtain ⟨r, hr, e⟩ := List.mem_filterMap.mp h
  unfold above1 at e
  split at e
  · rename_i z
    cases e
    exact ⟨r, hr, rfl, rfl, z⟩
  · cases e
theorem aboveR_ok {n m : Nat} {b c : Int} {L M : List PRow} (hL : RowsOk n b L) (hM : RowsOk m c M) : RowsOk n b (aboveR L M) := by
  refine ⟨Nat.le_trans (aboveR_len L M) hL.len, fun q hq => ?_⟩
  obtain ⟨r, hr, e1, e2, h0⟩ := aboveR_mem hq
  have okr := hL.each r hr
  have hn := cnt_nn hM (pk r)
  have hi := okr.hi
  have f1 : q.1 = r.1 := congrArg (fun k : PKey => k.1) e1
  have f2 : q.2.1 = r.2.1 := congrArg (fun k : PKey => k.2) e1
  exact ⟨by rw [f1]; exact okr.f, by rw [f2]; exact okr.s, by omega, by omega⟩
theorem rises_above {L M : List PRow} (h : Rises (L.map fun r => pkD (pk r))) : Rises ((aboveR L M).map fun r => pkD (pk r)) := by
  unfold Rises at h ⊢
  rw [List.pairwise_map] at h ⊢
  unfold aboveR
  refine List.pairwise_filterMap.mpr (h.imp fun {a b} z a' ha b' hb => ?_)
  unfold above1 at ha hb
  split at ha
  · split at hb
    · cases ha
      cases hb
      exact z
    · cases hb
  · cases ha
/-- rising rows are their own sums -/
theorem sumR_id {M : List PRow} (h : Rises (M.map fun r => pkD (pk r))) : sumR M = M := by
  symm
  refine sumR_of h (fun k => Iff.rfl) fun r hr => ?_
  have nd : (M.map pk).Nodup := by
    unfold Rises at h
    rw [List.pairwise_map] at h
    unfold List.Nodup
    rw [List.pairwise_map]
    refine h.imp fun {a b} z e => ?_
    rw [e, dlt_irr] at z
    cases z
  clear h
  induction M with
  | nil => cases hr
  | cons q M ih =>
    rw [List.map_cons] at nd
    obtain ⟨n1, n2⟩ := List.nodup_cons.mp nd
    rw [cnt_cons]
    rcases List.mem_cons.mp hr with e | e
    · subst e
      rw [if_pos rfl, cnt_none n1]
      omega
    · have hne : ¬ pk q = pk r := fun z => n1 (by rw [z]; exact List.mem_map.mpr ⟨r, e, rfl⟩)
      rw [if_neg hne, ← ih e n2]
      omega
theorem sumR_rises (L : List PRow) : Rises ((sumR L).map fun r => pkD (pk r)) := by
  have e : ((sumR L).map fun r => pkD (pk r)) = ((sumR L).map pk).map pkD := by rw [List.map_map]; rfl
  rw [e, sumR_keys]
  exact skeys_rises L
/-! ### what the methods promise -/
def spManyM (K : PySem.W.Frag) (C : Addr) : Sp := fun vs H Q _ => ∃ (p : Addr) (f : Str) (x : V) (o : Option Str) (L : List PRow), vs = [.ref p, .str f, x] ∧ HeapAt K C H p L ∧ L.length ≤ 900 ∧
  ((x = .non ∧ o = none) ∨ ∃ t, x = .str t ∧ o = some t) ∧ ∀ H' : Hp, Same H H' → Q (.int (manyR L f o)) H'
/-- an error with the one field -/
def spErr1 (C : Addr) (f : Str) : Sp := fun vs H Q _ => ∃ (a : Addr) (v : V), vs = [.ref a, v] ∧ H a = some (exo a C none) ∧
  ∀ (dx : Addr), H dx = none → dx ≠ a → Q .non (upd (upd H dx (exd dx [(f, v)])) a (exo a C (some dx)))
end PK
/-! Sets of texts: made by a comprehension, sorted. -/
namespace PK
open PySem PySem.Spec PyProof.Rows L2
/-- the set at a holds just the texts l, each once -/
def SetTx (P : Program) (w : World) (h : Heap) (a : Addr) (l : List Str) : Prop := ∃ D : Froz.SD, h.get? a = some (Froz.sObj "set" D) ∧ Froz.TxOk P w D l ∧ Ris D.2.2.place.toList ∧ (w.params.followText "set-order" = true ∨ D.2.2.led = true)
def SetTO (P : Program) (w : World) (a : Addr) (l : List Str) : HO := .ext fun h => SetTx P w h a l
/-- one more -/
def ins (k : Str) (l : List Str) : List Str := if k ∈ l then l else k :: l
section
variable {P : Program} {w : World} {A : Around} {E : Value → Shared → Prop} {s : Shared}
end
/-! ### members -/
/-- texts in order -/
def sortS (l : List Str) : List Str := srt false PyData.str l
theorem str_alike (a b : Str) : PySem.W.alike (PyData.str a) (PyData.str b) = true := by simp [PySem.W.alike]
/-! ### sorted -/
section
variable {X : Cx}
end
end PK
/-! {text for target in iter}. -/
namespace PK
open PySem PySem.Spec PyProof.Rows L2
section
variable {X : Cx} {pins : List (Addr × Obj)} {σ : L2.St} {H : Hp} {s : Shared}
end
end PK
/-! The forms of a heap. -/
namespace PK
open PySem PySem.Spec PyProof.Rows L2
end PK
/-! Drawn names are unlike. -/
namespace PK
open PySem PySem.Spec PyProof.Rows L2
theorem cps_app (x y : Str) : (x ++ y).cps.toList = x.cps.toList ++ y.cps.toList := by
  show (x.cps ++ y.cps).toList = _
  exact Array.toList_append ..
def hd1 (y : Str) : Option Nat := y.cps.toList.head?
def letterOf (j : Int) : Nat := 97 + (j % 26).toNat
structure NmOk (a0 z : Int) (ws : List Str) : Prop where
  nd : ws.Nodup
  lo : a0 ≤ z
  few : z - a0 ≤ ws.length
  hd : ∀ y ∈ ws, ∃ j, a0 < j ∧ j ≤ z ∧ hd1 y = some (letterOf j)
  last : ∀ h : ws ≠ [], hd1 (ws.getLast h) = some (letterOf z) ∧ ∀ y ∈ ws, hd1 y = some (letterOf z) → y.length ≤ (ws.getLast h).length
theorem NmOk.nil (a0 : Int) : NmOk a0 a0 [] := ⟨List.nodup_nil, Int.le_refl _, by simp, fun _ h => (nomatch h), fun h => absurd rfl h⟩
theorem last_snoc {ws : List Str} {y : Str} (h : ws ++ [y] ≠ []) : (ws ++ [y]).getLast h = y := by simp
/-- one with another letter behind the last one -/
theorem NmOk.more {a0 z : Int} {ws : List Str} {c : Nat} (n : NmOk a0 z ws) (h : ws ≠ []) (h1 : 1 ≤ (ws.getLast h).length) : NmOk a0 z (ws ++ [ws.getLast h ++ ⟨#[c]⟩]) := by
  obtain ⟨e1, e2⟩ := n.last h
  have lm := List.getLast_mem h
  have hz := n.hd _ lm
  have hh : hd1 (ws.getLast h ++ ⟨#[c]⟩) = some (letterOf z) := by
    rw [← e1]
    unfold hd1
    generalize ws.getLast h = y at h1
    have e : (y ++ (⟨#[c]⟩ : Str)).cps.toList = y.cps.toList ++ [c] := cps_app _ _
    rw [e]
    have : y.cps.toList ≠ [] := fun q => by
      have : y.length = 0 := by
        show y.cps.size = 0
        rw [← Array.length_toList, q]
        rfl
      omega
    cases q : y.cps.toList with
    | nil => exact absurd q this
    | cons a l => rfl
  have ll : (ws.getLast h ++ (⟨#[c]⟩ : Str)).length = (ws.getLast h).length + 1 := by rw [strLen_append, len_one]
  refine ⟨?_, n.lo, ?_, fun y hy => ?_, fun h' => ?_⟩
  · refine List.nodup_append.mpr ⟨n.nd, List.nodup_cons.mpr ⟨by simp, List.nodup_nil⟩, fun a ha b hb e => ?_⟩
    rw [List.mem_singleton.mp hb] at e
    have := e2 a ha (by rw [e]; exact hh)
    rw [e, ll] at this
    omega
  · rw [List.length_append, List.length_singleton]
    have := n.few
    omega
  · rcases List.mem_append.mp hy with q | q
    · exact n.hd y q
    · rw [List.mem_singleton.mp q, hh]
      obtain ⟨j, j1, j2, _⟩ := hz
      exact ⟨z, by omega, Int.le_refl _, rfl⟩
  · rw [last_snoc]
    refine ⟨hh, fun y hy q => ?_⟩
    rcases List.mem_append.mp hy with z1 | z1
    · have := e2 y z1 q
      omega
    · rw [List.mem_singleton.mp z1]
      exact Nat.le_refl _
/-- one with the next letter ahead -/
theorem NmOk.next {a0 z : Int} {ws : List Str} {y : Str} (n : NmOk a0 z ws) (h8 : ws.length ≤ 20) (hy : hd1 y = some (letterOf (z + 1))) : NmOk a0 (z + 1) (ws ++ [y]) := by
  have few := n.few
  have lo := n.lo
  have ne : ∀ v ∈ ws, hd1 v ≠ some (letterOf (z + 1)) := fun v hv q => by
    obtain ⟨j, j1, j2, e⟩ := n.hd v hv
    rw [e] at q
    have q := Option.some.inj q
    unfold letterOf at q
    have a1 := Int.emod_nonneg j (show (26 : Int) ≠ 0 by decide)
    have a2 := Int.emod_nonneg (z + 1) (show (26 : Int) ≠ 0 by decide)
    omega
  refine ⟨?_, by omega, ?_, fun v hv => ?_, fun h' => ?_⟩
  · refine List.nodup_append.mpr ⟨n.nd, List.nodup_cons.mpr ⟨by simp, List.nodup_nil⟩, fun a ha b hb e => ?_⟩
    rw [List.mem_singleton.mp hb] at e
    exact ne a ha (by rw [e]; exact hy)
  · rw [List.length_append, List.length_singleton]
    omega
  · rcases List.mem_append.mp hv with q | q
    · obtain ⟨j, j1, j2, e⟩ := n.hd v q
      exact ⟨j, j1, by omega, e⟩
    · rw [List.mem_singleton.mp q]
      exact ⟨z + 1, by omega, Int.le_refl _, hy⟩
  · rw [last_snoc]
    refine ⟨hy, fun v hv q => ?_⟩
    rcases List.mem_append.mp hv with z1 | z1
    · exact absurd q (ne v z1)
    · rw [List.mem_singleton.mp z1]
      exact Nat.le_refl _
end PK
/-! Words near a word; how many of a form; methods called with keywords. -/
namespace PK
open PySem PySem.Spec PyProof.Rows L2
/-! ### o.m(.., k = v, ..) -/
section
variable {X : Cx} {CX : CXT} {k n : Nat} {C f : Addr} {fd : FuncData} {ps ks : List Str} {sp : Sp} {E : XK} {m : Str} {apos pos : Pos} {o e : Expr} {es : List Expr} {kws : List Keyword} {ta : TE} {t tk : TA} {gV : List V → List V → List V}
end
/-! ### texts in a list of texts -/
/-! ### words near a word -/
def w7 (y : Str) : Str := Txt.slice y none (some 7) ++ "a"
def w1 (y : Str) : Str := Txt.slice y none (some 1)
def wz (y : Str) : Str := Txt.slice y none (some (-1)) ++ "z"
def near (y : Str) : List Str := [w7 y, w1 y, wz y]
/-! ### sorted(l), l of unlike texts -/
/-! ### places in the text -/
/-! ### how many of a form -/
/-! ### what the law holds a heap against -/
theorem HeapAt.lst {K : PySem.W.Frag} {C : Addr} {H : Hp} {p d : Addr} {L : List PRow} {xs : List V} {o : HO} (h : HeapAt K C H p L) (hd : H d = some (.lst xs)) : HeapAt K C (upd H d o) p L := by
  obtain ⟨dx, t, h1, h2⟩ := h
  refine ⟨dx, t, ?_, Dp.keepT (TKeep.lst hd) (flat_rows L) h2⟩
  rw [upd_ne (ne_of h1 hd (by intro z; cases z))]
  exact h1
structure MMn (P : Program) (w : World) (K : PySem.W.Frag) (mg : Str → Option Value) (base : Heap) (k : Nat) (C f : Addr) (fd : FuncData) : Prop where
  ok : FnOk P w K mg base CX0 k f fd ["self", "form", "shade"] (spManyM K C)
  m : Meth K C "many" f
  k2 : KB K fd ["self", "form", "shade"] 2 [] (fun vs _ => vs ++ [.non])
  k3 : KB K fd ["self", "form", "shade"] 3 [] (fun vs _ => vs)
  kf : KB K fd ["self", "form", "shade"] 1 ["form"] (fun vs zs => vs ++ (zs ++ [.non]))
  ks : KB K fd ["self", "form", "shade"] 2 ["shade"] (fun vs zs => vs ++ zs)
  ksf : KB K fd ["self", "form", "shade"] 1 ["shade", "form"] (fun vs zs => vs ++ zs.reverse)
end PK
/-! Heaps by ==, != and len: own methods that built-in ones call; methods that raise, within a try. -/
namespace PK
open PySem PySem.Spec PyProof.Rows L2
section
variable {prog : Program} {w : World} {A : Around} {E : Value → Shared → Prop} {s : Shared} {K : PySem.W.Frag} {x C f : Addr} {ox : Obj} {od : Option Obj}
end
section
variable {X : Cx} {pins : List (Addr × Obj)} {σ : L2.St} {H : Hp} {s : Shared} {k : Nat} {f C : Addr} {fd : FuncData} {ps : List Str} {sp : Sp}
end
theorem k_isi {X : Cx} (K : PySem.W.Frag) (hK : X.K = K := by rfl) : CallR X (.builtin "isinstance") (rIsi K) := by subst hK; exact call_isi
/-! ### two heaps -/
/-- what is told of the class beside -/
structure HIs (K : PySem.W.Frag) (C : Addr) : Prop where
  ca : PySem.W.findIn K (.ref C) "__class__" = some (some (.builtin "object.__class__"))
  cg : PySem.W.specialIn K (.builtin "object.__class__") "__get__" = some (some (.builtin "getset_descriptor.__get__"))
  ct : PySem.W.takesIn K (.builtin "object.__class__") = some true
  cm : PySem.W.mroIn K C (.type "object") = some true
theorem HeapAt.ty {K : PySem.W.Frag} {mg : Str → Option Value} {C p : Addr} {H : Hp} {L : List PRow} (h : HeapAt K C H p L) (T : HCls K mg C) (U : HIs K C) : TyX K H (.ref p) (.ref C) := by
  obtain ⟨dx, t, h1, _⟩ := h
  exact .base (.ins h1 T.cl U.ca U.cg U.ct U.cm)
/-- an own method with its class's name for it -/
structure HSp (P : Program) (w : World) (K : PySem.W.Frag) (mg : Str → Option Value) (base : Heap) (k : Nat) (C : Addr) (x : Str) (f : Addr) (fd : FuncData) (ps : List Str) (sp : Sp) : Prop where
  ok : FnOk P w K mg base CX0 k f fd ps sp
  fi : PySem.W.findIn K (.ref C) x = some (some (.ref f))
  fn : PySem.W.isFn K (.ref f) = true
  b : Binds K fd ps []
section
variable {X : Cx} {k : Nat} {C f : Addr} {fd : FuncData}
theorem HeapAt.inst {pins : List (Addr × Obj)} {σ : L2.St} {H : Hp} {s : Shared} {p : Addr} {L : List PRow} (h : HeapAt X.K C H p L) (I : Inv X pins σ H s) : ∃ ox od, PySem.W.InstAt s.heap p ox C (some od) := by
  obtain ⟨dx, t, h1, _⟩ := h
  obtain ⟨mA, J, _⟩ := ins_get I.hok h1
  obtain ⟨od, J, _⟩ := J.look
  exact ⟨_, od, J⟩
end
/-! ### a method that may raise, within a try -/
section
variable {X : Cx} {CX : CXT} {k : Nat} {f C : Addr} {fd : FuncData} {ps : List Str} {sp : Sp} {E : L2.St → XK} {m : Str} {pos apos : Pos} {e o : Expr} {es : List Expr} {ta : TE} {t : TA}
end
end PK
/-! Things of any kind: what stays, how long they are shown, what they are. -/
namespace PK
open PySem PySem.Spec PyProof.Rows L2
/-! ### what stays: tuples and lists -/
def Lk : HO → Prop
  | .tup _ => True
  | .frz _ _ => True
  | .lst _ => True
  | _ => False
def LKeep (H H' : Hp) : Prop := ∀ b u, Lk u → H b = some u → H' b = some u
theorem LKeep.refl (H : Hp) : LKeep H H := fun _ _ _ h => h
theorem LKeep.trans {H H1 H2 : Hp} (x : LKeep H H1) (y : LKeep H1 H2) : LKeep H H2 := fun b u t h => y b u t (x b u t h)
theorem LKeep.of {H H' : Hp} (x : Same H H') : LKeep H H' := fun b u _ h => x b u h
theorem LKeep.feed {H H' : Hp} {a c : Addr} (f : IsFeed H a c) (x : Ext a H H') : LKeep H H' := fun b u t h => by
  obtain ⟨cs, i, l, n, f⟩ := f
  exact x b u h (ne_of h f.d (by rintro rfl; exact t))
theorem LKeep.sqT {K : PySem.W.Frag} {H H' : Hp} {b : Addr} {xs : List V} (x : LKeep H H') (h : SqT K H b xs) : SqT K H' b xs := by
  rcases h with (h | ⟨o, h⟩) | h
  · exact Or.inl (Or.inl (x _ _ trivial h))
  · exact Or.inl (Or.inr ⟨o, x _ _ trivial h⟩)
  · exact Or.inr h
theorem LKeep.sqL {K : PySem.W.Frag} {H H' : Hp} {b : Addr} {xs : List V} (x : LKeep H H') (h : SqL K H b xs) : SqL K H' b xs := by
  rcases h with (h | ⟨o, h⟩) | h
  · exact Or.inl (Or.inl (x _ _ trivial h))
  · exact Or.inl (Or.inr ⟨o, x _ _ trivial h⟩)
  · exact Or.inr h
mutual
theorem Dp.keepL {K : PySem.W.Frag} {H H' : Hp} (x : LKeep H H') : ∀ {d : PyData} {v : V}, Dp K H v d → Dp K H' v d
  | .none, _, .non => .non
  | .bool _, _, .bl b => .bl b
  | .int _, _, .int i => .int i
  | .str _, _, .str y => .str y
  | .list _, _, .lst hs ha => .lst (x.sqL hs) (DpAll.keepL x ha)
  | .tuple _, _, .tup hs ha => .tup (x.sqT hs) (DpAll.keepL x ha)
theorem DpAll.keepL {K : PySem.W.Frag} {H H' : Hp} (x : LKeep H H') : ∀ {ds : List PyData} {vs : List V}, DpAll K H vs ds → DpAll K H' vs ds
  | [], _, .nil => .nil
  | _ :: _, _, .cons h1 h2 => .cons (Dp.keepL x h1) (DpAll.keepL x h2)
end
/-- all but the object at d -/
def mask (H : Hp) (d : Addr) : Hp := fun b => if b = d then none else H b
/-! ### what can be laid, shown -/
structure Ok (d : PyData) : Prop where
  lay : d.canLay0 = true
  sh : d.showable = true
  nd : d.hasDict = false
theorem okAll {ds : List PyData} : (∀ d ∈ ds, Ok d) ↔ (PyData.canLayAll0 ds = true ∧ PyData.showableAll ds = true ∧ PyData.hasDictAll ds = false) := by
  induction ds with
  | nil => exact ⟨fun _ => ⟨rfl, rfl, rfl⟩, fun _ d h => (nomatch h)⟩
  | cons d ds ih =>
    constructor
    · intro h
      obtain ⟨h1, h2, h3⟩ := ih.mp fun e he => h e (List.mem_cons_of_mem _ he)
      have q := h d List.mem_cons_self
      refine ⟨?_, ?_, ?_⟩
      · show (d.canLay0 && PyData.canLayAll0 ds) = true
        rw [q.lay, h1]
        rfl
      · show (d.showable && PyData.showableAll ds) = true
        rw [q.sh, h2]
        rfl
      · show (d.hasDict || PyData.hasDictAll ds) = false
        rw [q.nd, h3]
        rfl
    · rintro ⟨h1, h2, h3⟩
      have h1 : (d.canLay0 && PyData.canLayAll0 ds) = true := h1
      have h2 : (d.showable && PyData.showableAll ds) = true := h2
      have h3 : (d.hasDict || PyData.hasDictAll ds) = false := h3
      rw [Bool.and_eq_true] at h1 h2
      rw [Bool.or_eq_false_iff] at h3
      intro e he
      rcases List.mem_cons.mp he with rfl | he
      · exact ⟨h1.1, h2.1, h3.1⟩
      · exact ih.mpr ⟨h1.2, h2.2, h3.2⟩ e he
theorem Ok.tuple {ds : List PyData} (h : ∀ d ∈ ds, Ok d) : Ok (.tuple ds) := by
  obtain ⟨h1, h2, h3⟩ := okAll.mp h
  exact ⟨by simpa [PyData.canLay0] using h1, by simpa [PyData.showable] using h2, by simpa [PyData.hasDict] using h3⟩
theorem Ok.list {ds : List PyData} (h : ∀ d ∈ ds, Ok d) : Ok (.list ds) := by
  obtain ⟨h1, h2, h3⟩ := okAll.mp h
  exact ⟨by simpa [PyData.canLay0] using h1, by simpa [PyData.showable] using h2, by simpa [PyData.hasDict] using h3⟩
theorem Ok.mem {ds : List PyData} (h : Ok (.tuple ds)) : ∀ d ∈ ds, Ok d := okAll.mpr ⟨by simpa [PyData.canLay0] using h.lay, by simpa [PyData.showable] using h.sh, by simpa [PyData.hasDict] using h.nd⟩
theorem Ok.memL {ds : List PyData} (h : Ok (.list ds)) : ∀ d ∈ ds, Ok d := okAll.mpr ⟨by simpa [PyData.canLay0] using h.lay, by simpa [PyData.showable] using h.sh, by simpa [PyData.hasDict] using h.nd⟩
/-! ### a bound of the length when shown -/
mutual
def wt : PyData → Nat
  | .none => 4
  | .bool _ => 5
  | .int i => i.natAbs.log2 + 2
  | .str y => 10 * y.length + 2
  | .tuple ds => wts ds + 3
  | .list ds => wts ds + 3
  | .dict _ => 0
def wts : List PyData → Nat
  | [] => 0
  | d :: ds => wt d + 2 + wts ds
end
theorem wts_app : ∀ a b : List PyData, wts (a ++ b) = wts a + wts b
  | [], b => by rw [List.nil_append]; show _ = 0 + _; omega
  | d :: a, b => by
    show wt d + 2 + wts (a ++ b) = wt d + 2 + wts a + wts b
    rw [wts_app a b]
    omega
theorem wts_len {n : Nat} : ∀ {ds : List PyData}, wts ds ≤ 2 * n → ds.length ≤ n
  | [], _ => Nat.zero_le _
  | d :: ds, h => by
    have h : wt d + 2 + wts ds ≤ 2 * n := h
    have := wts_len (n := n - 1) (ds := ds) (by omega)
    rw [List.length_cons]
    omega
theorem cps_small {y : Str} (h : PyData.strOk y = true) : ∀ c ∈ y.cps.toList, c < 16 ^ 8 := fun c hc => by
  unfold PyData.strOk at h
  rw [Array.all_eq_true_iff_forall_mem] at h
  have := of_decide_eq_true (h c (by simpa using hc))
  omega
mutual
theorem shown_wt : ∀ d : PyData, Ok d → d.shown.length ≤ wt d
  | .none, _ => by decide +kernel
  | .bool b, _ => by cases b <;> decide +kernel
  | .int i, _ => by
    have e : (PyData.shown (.int i)) = Str.ofString (toString i) := by simp only [PyData.shown]
    rw [e, PySem.ofString_length]
    exact int_text_length_le (k := i.natAbs.log2 + 1) (by omega) (by omega)
  | .str y, h => by
    have e : (PyData.shown (.str y)) = reprText y := by simp only [PyData.shown]
    rw [e]
    exact StrLaws.reprText_len y (cps_small (by simpa [PyData.canLay0] using h.lay))
  | .tuple ds, h => by
    have e : (PyData.shown (.tuple ds)) = tupleText (PyData.shownAll ds) := by simp only [PyData.shown]
    rw [e]
    have l := tupleText_len_le (PyData.shownAll ds)
    have q := shownAll_wt ds h.mem
    show _ ≤ wts ds + 3
    omega
  | .list ds, h => by
    have e : (PyData.shown (.list ds)) = listText (PyData.shownAll ds) := by simp only [PyData.shown]
    rw [e]
    have l := listText_len_le (PyData.shownAll ds)
    have q := shownAll_wt ds h.memL
    show _ ≤ wts ds + 3
    omega
  | .dict _, h => by
    have := h.lay
    simp [PyData.canLay0] at this
theorem shownAll_wt : ∀ ds : List PyData, (∀ d ∈ ds, Ok d) → ((PyData.shownAll ds).map (·.length)).sum + 2 * (PyData.shownAll ds).length ≤ wts ds
  | [], _ => Nat.le_refl _
  | d :: ds, h => by
    have h1 := shown_wt d (h d List.mem_cons_self)
    have h2 := shownAll_wt ds fun e he => h e (List.mem_cons_of_mem _ he)
    show (d.shown.length :: ((PyData.shownAll ds).map (·.length))).sum + 2 * ((PyData.shownAll ds).length + 1) ≤ wt d + 2 + wts ds
    rw [List.sum_cons]
    omega
end
/-- a thing: how deep, how long -/
structure Tg (dp n : Nat) (d : PyData) : Prop where
  ok : Ok d
  dep : d.depth ≤ dp
  wt : wt d ≤ n
theorem Tg.sh {dp n : Nat} {d : PyData} (h : Tg dp n d) : Sh d dp n := ⟨h.ok.sh, h.ok.nd, h.dep, Nat.le_trans (shown_wt d h.ok) h.wt⟩
theorem Tg.mono {dp n dp' n' : Nat} {d : PyData} (h : Tg dp n d) (h1 : dp ≤ dp') (h2 : n ≤ n') : Tg dp' n' d := ⟨h.ok, Nat.le_trans h.dep h1, Nat.le_trans h.wt h2⟩
theorem Tg.shaped {dp n : Nat} {d : PyData} (h : Tg dp n d) (hd : dp ≤ 64) : SeqAt.shaped d = true := by
  unfold SeqAt.shaped
  rw [h.ok.lay, decide_eq_true (Nat.le_trans h.dep hd)]
  rfl
theorem depthAll_mem {d : PyData} : ∀ {ds : List PyData}, d ∈ ds → d.depth ≤ PyData.depthAll ds
  | e :: ds, h => by
    show _ ≤ max e.depth (PyData.depthAll ds)
    rcases List.mem_cons.mp h with rfl | h
    · exact Nat.le_max_left _ _
    · exact Nat.le_trans (depthAll_mem h) (Nat.le_max_right _ _)
theorem depth_tuple (ds : List PyData) : (PyData.tuple ds).depth = PyData.depthAll ds + 1 := by simp only [PyData.depth]
theorem depth_list (ds : List PyData) : (PyData.list ds).depth = PyData.depthAll ds + 1 := by simp only [PyData.depth]
theorem Tg.tuple {dp n : Nat} {ds : List PyData} (h : ∀ d ∈ ds, Ok d ∧ d.depth ≤ dp) (hn : wts ds + 3 ≤ n) : Tg (dp + 1) n (.tuple ds) := by
  refine ⟨Ok.tuple fun d hd => (h d hd).1, ?_, hn⟩
  rw [depth_tuple]
  exact Nat.succ_le_succ (depthAll_le fun d hd => (h d hd).2)
theorem Tg.list {dp n : Nat} {ds : List PyData} (h : ∀ d ∈ ds, Ok d ∧ d.depth ≤ dp) (hn : wts ds + 3 ≤ n) : Tg (dp + 1) n (.list ds) := by
  refine ⟨Ok.list fun d hd => (h d hd).1, ?_, hn⟩
  rw [depth_list]
  exact Nat.succ_le_succ (depthAll_le fun d hd => (h d hd).2)
theorem Tg.each {dp n : Nat} {ds : List PyData} (h : Tg (dp + 1) n (.tuple ds)) : ∀ d ∈ ds, Ok d ∧ d.depth ≤ dp := fun d hd => by
  refine ⟨h.ok.mem d hd, ?_⟩
  have h1 := h.dep
  rw [depth_tuple] at h1
  have := depthAll_mem hd
  omega
theorem Ok.non : Ok .none := ⟨rfl, rfl, rfl⟩
theorem Ok.bl (b : Bool) : Ok (.bool b) := ⟨rfl, rfl, rfl⟩
theorem Ok.int {i : Int} (h : i.natAbs.log2 < 1920) : Ok (.int i) := ⟨rfl, decide_eq_true h, rfl⟩
theorem Ok.str {y : Str} (h : PyData.strOk y = true) : Ok (.str y) := ⟨h, rfl, rfl⟩
/-! ### the kinds -/
def tyD : PyData → String
  | .none => "NoneType"
  | .bool _ => "bool"
  | .int _ => "int"
  | .str _ => "str"
  | .tuple _ => "tuple"
  | .list _ => "list"
  | .dict _ => "dict"
theorem Dp.ty {K : PySem.W.Frag} {H : Hp} {v : V} {d : PyData} (h : Dp K H v d) : TyX K H v (.type (tyD d)) := by
  cases h with
  | non => exact .base .non
  | bl b => exact .base (.bl b)
  | int i => exact .base (.int i)
  | str y => exact .base (.str y)
  | lst hs _ =>
    rcases hs with (h | ⟨o, h⟩) | ⟨o, its, n, hk, hc, _⟩
    · exact .base (.lst h)
    · exact .base (.frz h)
    · exact .kList hk hc
  | tup hs _ =>
    rcases hs with (h | ⟨o, h⟩) | ⟨o, its, n, hk, hc, _⟩
    · exact .base (.tup h)
    · exact .fTuple h
    · exact .kTuple hk hc
theorem kitB_tab : ∀ a ∈ ["NoneType", "bool", "int", "str", "tuple", "list"], ∀ b ∈ ["int", "bool", "str", "tuple", "list"], kitB a b = some (a == b || (a == "bool" && b == "int")) := by decide +kernel
theorem DpAll.three {K : PySem.W.Frag} {H : Hp} {xs : List V} {ds : List PyData} (h : DpAll K H xs ds) (hl : xs.length = 3) : ∃ d0 d1 d2 x0 x1 x2, ds = [d0, d1, d2] ∧ xs = [x0, x1, x2] ∧ Dp K H x0 d0 ∧ Dp K H x1 d1 ∧ Dp K H x2 d2 := by
  cases h with
  | nil => cases hl
  | cons h0 h =>
    cases h with
    | nil => cases hl
    | cons h1 h =>
      cases h with
      | nil => cases hl
      | cons h2 h =>
        cases h with
        | nil => exact ⟨_, _, _, _, _, _, rfl, rfl, h0, h1, h2⟩
        | cons _ _ => simp at hl
/-! ### names that are the built-in ones -/
def NoB (mg : Str → Option Value) (l : List Str) : Prop := ∀ x ∈ l, mg x = none
abbrev BL : List Str := ["isinstance", "int", "bool", "str", "tuple", "list", "len", "range", "repr", "all", "ord", "sorted", "set", "sum", "min", "zip", "max", "enumerate", "dict"]
/-- the program's own letters -/
structure Abc (mg : Str → Option Value) : Prop where
  le : ∃ u, mg "LETTERS" = some u ∧ RelV (.str abc) u
  lo : ∃ u, mg "LONGEST_WORD" = some u ∧ RelV (.int 8) u
/-! ### looks -/
end PK
/-! All but some lists that grow. -/
namespace PK
open PySem PySem.Spec PyProof.Rows L2
def ms (S : List Addr) (H : Hp) : Hp := fun b => if b ∈ S then none else H b
section
variable {K : PySem.W.Frag} {S : List Addr} {H H' : Hp} {a c o p D : Addr} {x u : HO}
theorem ms_at (h : H p = some u) (n : p ∉ S) : ms S H p = some u := by
  unfold ms
  rw [if_neg n]
  exact h
theorem ms_some (h : ms S H p = some u) : H p = some u ∧ p ∉ S := by
  unfold ms at h
  split at h
  · cases h
  · rename_i z
    exact ⟨h, z⟩
theorem ms_sub : Same (ms S H) H := fun b o h => (ms_some h).1
theorem ms_upd (h : o ∈ S) : ms S (upd H o x) = ms S H := by
  funext b
  unfold ms
  split
  · rfl
  · rename_i z
    exact upd_ne (fun e => z (by rw [e]; exact h))
end
theorem Dp.full {K : PySem.W.Frag} {S : List Addr} {H : Hp} {v : V} {d : PyData} (h : Dp K (ms S H) v d) : Dp K H v d := Dp.same ms_sub h
/-- these are lists -/
def Ls (S : List Addr) (H : Hp) : Prop := ∀ q ∈ S, ∃ l, H q = some (.lst l)
theorem Ls.keep {S : List Addr} {H H' : Hp} (h : Ls S H) (k : LKeep H H') : Ls S H' := fun q hq => by
  obtain ⟨l, e⟩ := h q hq
  exact ⟨l, k _ _ trivial e⟩
theorem Ls.same {S : List Addr} {H H' : Hp} (h : Ls S H) (k : Same H H') : Ls S H' := h.keep (LKeep.of k)
theorem Ls.out {S : List Addr} {H : Hp} {p : Addr} (h : Ls S H) (n : H p = none) : p ∉ S := fun z => by
  obtain ⟨l, e⟩ := h p z
  rw [n] at e
  cases e
theorem Ls.cons {S : List Addr} {H : Hp} {p : Addr} {l : List V} (e : H p = some (.lst l)) (h : Ls S H) : Ls (p :: S) H := fun q hq => by
  rcases List.mem_cons.mp hq with rfl | z
  · exact ⟨l, e⟩
  · exact h q z
theorem Ls.set {S : List Addr} {H : Hp} {t : Addr} {l : List V} (h : Ls S H) : Ls S (upd H t (.lst l)) := fun q hq => by
  by_cases z : q = t
  · rw [z]
    exact ⟨l, upd_same⟩
  · rw [upd_ne z]
    exact h q hq
theorem Ls.nil (H : Hp) : Ls [] H := fun _ h => (nomatch h)
end PK
/-! Things bent at some place. -/
namespace PK
open PySem PySem.Spec PyProof.Rows L2
/-! ### how great the numbers are -/
mutual
def mx : PyData → Nat
  | .int i => i.natAbs.log2
  | .tuple ds => mxs ds
  | .list ds => mxs ds
  | _ => 0
def mxs : List PyData → Nat
  | [] => 0
  | d :: ds => max (mx d) (mxs ds)
end
theorem mxs_le {m : Nat} : ∀ {ds : List PyData}, mxs ds ≤ m ↔ ∀ d ∈ ds, mx d ≤ m
  | [] => ⟨fun _ _ h => (nomatch h), fun _ => Nat.zero_le _⟩
  | d :: ds => by
    show max (mx d) (mxs ds) ≤ m ↔ _
    rw [Nat.max_le, mxs_le (ds := ds)]
    constructor
    · rintro ⟨h1, h2⟩ e he
      rcases List.mem_cons.mp he with rfl | he
      · exact h1
      · exact h2 e he
    · exact fun h => ⟨h d List.mem_cons_self, fun e he => h e (List.mem_cons_of_mem _ he)⟩
/-- what is known of a thing: texts, numbers, depth -/
structure Bd (m dp : Nat) (d : PyData) : Prop where
  lay : d.canLay0 = true
  mx : mx d ≤ m
  dep : d.depth ≤ dp
theorem canLay_all {ds : List PyData} : PyData.canLayAll0 ds = true ↔ ∀ d ∈ ds, d.canLay0 = true := by
  induction ds with
  | nil => exact ⟨fun _ _ h => (nomatch h), fun _ => rfl⟩
  | cons d ds ih =>
    show (d.canLay0 && PyData.canLayAll0 ds) = true ↔ _
    rw [Bool.and_eq_true, ih]
    constructor
    · rintro ⟨h1, h2⟩ e he
      rcases List.mem_cons.mp he with rfl | he
      · exact h1
      · exact h2 e he
    · exact fun h => ⟨h d List.mem_cons_self, fun e he => h e (List.mem_cons_of_mem _ he)⟩
mutual
theorem ok_of : ∀ {d : PyData} {m : Nat}, d.canLay0 = true → mx d ≤ m → m < 1920 → Ok d
  | .none, _, _, _, _ => Ok.non
  | .bool b, _, _, _, _ => Ok.bl b
  | .int i, _, _, h, hm => Ok.int (Nat.lt_of_le_of_lt h hm)
  | .str y, _, h, _, _ => Ok.str h
  | .tuple ds, _, h, h2, hm => Ok.tuple (oks_of (by simpa [PyData.canLay0] using h) h2 hm)
  | .list ds, _, h, h2, hm => Ok.list (oks_of (by simpa [PyData.canLay0] using h) h2 hm)
  | .dict _, _, h, _, _ => by simp [PyData.canLay0] at h
theorem oks_of : ∀ {ds : List PyData} {m : Nat}, PyData.canLayAll0 ds = true → mxs ds ≤ m → m < 1920 → ∀ d ∈ ds, Ok d
  | [], _, _, _, _, _, h => (nomatch h)
  | e :: ds, m, h, h2, hm, d, hd => by
    have h : (e.canLay0 && PyData.canLayAll0 ds) = true := h
    have h2 : max (mx e) (mxs ds) ≤ m := h2
    rw [Bool.and_eq_true] at h
    rw [Nat.max_le] at h2
    rcases List.mem_cons.mp hd with z | z
    · rw [z]
      exact ok_of h.1 h2.1 hm
    · exact oks_of h.2 h2.2 hm d z
end
theorem Bd.ok {m dp : Nat} {d : PyData} (h : Bd m dp d) (hm : m < 1920) : Ok d := ok_of h.lay h.mx hm
theorem Bd.mono {m dp m' dp' : Nat} {d : PyData} (h : Bd m dp d) (h1 : m ≤ m') (h2 : dp ≤ dp') : Bd m' dp' d := ⟨h.lay, Nat.le_trans h.mx h1, Nat.le_trans h.dep h2⟩
theorem Bd.tuple {m dp : Nat} {ds : List PyData} (h : ∀ d ∈ ds, Bd m dp d) : Bd m (dp + 1) (.tuple ds) := by
  refine ⟨?_, mxs_le.mpr fun d hd => (h d hd).mx, ?_⟩
  · have := canLay_all.mpr fun d hd => (h d hd).lay
    simpa [PyData.canLay0] using this
  · rw [depth_tuple]
    exact Nat.succ_le_succ (depthAll_le fun d hd => (h d hd).dep)
theorem Bd.list {m dp : Nat} {ds : List PyData} (h : ∀ d ∈ ds, Bd m dp d) : Bd m (dp + 1) (.list ds) := by
  refine ⟨?_, mxs_le.mpr fun d hd => (h d hd).mx, ?_⟩
  · have := canLay_all.mpr fun d hd => (h d hd).lay
    simpa [PyData.canLay0] using this
  · rw [depth_list]
    exact Nat.succ_le_succ (depthAll_le fun d hd => (h d hd).dep)
theorem Bd.mem {m dp : Nat} {ds : List PyData} (h : Bd m (dp + 1) (.tuple ds)) : ∀ d ∈ ds, Bd m dp d := fun d hd => by
  refine ⟨canLay_all.mp (by simpa [PyData.canLay0] using h.lay) d hd, mxs_le.mp h.mx d hd, ?_⟩
  have h1 := h.dep
  rw [depth_tuple] at h1
  have := depthAll_mem hd
  omega
theorem Bd.non {m dp : Nat} : Bd m dp .none := ⟨rfl, Nat.zero_le _, Nat.zero_le _⟩
theorem Bd.bl {m dp : Nat} (b : Bool) : Bd m dp (.bool b) := ⟨rfl, Nat.zero_le _, Nat.zero_le _⟩
theorem Bd.int {m dp : Nat} {i : Int} (h : i.natAbs.log2 ≤ m) : Bd m dp (.int i) := ⟨rfl, h, Nat.zero_le _⟩
theorem Bd.str {m dp : Nat} {y : Str} (h : PyData.strOk y = true) : Bd m dp (.str y) := ⟨h, Nat.zero_le _, Nat.zero_le _⟩
/-! ### slices of data -/
theorem DpAll.drop {K : PySem.W.Frag} {H : Hp} : ∀ (n : Nat) {vs : List V} {ds : List PyData}, DpAll K H vs ds → DpAll K H (vs.drop n) (ds.drop n)
  | 0, _, _, h => h
  | _ + 1, _, _, .nil => .nil
  | n + 1, _, _, .cons _ h2 => DpAll.drop n h2
/-! ### sums with a truth -/
def asI : V → Option Int
  | .int i => some i
  | .bl b => some (b2i b)
  | _ => none
section
variable {X : Cx}
theorem op_addW : OpR X (binaryOp .Add) (fun x y H Q => ∃ i j, asI x = some i ∧ y = .int j ∧ Q (.int (i + j)) H) := by
  intro pins s σ H x y v u Q I rx ry h
  obtain ⟨i, j, hx, rfl, q⟩ := h
  obtain ⟨t, rfl⟩ := ry
  cases x with
  | int n =>
    cases hx
    exact op_add pins s σ H (.int i) (.int j) v _ Q I rx ⟨t, rfl⟩ ⟨_, _, rfl, rfl, q⟩
  | bl b =>
    cases hx
    cases rx
    exact PySem.IntBool.add_bool_int ⟨.int _, H, I.tok _, ⟨_, rfl⟩, q⟩
  | _ => cases hx
theorem op_subW : OpR X (binaryOp .Sub) (fun x y H Q => ∃ i j, asI x = some i ∧ y = .int j ∧ Q (.int (i - j)) H) := by
  intro pins s σ H x y v u Q I rx ry h
  obtain ⟨i, j, hx, rfl, q⟩ := h
  obtain ⟨t, rfl⟩ := ry
  cases x with
  | int n =>
    cases hx
    exact op_sub pins s σ H (.int i) (.int j) v _ Q I rx ⟨t, rfl⟩ ⟨_, _, rfl, rfl, q⟩
  | bl b =>
    cases hx
    cases rx
    exact PySem.IntBool.sub_bool_int ⟨.int _, H, I.tok _, ⟨_, rfl⟩, q⟩
  | _ => cases hx
end
end PK
namespace PK
open PySem PySem.Spec PyProof.Rows L2
end PK
namespace PK
open PySem PySem.Spec PyProof.Rows L2
end PK
namespace PK
open PySem PySem.Spec PyProof.Rows L2
/-! ### slices and sums of tuples, wherever the answer lies -/
def rCatB (K : PySem.W.Frag) : R2 := fun x y H Q => ∃ a b xs ys, x = .ref a ∧ y = .ref b ∧ SqT K H a xs ∧ SqT K H b ys ∧ xs.length + ys.length ≤ sizeLine ∧ ∀ c H', Same H H' → SqT K H' c (xs ++ ys) → Q (.ref c) H'
theorem ko_catB {X : Cx} (K : PySem.W.Frag) (hK : X.K = K := by rfl) : OpR X (binaryOp .Add) (rCatB K) := by
  intro pins s σ H x y v u Q I rx ry h
  obtain ⟨a, b, xs, ys, e1, e2, ha, hb, hz, q⟩ := h
  refine ko_catA K hK pins s σ H x y v u Q I rx ry ⟨a, b, xs, ys, e1, e2, ha, hb, hz, fun z => ?_, fun _ z => ?_, fun _ _ c nc => q c _ (same_new (Same.refl H) nc) (SqT.of upd_same)⟩
  · subst z
    exact q b H (Same.refl H) hb
  · subst z
    rw [List.append_nil] at q
    exact q a H (Same.refl H) ha
end PK
namespace PK
open PySem PySem.Spec PyProof.Rows L2
end PK
/-! Texts of drawn signs. -/
namespace PK
open PySem PySem.Spec PyProof.Rows L2
end PK
namespace PK
open PySem PySem.Spec PyProof.Rows L2
end PK
/-! Things that are kept in lists that grow: all but these lists. -/
namespace PK
open PySem PySem.Spec PyProof.Rows L2
end PK
/-! Shades, wants and ways: what they are. -/
namespace PK
open PySem PySem.Spec PyProof.Rows L2
end PK
/-! set(t) of texts. -/
namespace PK
open PySem PySem.Spec PyProof.Rows L2
section
variable {P : Program} {w : World} {A : Around} {E : Value → Shared → Prop} {s : Shared}
abbrev newSet (w : World) : Obj := { cls := .type "set", dict := none, data := .set #[] 0 (.fresh 0 0 (!w.params.followText "set-order")) }
theorem SetTx.at {h h' : Heap} {a : Addr} {l : List Str} (R : SetTx P w h a l) (k : ∀ o, h.get? a = some o → h'.get? a = some o) : SetTx P w h' a l := by
  obtain ⟨D, hD, r⟩ := R
  exact ⟨D, k _ hD, r⟩
/-- what stands at l: a tuple or a list of these values -/
def SeqOf (T : String) (h : Heap) (l : Addr) (its : Array Value) : Prop := ∃ dd n sl, h.get? l = some { cls := .type T, dict := dd, data := .seq its n, slots := sl }
end
section
variable {X : Cx}
end
end PK
/-! Shades in order: told by neighbours, or by sorting the set. -/
namespace PK
open PySem PySem.Spec PyProof.Rows L2
end PK
namespace PK
open PySem PySem.Spec PyProof.Rows L2
end PK
/-! Things by value: a def's body as a computation over plain things, apart from the memory. -/
namespace LP
open PySem PySem.Spec PyProof.Rows L2 PK
/-! ### plain things -/
inductive D where
  | non
  | bl (b : Bool)
  | int (i : Int)
  | str (s : Str)
  | tup (l : List D)
  | lst (l : List D)
  | dct (ks vs : List D)
  | set (l : List Str)
  | txt (s : Str)
  | obj (c : Nat) (l : List D)
  | tok (n : Nat)
deriving Inhabited
/-- what may be raised: which class, its fields -/
structure Ex where
  c : Nat
  l : List D
/-! ### computations: what is wanted of the answer, of what is raised -/
structure W (α : Type) where
  wp : (α → Prop) → (Ex → Prop) → Prop
  mono : ∀ {Q Q' : α → Prop} {E E' : Ex → Prop}, (∀ a, Q a → Q' a) → (∀ e, E e → E' e) → wp Q E → wp Q' E'
namespace W
variable {α β γ : Type}
def ret (a : α) : W α := ⟨fun Q _ => Q a, fun h _ q => h _ q⟩
def bind (m : W α) (f : α → W β) : W β := ⟨fun Q E => m.wp (fun a => (f a).wp Q E) E, fun h1 h2 q => m.mono (fun a => (f a).mono h1 h2) h2 q⟩
def want (p : Prop) : W Unit := ⟨fun Q _ => p ∧ Q (), fun h _ q => ⟨q.1, h _ q.2⟩⟩
def fail : W α := ⟨fun _ _ => False, fun _ _ q => q⟩
def raise (e : Ex) : W α := ⟨fun _ E => E e, fun _ h q => h _ q⟩
def any (P : α → Prop) : W α := ⟨fun Q _ => ∀ a, P a → Q a, fun h _ q a p => h _ (q a p)⟩
/-- nothing is raised -/
def calm (m : W α) : W α := ⟨fun Q _ => m.wp Q fun _ => False, fun h _ q => m.mono h (fun _ z => z) q⟩
def ite (b : Bool) (x y : W α) : W α := match b with | true => x | false => y
instance : Monad W where
  pure := ret
  bind := bind
theorem ret_wp {a : α} {Q : α → Prop} {E : Ex → Prop} : (ret a).wp Q E ↔ Q a := Iff.rfl
theorem bind_wp {m : W α} {f : α → W β} {Q : β → Prop} {E : Ex → Prop} : (bind m f).wp Q E ↔ m.wp (fun a => (f a).wp Q E) E := Iff.rfl
theorem want_wp {p : Prop} {Q : Unit → Prop} {E : Ex → Prop} : (want p).wp Q E ↔ p ∧ Q () := Iff.rfl
theorem any_wp {P : α → Prop} {Q : α → Prop} {E : Ex → Prop} : (any P).wp Q E ↔ ∀ a, P a → Q a := Iff.rfl
@[ext] theorem ext {a b : W α} (h : a.wp = b.wp) : a = b := by
  cases a
  cases b
  cases h
  rfl
theorem ret_bind {a : α} {f : α → W β} : bind (ret a) f = f a := rfl
end W
/-! ### where one stands -/
/-- what is not a tuple: it may change -/
def Mt : HO → Prop
  | .tup _ => False
  | .frz _ (.tup _) => False
  | _ => True
/-- the program, its classes, the kind of feed -/
structure Sig where
  P : Program
  w : World
  K : PySem.W.Frag
  cl : Nat → Option Addr
  fl : Nat → List Str
  fk : Hp → Addr → Addr → Prop
  fks : ∀ H H' a c, fk H a c → H' a = H a → H' c = H c → fk H' a c
  fkm : ∀ H a c, fk H a c → (∃ o, H a = some o ∧ Mt o) ∧ ∃ o, H c = some o ∧ Mt o
/-- what stands beside: nothing; the feed, which may change; things of a store, which don't -/
inductive Fd where
  | none
  | some (p : Addr × Addr)
  | al (l : List Addr)
/-- .., and the feed: what may change beside -/
structure Ctx where
  Γ : Sig
  fd : Fd
namespace Ctx
abbrev P (Ξ : Ctx) : Program := Ξ.Γ.P
abbrev w (Ξ : Ctx) : World := Ξ.Γ.w
abbrev K (Ξ : Ctx) : PySem.W.Frag := Ξ.Γ.K
abbrev cl (Ξ : Ctx) : Nat → Option Addr := Ξ.Γ.cl
abbrev fl (Ξ : Ctx) : Nat → List Str := Ξ.Γ.fl
def ff (Ξ : Ctx) : List Addr := match Ξ.fd with
  | .none => []
  | .some (a, c) => [a, c]
  | .al _ => []
def FI (Ξ : Ctx) (H : Hp) : Prop := match Ξ.fd with
  | .none => True
  | .some (a, c) => Ξ.Γ.fk H a c
  | .al _ => True
def tk (Ξ : Ctx) (n : Nat) : Option V := match Ξ.fd with
  | .none => none
  | .some (a, _) => if n = 0 then some (.ref a) else none
  | .al l => match n with
    | 0 => none
    | n + 1 => l[n]?.map V.ref
theorem tkr (Ξ : Ctx) (n : Nat) (v : V) (h : Ξ.tk n = some v) : ∃ a, v = .ref a := by
  unfold tk at h
  split at h
  · cases h
  · rename_i a c e
    split at h
    · cases h
      exact ⟨a, rfl⟩
    · cases h
  · split at h
    · cases h
    · obtain ⟨a, _, rfl⟩ := Option.map_eq_some_iff.mp h
      exact ⟨a, rfl⟩
theorem fst (Ξ : Ctx) (H H' : Hp) (h : ∀ b ∈ Ξ.ff, H' b = H b) (f : Ξ.FI H) : Ξ.FI H' := by
  unfold FI ff at *
  split at f
  · rename_i e
    trivial
  · rename_i a c e
    rw [e] at h
    exact Ξ.Γ.fks H H' a c f (h a List.mem_cons_self) (h c (List.mem_cons_of_mem _ List.mem_cons_self))
  · trivial
theorem fex (Ξ : Ctx) (H : Hp) (f : Ξ.FI H) : ∀ b ∈ Ξ.ff, ∃ o, H b = some o ∧ Mt o := by
  unfold FI at f
  unfold ff
  split at f
  · exact fun b hb => (nomatch hb)
  · rename_i a c e
    intro b hb
    rcases List.mem_cons.mp hb with rfl | hb
    · exact (Ξ.Γ.fkm H _ _ f).1
    · rw [List.mem_singleton.mp hb]
      exact (Ξ.Γ.fkm H _ _ f).2
  · exact fun b hb => (nomatch hb)
end Ctx
mutual
inductive Rp (Ξ : Ctx) (H : Hp) : V → D → Prop
  | non : Rp Ξ H .non .non
  | bl (b : Bool) : Rp Ξ H (.bl b) (.bl b)
  | int (i : Int) : Rp Ξ H (.int i) (.int i)
  | str (y : Str) : PyData.strOk y = true → Rp Ξ H (.str y) (.str y)
  | tup {a : Addr} {xs : List V} {ds : List D} : SqT Ξ.K H a xs → RpAll Ξ H xs ds → Rp Ξ H (.ref a) (.tup ds)
  | lst {a : Addr} {xs : List V} {ds : List D} : H a = some (.lst xs) → RpAll Ξ H xs ds → Rp Ξ H (.ref a) (.lst ds)
  | obj {a C dx : Addr} {c : Nat} {xs : List V} {ds : List D} : H a = some (.ins C dx ((Ξ.fl c).zip xs)) → Ξ.cl c = some C → RpAll Ξ H xs ds → Rp Ξ H (.ref a) (.obj c ds)
  | tok {v : V} {n : Nat} : Ξ.tk n = some v → Rp Ξ H v (.tok n)
  | set {a : Addr} {l : List Str} : H a = some (SetTO Ξ.P Ξ.w a l) → l.Nodup → (∀ y ∈ l, PyData.strOk y = true) → Rp Ξ H (.ref a) (.set l)
  | txt (s : Str) : Rp Ξ H (.str s) (.txt s)
  | dct {a : Addr} {ks vs : List D} {ps : List (Str × Str)} : H a = some (.dK (ps.map fun p => (Sum.inr p.1, V.str p.2))) → (∀ p ∈ ps, PyData.strOk p.1 = true ∧ PyData.strOk p.2 = true) → ks = ps.map (fun p => D.str p.1) → vs = ps.map (fun p => D.str p.2) → Rp Ξ H (.ref a) (.dct ks vs)
inductive RpAll (Ξ : Ctx) (H : Hp) : List V → List D → Prop
  | nil : RpAll Ξ H [] []
  | cons {v : V} {vs : List V} {d : D} {ds : List D} : Rp Ξ H v d → RpAll Ξ H vs ds → RpAll Ξ H (v :: vs) (d :: ds)
end
theorem sqT_same {K : PySem.W.Frag} {H H' : Hp} {b : Addr} {xs : List V} (x : Same H H') (h : SqT K H b xs) : SqT K H' b xs := (LKeep.of x).sqT h
section
variable {Ξ : Ctx} {H H' : Hp}
mutual
theorem Rp.same (x : Same H H') : ∀ {d : D} {v : V}, Rp Ξ H v d → Rp Ξ H' v d
  | .non, _, .non => .non
  | .bl _, _, .bl b => .bl b
  | .int _, _, .int i => .int i
  | .str _, _, .str y h => .str y h
  | .tup _, _, .tup hs ha => .tup (sqT_same x hs) (RpAll.same x ha)
  | .lst _, _, .lst hs ha => .lst (x _ _ hs) (RpAll.same x ha)
  | .obj _ _, _, .obj h1 h2 ha => .obj (x _ _ h1) h2 (RpAll.same x ha)
  | .tok _, _, .tok h => .tok h
  | .set _, _, .set h n o => .set (x _ _ h) n o
  | .txt _, _, .txt s => .txt s
  | .dct _ _, _, .dct h o e1 e2 => .dct (x _ _ h) o e1 e2
theorem RpAll.same (x : Same H H') : ∀ {ds : List D} {vs : List V}, RpAll Ξ H vs ds → RpAll Ξ H' vs ds
  | [], _, .nil => .nil
  | _ :: _, _, .cons h1 h2 => .cons (Rp.same x h1) (RpAll.same x h2)
end
theorem RpAll.len : ∀ {vs : List V} {ds : List D}, RpAll Ξ H vs ds → vs.length = ds.length
  | _, _, .nil => rfl
  | _, _, .cons _ h => congrArg (· + 1) (RpAll.len h)
theorem RpAll.app : ∀ {vs us : List V} {ds es : List D}, RpAll Ξ H vs ds → RpAll Ξ H us es → RpAll Ξ H (vs ++ us) (ds ++ es)
  | _, _, _, _, .nil, h => h
  | _, _, _, _, .cons h1 h2, h => .cons h1 (RpAll.app h2 h)
theorem RpAll.snoc {v : V} {d : D} {vs : List V} {ds : List D} (h : Rp Ξ H v d) (h2 : RpAll Ξ H vs ds) : RpAll Ξ H (vs ++ [v]) (ds ++ [d]) := h2.app (.cons h .nil)
theorem RpAll.get : ∀ {vs : List V} {ds : List D} {i : Nat} {d : D}, RpAll Ξ H vs ds → ds[i]? = some d → ∃ v, vs[i]? = some v ∧ Rp Ξ H v d
  | _, _, _, _, .nil, h => by simp at h
  | _, _, 0, _, .cons h1 _, h => ⟨_, rfl, by simp at h; subst h; exact h1⟩
  | _, _, i + 1, _, .cons _ h2, h => RpAll.get (i := i) h2 (by simpa using h)
theorem RpAll.getV : ∀ {vs : List V} {ds : List D} {i : Nat} {v : V}, RpAll Ξ H vs ds → vs[i]? = some v → ∃ d, ds[i]? = some d ∧ Rp Ξ H v d
  | _, _, _, _, .nil, h => by simp at h
  | _, _, 0, _, .cons h1 _, h => ⟨_, rfl, by simp at h; subst h; exact h1⟩
  | _, _, i + 1, _, .cons _ h2, h => RpAll.getV (i := i) h2 (by simpa using h)
theorem RpAll.take : ∀ (n : Nat) {vs : List V} {ds : List D}, RpAll Ξ H vs ds → RpAll Ξ H (vs.take n) (ds.take n)
  | 0, _, _, _ => .nil
  | _ + 1, _, _, .nil => .nil
  | n + 1, _, _, .cons h1 h2 => .cons h1 (RpAll.take n h2)
theorem RpAll.drop : ∀ (n : Nat) {vs : List V} {ds : List D}, RpAll Ξ H vs ds → RpAll Ξ H (vs.drop n) (ds.drop n)
  | 0, _, _, h => h
  | _ + 1, _, _, .nil => .nil
  | n + 1, _, _, .cons _ h2 => RpAll.drop n h2
theorem RpAll.rev : ∀ {vs : List V} {ds : List D}, RpAll Ξ H vs ds → RpAll Ξ H vs.reverse ds.reverse
  | _, _, .nil => .nil
  | _, _, .cons h1 h2 => by
    rw [List.reverse_cons, List.reverse_cons]
    exact (RpAll.rev h2).app (.cons h1 .nil)
theorem RpAll.set {v : V} {d : D} (h : Rp Ξ H v d) : ∀ (n : Nat) {vs : List V} {ds : List D}, RpAll Ξ H vs ds → RpAll Ξ H (vs.set n v) (ds.set n d)
  | _, _, _, .nil => .nil
  | 0, _, _, .cons _ h2 => .cons h h2
  | n + 1, _, _, .cons h1 h2 => .cons h1 (RpAll.set h n h2)
theorem RpAll.rep {v : V} {d : D} (h : Rp Ξ H v d) : ∀ n : Nat, RpAll Ξ H (List.replicate n v) (List.replicate n d)
  | 0 => .nil
  | n + 1 => .cons h (RpAll.rep h n)
theorem RpAll.reps {vs : List V} {ds : List D} (h : RpAll Ξ H vs ds) : ∀ n : Nat, RpAll Ξ H (List.replicate n vs).flatten (List.replicate n ds).flatten
  | 0 => .nil
  | n + 1 => h.app (RpAll.reps h n)
theorem RpAll.ints : ∀ ys : List Int, RpAll Ξ H (ys.map V.int) (ys.map D.int)
  | [] => .nil
  | y :: ys => .cons (.int y) (RpAll.ints ys)
theorem RpAll.of_ints : ∀ {ys : List Int} {vs : List V}, RpAll Ξ H vs (ys.map D.int) → vs = ys.map V.int
  | [], _, .nil => rfl
  | _ :: _, _, .cons h1 h2 => by
    cases h1
    rw [RpAll.of_ints h2]
    rfl
theorem Rp.tupE {v : V} {ds : List D} (h : Rp Ξ H v (.tup ds)) : ∃ b xs, v = .ref b ∧ SqT Ξ.K H b xs ∧ RpAll Ξ H xs ds := by
  cases h with
  | tup hs ha => exact ⟨_, _, rfl, hs, ha⟩
theorem Rp.lstE {v : V} {ds : List D} (h : Rp Ξ H v (.lst ds)) : ∃ b xs, v = .ref b ∧ H b = some (.lst xs) ∧ RpAll Ξ H xs ds := by
  cases h with
  | lst hs ha => exact ⟨_, _, rfl, hs, ha⟩
end
/-! ### data -/
mutual
def D.toP : D → PyData
  | .non => .none
  | .bl b => .bool b
  | .int i => .int i
  | .str y => .str y
  | .tup l => .tuple (D.toPs l)
  | .lst l => .list (D.toPs l)
  | .dct _ _ => .none
  | .set _ => .none
  | .txt _ => .none
  | .obj _ _ => .none
  | .tok _ => .none
def D.toPs : List D → List PyData
  | [] => []
  | d :: l => d.toP :: D.toPs l
end
mutual
/-- no objects in it -/
def D.plain : D → Bool
  | .non => true
  | .bl _ => true
  | .int _ => true
  | .str _ => true
  | .tup l => D.plains l
  | .lst l => D.plains l
  | .dct _ _ => false
  | .set _ => false
  | .txt _ => false
  | .obj _ _ => false
  | .tok _ => false
def D.plains : List D → Bool
  | [] => true
  | d :: l => d.plain && D.plains l
end
theorem toPs_map : ∀ l : List D, D.toPs l = l.map D.toP
  | [] => rfl
  | d :: l => by
    show d.toP :: D.toPs l = _
    rw [toPs_map l]
    rfl
theorem plains_all : ∀ l : List D, D.plains l = l.all D.plain
  | [] => rfl
  | d :: l => by
    show (d.plain && D.plains l) = _
    rw [plains_all l]
    rfl
section
variable {Ξ : Ctx} {H : Hp}
mutual
theorem Rp.dp : ∀ {d : D} {v : V}, d.plain = true → Rp Ξ H v d → Dp Ξ.K H v d.toP
  | .non, _, _, .non => .non
  | .bl _, _, _, .bl b => .bl b
  | .int _, _, _, .int i => .int i
  | .str _, _, _, .str y _ => .str y
  | .tup l, _, h, .tup hs ha => .tup hs (RpAll.dp h ha)
  | .lst l, _, h, .lst hs ha => .lst (SqL.of hs) (RpAll.dp h ha)
  | .dct _ _, _, h, _ => by cases h
  | .set _, _, h, _ => by cases h
  | .txt _, _, h, _ => by cases h
  | .obj _ _, _, h, _ => by cases h
  | .tok _, _, h, _ => by cases h
theorem RpAll.dp : ∀ {ds : List D} {vs : List V}, D.plains ds = true → RpAll Ξ H vs ds → DpAll Ξ.K H vs (D.toPs ds)
  | [], _, _, .nil => .nil
  | d :: ds, _, h, .cons h1 h2 => by
    have h : (d.plain && D.plains ds) = true := h
    rw [Bool.and_eq_true] at h
    exact .cons (Rp.dp h.1 h1) (RpAll.dp h.2 h2)
end
mutual
theorem Rp.lay : ∀ {d : D} {v : V}, d.plain = true → Rp Ξ H v d → d.toP.canLay0 = true
  | .non, _, _, .non => rfl
  | .bl _, _, _, .bl b => rfl
  | .int _, _, _, .int i => rfl
  | .str _, _, _, .str y h => h
  | .tup l, _, h, .tup hs ha => by
    have := RpAll.lay h ha
    simpa [D.toP, PyData.canLay0] using this
  | .lst l, _, h, .lst hs ha => by
    have := RpAll.lay h ha
    simpa [D.toP, PyData.canLay0] using this
  | .dct _ _, _, h, _ => by cases h
  | .set _, _, h, _ => by cases h
  | .txt _, _, h, _ => by cases h
  | .obj _ _, _, h, _ => by cases h
  | .tok _, _, h, _ => by cases h
theorem RpAll.lay : ∀ {ds : List D} {vs : List V}, D.plains ds = true → RpAll Ξ H vs ds → PyData.canLayAll0 (D.toPs ds) = true
  | [], _, _, .nil => rfl
  | d :: ds, _, h, .cons h1 h2 => by
    have h : (d.plain && D.plains ds) = true := h
    rw [Bool.and_eq_true] at h
    show (d.toP.canLay0 && PyData.canLayAll0 (D.toPs ds)) = true
    rw [Rp.lay h.1 h1, RpAll.lay h.2 h2]
    rfl
end
end
end LP
namespace LP
open PySem PySem.Spec PyProof.Rows L2 PK
/-! ### growing -/
/-- all that was there, but the feed, is as it was -/
def Gr (Ξ : Ctx) (H H' : Hp) : Prop := ∀ b o, b ∉ Ξ.ff → H b = some o → H' b = some o
section
variable {Ξ : Ctx} {H H1 H2 : Hp} {S : List Addr} {p : Addr} {o : HO}
theorem Gr.refl (H : Hp) : Gr Ξ H H := fun _ _ _ h => h
theorem Gr.trans (x : Gr Ξ H H1) (y : Gr Ξ H1 H2) : Gr Ξ H H2 := fun b o n h => y b o n (x b o n h)
theorem Gr.of (x : Same H H1) : Gr Ξ H H1 := fun b o _ h => x b o h
/-- masked: what is not in S stays -/
theorem Gr.ms (x : Gr Ξ H H1) (h : ∀ b ∈ Ξ.ff, b ∈ S) : Same (ms S H) (ms S H1) := fun b o e => by
  obtain ⟨h1, h2⟩ := ms_some e
  exact ms_at (x b o (fun z => h2 (h b z)) h1) h2
theorem ms_mono {S T : List Addr} (h : ∀ b ∈ T, b ∈ S) : Same (ms S H) (ms T H) := fun b o e => by
  obtain ⟨h1, h2⟩ := ms_some e
  exact ms_at h1 fun z => h2 (h b z)
def Mu (S : List Addr) (H : Hp) : Prop := ∀ q ∈ S, ∃ o, H q = some o ∧ Mt o
theorem Mu.out {S : List Addr} (h : Mu S H) (n : H p = none) : p ∉ S := fun z => by
  obtain ⟨o, e, _⟩ := h p z
  rw [n] at e
  cases e
theorem Mu.same {S : List Addr} (h : Mu S H) (s : Same H H1) : Mu S H1 := fun q hq => by
  obtain ⟨o, e, m⟩ := h q hq
  exact ⟨o, s _ _ e, m⟩
theorem Mu.gr {S : List Addr} (h : Mu S H) (s : Gr Ξ H H1) (f : Ξ.FI H1) : Mu S H1 := fun q hq => by
  by_cases z : q ∈ Ξ.ff
  · exact Ξ.fex H1 f q z
  · obtain ⟨o, e, m⟩ := h q hq
    exact ⟨o, s _ _ z e, m⟩
theorem Mu.upd {S : List Addr} (h : Mu S H) (m : Mt o) : Mu S (upd H p o) := fun q hq => by
  by_cases z : q = p
  · rw [z]
    exact ⟨o, upd_same, m⟩
  · rw [upd_ne z]
    exact h q hq
theorem Mu.cons {S : List Addr} (h : Mu S H) (e : H p = some o) (m : Mt o) : Mu (p :: S) H := fun q hq => by
  rcases List.mem_cons.mp hq with rfl | z
  · exact ⟨o, e, m⟩
  · exact h q z
theorem sqT_mu {K : PySem.W.Frag} {S : List Addr} {c : Addr} {xs : List V} (h : SqT K H c xs) (k : Mu S H) : SqT K (ms S H) c xs := by
  rcases h with (h | ⟨o, h⟩) | h
  · exact .inl (.inl (ms_at h fun z => by
      obtain ⟨l, h1, m⟩ := k c z
      rw [h] at h1
      cases h1
      exact m))
  · refine .inl (.inr ⟨o, ms_at h fun z => ?_⟩)
    obtain ⟨l, h1, m⟩ := k c z
    rw [h] at h1
    cases h1
    exact m
  · exact .inr h
theorem FI_same (f : Ξ.FI H) (s : Same H H1) : Ξ.FI H1 := Ξ.fst H H1 (fun b hb => by
  obtain ⟨o, e, _⟩ := Ξ.fex H f b hb
  rw [e, s _ _ e]) f
theorem FI_upd (f : Ξ.FI H) (n : p ∉ Ξ.ff) : Ξ.FI (upd H p o) := Ξ.fst _ _ (fun b hb => upd_ne fun z => n (z ▸ hb)) f
theorem ff_out (f : Ξ.FI H) (n : H p = none) : p ∉ Ξ.ff := fun z => by
  obtain ⟨o, e, _⟩ := Ξ.fex H f p z
  rw [n] at e
  cases e
end
/-! ### the names -/
abbrev Env := List (Option D)
/-- what stands at an owned place -/
inductive Ow (Ξ : Ctx) (Hm : Hp) : Option HO → D → Prop
  | lst {us : List V} {ds : List D} : RpAll Ξ Hm us ds → Ow Ξ Hm (some (.lst us)) (.lst ds)
theorem Ow.same {Ξ : Ctx} {H H' : Hp} {o : Option HO} {d : D} (s : Same H H') (h : Ow Ξ H o d) : Ow Ξ H' o d := by
  cases h with
  | lst h => exact .lst (h.same s)
structure Rel (Ξ : Ctx) (H0 : Hp) (S : List Addr) (A : List (Nat × Addr)) (G : List (V × D)) (σ : L2.St) (H : Hp) (env : Env) : Prop where
  len : σ.length = env.length
  fr : ∀ i d, env[i]? = some (some d) → (∀ a, (i, a) ∉ A) → ∃ v, σ[i]? = some (some v) ∧ Rp Ξ (ms (S ++ A.map (·.2)) H) v d
  ow : ∀ i a, (i, a) ∈ A → ∃ d, env[i]? = some (some d) ∧ σ[i]? = some (some (.ref a)) ∧ Ow Ξ (ms (S ++ A.map (·.2)) H) (H a) d
  old : ∀ i a, (i, a) ∈ A → H0 a = none ∧ a ∉ S
  nd : (A.map (·.2)).Nodup
  ndk : (A.map (·.1)).Nodup
  gh : ∀ x ∈ G, Rp Ξ (ms (S ++ A.map (·.2)) H) x.1 x.2
  mu : Mu S H
  fi : Ξ.FI H
  ffs : ∀ b ∈ Ξ.ff, b ∈ S
  gr : Gr Ξ H0 H
section
variable {Ξ : Ctx} {H0 H H1 : Hp} {S : List Addr} {A : List (Nat × Addr)} {G : List (V × D)} {σ : L2.St} {env : Env}
theorem Rel.ffM (r : Rel Ξ H0 S A G σ H env) : ∀ b ∈ Ξ.ff, b ∈ S ++ A.map (·.2) := fun b hb => List.mem_append_left _ (r.ffs b hb)
theorem Rel.outA (r : Rel Ξ H0 S A G σ H env) {i : Nat} {a : Addr} (h : (i, a) ∈ A) : a ∉ Ξ.ff := fun z => (r.old i a h).2 (r.ffs a z)
theorem Rel.muA (r : Rel Ξ H0 S A G σ H env) : Mu (S ++ A.map (·.2)) H := fun q hq => by
  rcases List.mem_append.mp hq with h | h
  · exact r.mu q h
  · obtain ⟨⟨i, a⟩, hm, rfl⟩ := List.mem_map.mp h
    obtain ⟨d, _, _, ho⟩ := r.ow i a hm
    show ∃ o, H a = some o ∧ Mt o
    generalize H a = o at ho
    cases ho with
    | lst _ => exact ⟨_, rfl, trivial⟩
theorem Rel.grow (r : Rel Ξ H0 S A G σ H env) (g : Gr Ξ H H1) (f : Ξ.FI H1) : Rel Ξ H0 S A G σ H1 env := by
  have s := g.ms r.ffM
  refine ⟨r.len, fun i d h n => ?_, fun i a h => ?_, r.old, r.nd, r.ndk, fun x hx => (r.gh x hx).same s, r.mu.gr g f, f, r.ffs, r.gr.trans g⟩
  · obtain ⟨v, h1, h2⟩ := r.fr i d h n
    exact ⟨v, h1, h2.same s⟩
  · obtain ⟨d, h1, h2, h3⟩ := r.ow i a h
    refine ⟨d, h1, h2, ?_⟩
    have h4 := h3.same s
    have e : H1 a = H a := by
      generalize ho : H a = o at h3
      cases h3 with
      | lst _ => exact g a _ (r.outA h) ho
    rw [e]
    exact h4
theorem Rel.same (r : Rel Ξ H0 S A G σ H env) (s : Same H H1) : Rel Ξ H0 S A G σ H1 env := r.grow (Gr.of s) (FI_same r.fi s)
/-- one more object is kept out -/
theorem Rel.mask (r : Rel Ξ H0 S A G σ H env) {p : Addr} {o : HO} (np : H p = none) (m : Mt o) : Rel Ξ H0 (p :: S) A G σ (upd H p o) env := by
  have hA : ∀ i a, (i, a) ∈ A → a ≠ p := fun i a h z => by
    have := r.muA.out np
    exact this (List.mem_append_right _ (List.mem_map.mpr ⟨(i, a), h, z⟩))
  have s : Same (ms (S ++ A.map (·.2)) H) (ms ((p :: S) ++ A.map (·.2)) (upd H p o)) := fun b u e => by
    obtain ⟨h1, h2⟩ := ms_some e
    have n := ne_of_none h1 np
    exact ms_at (by rw [upd_ne n]; exact h1) fun z => (List.mem_cons.mp z).elim n h2
  refine ⟨r.len, fun i d h n => ?_, fun i a h => ?_, fun i a h => ?_, r.nd, r.ndk, fun x hx => (r.gh x hx).same s, ?_, ?_, fun b hb => List.mem_cons_of_mem _ (r.ffs b hb), fun b u n e => ?_⟩
  · obtain ⟨v, h1, h2⟩ := r.fr i d h n
    exact ⟨v, h1, h2.same s⟩
  · obtain ⟨d, h1, h2, h3⟩ := r.ow i a h
    refine ⟨d, h1, h2, ?_⟩
    rw [upd_ne (hA i a h)]
    exact h3.same s
  · refine ⟨(r.old i a h).1, fun z => ?_⟩
    rcases List.mem_cons.mp z with z | z
    · exact hA i a h z
    · exact (r.old i a h).2 z
  · exact (r.mu.same (same_new (Same.refl H) np)).cons upd_same m
  · exact FI_upd r.fi (ff_out r.fi np)
  · have h1 := r.gr b u n e
    rw [upd_ne (ne_of_none h1 np)]
    exact h1
end
/-- read: frozen, or an owned list with frozen things in it -/
inductive Bp (Ξ : Ctx) (M : List Addr) (H : Hp) : V → D → Prop
  | rp {v : V} {d : D} : Rp Ξ (ms M H) v d → Bp Ξ M H v d
  | lst {a : Addr} {us : List V} {ds : List D} : a ∉ Ξ.ff → H a = some (.lst us) → RpAll Ξ (ms M H) us ds → Bp Ξ M H (.ref a) (.lst ds)
section
variable {Ξ : Ctx} {H H1 : Hp} {M : List Addr} {v : V}
theorem Bp.gr {d : D} (h : Bp Ξ M H v d) (g : Gr Ξ H H1) (hf : ∀ b ∈ Ξ.ff, b ∈ M) : Bp Ξ M H1 v d := by
  cases h with
  | rp h => exact .rp (h.same (g.ms hf))
  | lst n h1 h2 => exact .lst n (g _ _ n h1) (h2.same (g.ms hf))
theorem Bp.full {d : D} (h : Bp Ξ M H v d) : Rp Ξ H v d := by
  cases h with
  | rp h => exact h.same ms_sub
  | lst _ h1 h2 => exact .lst h1 (h2.same ms_sub)
theorem Bp.lstE {ds : List D} (h : Bp Ξ M H v (.lst ds)) : ∃ b xs, v = .ref b ∧ H b = some (.lst xs) ∧ RpAll Ξ (ms M H) xs ds := by
  cases h with
  | rp h =>
    obtain ⟨b, xs, e, h1, h2⟩ := h.lstE
    exact ⟨b, xs, e, ms_sub _ _ h1, h2⟩
  | lst _ h1 h2 => exact ⟨_, _, rfl, h1, h2⟩
theorem Bp.tupE {ds : List D} (h : Bp Ξ M H v (.tup ds)) : ∃ b xs, v = .ref b ∧ SqT Ξ.K H b xs ∧ RpAll Ξ (ms M H) xs ds := by
  cases h with
  | rp h =>
    obtain ⟨b, xs, e, h1, h2⟩ := h.tupE
    exact ⟨b, xs, e, sqT_same ms_sub h1, h2⟩
end
/-! ### the readings by value -/
section
variable (Ξ : Ctx) (H0 : Hp) (O : List Nat)
def liE (p : Env → W D) : TE := fun σ H Q => ∃ S A G env E, A.map (·.1) = O ∧ Rel Ξ H0 S A G σ H env ∧
  (p env).wp (fun d => ∀ v H', Gr Ξ H H' → Rel Ξ H0 S A G σ H' env → Rp Ξ (ms (S ++ A.map (·.2)) H') v d → Q v H') E
/-- an owned name may be read -/
def liB (p : Env → W D) : TE := fun σ H Q => ∃ S A G env E, A.map (·.1) = O ∧ Rel Ξ H0 S A G σ H env ∧
  (p env).wp (fun d => ∀ v H', Gr Ξ H H' → Rel Ξ H0 S A G σ H' env → Bp Ξ (S ++ A.map (·.2)) H' v d → Q v H') E
def liA (p : Env → W (List D)) : TA := fun σ H Q => ∃ S A G env E, A.map (·.1) = O ∧ Rel Ξ H0 S A G σ H env ∧
  (p env).wp (fun ds => ∀ vs H', Gr Ξ H H' → Rel Ξ H0 S A G σ H' env → RpAll Ξ (ms (S ++ A.map (·.2)) H') vs ds → Q vs H') E
/-- arguments that are read -/
inductive BpAll (M : List Addr) (H : Hp) : List V → List D → Prop
  | nil : BpAll M H [] []
  | cons {v : V} {vs : List V} {d : D} {ds : List D} : Bp Ξ M H v d → BpAll M H vs ds → BpAll M H (v :: vs) (d :: ds)
def liAB (p : Env → W (List D)) : TA := fun σ H Q => ∃ S A G env E, A.map (·.1) = O ∧ Rel Ξ H0 S A G σ H env ∧
  (p env).wp (fun ds => ∀ vs H', Gr Ξ H H' → Rel Ξ H0 S A G σ H' env → BpAll Ξ (S ++ A.map (·.2)) H' vs ds → Q vs H') E
def liT (p : Env → W Bool) : TT := fun σ H Q => ∃ S A G env E, A.map (·.1) = O ∧ Rel Ξ H0 S A G σ H env ∧
  (p env).wp (fun b => ∀ H', Gr Ξ H H' → Rel Ξ H0 S A G σ H' env → Q b H') E
end
end LP
namespace LP
open PySem PySem.Spec PyProof.Rows L2 PK
section
variable {X : Cx}
theorem wkE {e : Expr} {t t' : TE} (h : PE X e t) (w : ∀ σ H Q, t' σ H Q → t σ H Q) : PE X e t' := ⟨fun pins s σ H Q I q => h.run pins s σ H Q I (w σ H Q q)⟩
theorem wkT {e : Expr} {t t' : TT} (h : PT X e t) (w : ∀ σ H Q, t' σ H Q → t σ H Q) : PT X e t' := ⟨fun pins s σ H Q I q => h.run pins s σ H Q I (w σ H Q q)⟩
theorem wkW {e : Expr} {t t' : TT} (h : PW X e t) (w : ∀ σ H Q, t' σ H Q → t σ H Q) : PW X e t' := ⟨fun wh pins s σ H Q I q => h.run wh pins s σ H Q I (w σ H Q q)⟩
theorem wkA {es : List Expr} {t t' : TA} (h : PA X es t) (w : ∀ σ H Q, t' σ H Q → t σ H Q) : PA X es t' := ⟨fun pos pins s σ H Q I q => h.run pos pins s σ H Q I (w σ H Q q)⟩
theorem wkS {st : Stmt} {t t' : TS} (h : PS X st t) (w : ∀ D σ H, t' D σ H → t D σ H) : PS X st t' := ⟨fun pins s σ H D I q => h.run pins s σ H D I (w D σ H q)⟩
theorem wkSs {st : List Stmt} {t t' : TS} (h : PSs X st t) (w : ∀ D σ H, t' D σ H → t D σ H) : PSs X st t' := ⟨fun pins s σ H D I q => h.run pins s σ H D I (w D σ H q)⟩
end
def getW (env : Env) (i : Nat) : W D := match env[i]? with
  | some (some d) => W.ret d
  | _ => W.fail
def asB : D → W Bool
  | .bl b => W.ret b
  | _ => W.fail
theorem getW_wp {env : Env} {i : Nat} {Q : D → Prop} {E : Ex → Prop} (h : (getW env i).wp Q E) : ∃ d, env[i]? = some (some d) ∧ Q d := by
  unfold getW at h
  split at h
  · rename_i d e
    exact ⟨d, e, h⟩
  · exact h.elim
theorem asB_wp {d : D} {Q : Bool → Prop} {E : Ex → Prop} (h : (asB d).wp Q E) : ∃ b, d = .bl b ∧ Q b := by
  cases d with
  | bl b => exact ⟨b, rfl, h⟩
  | _ => exact h.elim
section
variable {X : Cx} {Ξ : Ctx} {H0 : Hp} {O : List Nat} {e a b c : Expr} {es : List Expr} {pos : Pos}
abbrev LE (Ξ : Ctx) (H0 : Hp) (O : List Nat) (X : Cx) (e : Expr) (p : Env → W D) : Prop := PE X e (liE Ξ H0 O p)
abbrev LB (Ξ : Ctx) (H0 : Hp) (O : List Nat) (X : Cx) (e : Expr) (p : Env → W D) : Prop := PE X e (liB Ξ H0 O p)
abbrev LT (Ξ : Ctx) (H0 : Hp) (O : List Nat) (X : Cx) (e : Expr) (p : Env → W Bool) : Prop := PT X e (liT Ξ H0 O p)
theorem lb {p : Env → W D} (h : LE Ξ H0 O X e p) : LB Ξ H0 O X e p := wkE h fun σ H Q ⟨S, A, G, env, E, hO, r, q⟩ =>
  ⟨S, A, G, env, E, hO, r, (p env).mono (fun d k v H' g r' h' => k v H' g r' (.rp h')) (fun _ z => z) q⟩
/-! ### names, constants -/
theorem le_var (i : Nat) (hO : i ∉ O) (h : PE X e (tVar i)) : LE Ξ H0 O X e fun env => getW env i := wkE h fun σ H Q ⟨S, A, G, env, E, hA, r, q⟩ => by
  obtain ⟨d, he, q⟩ := getW_wp q
  obtain ⟨v, h1, h2⟩ := r.fr i d he fun a ha => hO (hA ▸ List.mem_map.mpr ⟨(i, a), ha, rfl⟩)
  exact ⟨v, h1, q v H (Gr.refl H) r h2⟩
theorem lb_var (i : Nat) (h : PE X e (tVar i)) : LB Ξ H0 O X e fun env => getW env i := wkE h fun σ H Q ⟨S, A, G, env, E, hA, r, q⟩ => by
  obtain ⟨d, he, q⟩ := getW_wp q
  by_cases z : ∃ a, (i, a) ∈ A
  · obtain ⟨a, ha⟩ := z
    obtain ⟨d', h1, h2, h3⟩ := r.ow i a ha
    rw [he] at h1
    cases h1
    refine ⟨.ref a, h2, q _ H (Gr.refl H) r ?_⟩
    generalize ho : H a = o at h3
    cases h3 with
    | lst h3 => exact .lst (r.outA ha) ho h3
  · obtain ⟨v, h1, h2⟩ := r.fr i d he fun a ha => z ⟨a, ha⟩
    exact ⟨v, h1, q v H (Gr.refl H) r (.rp h2)⟩
theorem le_const {v : V} {d : D} (hd : ∀ H, Rp Ξ H v d) (h : PE X e (tC v)) : LE Ξ H0 O X e fun _ => W.ret d := wkE h fun σ H Q ⟨S, A, G, env, E, hA, r, q⟩ => q v H (Gr.refl H) r (hd _)
theorem le_int {i : Int} {j} : LE Ξ H0 O X (.Constant (.int i) j pos) fun _ => W.ret (.int i) := le_const (fun _ => .int i) pe_int
theorem le_str {x : Str} {j} (hs : PyData.strOk x = true := by decide +kernel) : LE Ξ H0 O X (.Constant (.str x) j pos) fun _ => W.ret (.str x) := le_const (fun _ => .str x hs) pe_str
theorem le_bl {x : Bool} {j} : LE Ξ H0 O X (.Constant (.bool x) j pos) fun _ => W.ret (.bl x) := le_const (fun _ => .bl x) pe_bl
theorem le_non {j} : LE Ξ H0 O X (.Constant .none j pos) fun _ => W.ret .non := le_const (fun _ => .non) pe_non
/-! ### two parts, one behind the other -/
/-- an operator of values is kept by f -/
def OpOk (Ξ : Ctx) (r : R2) (f : D → D → W D) : Prop := ∀ (M : List Addr) (H : Hp) (x y : V) (d1 d2 : D) (Q : VK) (E : Ex → Prop), Mu M H → (∀ b ∈ Ξ.ff, b ∈ M) →
  Bp Ξ M H x d1 → Bp Ξ M H y d2 → (f d1 d2).wp (fun d => ∀ v H', Same H H' → Rp Ξ (ms M H') v d → Q v H') E → r x y H Q
/-- .. of values that are read only: the answer is told at once -/
theorem two {pa pb : Env → W D} {ta tb : TE} {f : D → D → W D} {r : R2} (hf : OpOk Ξ r f) (ha : ∀ σ H Q, liB Ξ H0 O pa σ H Q → ta σ H Q) (hb : ∀ σ H Q, liB Ξ H0 O pb σ H Q → tb σ H Q) :
    ∀ σ H Q, liE Ξ H0 O (fun env => (pa env).bind fun x => (pb env).bind fun y => f x y) σ H Q → ta σ H fun x H1 => tb σ H1 fun y H2 => r x y H2 Q := by
  rintro σ H Q ⟨S, A, G, env, E, hA, rl, q⟩
  refine ha σ H _ ⟨S, A, G, env, E, hA, rl, (pa env).mono (fun d1 k x H1 g1 r1 b1 => ?_) (fun _ z => z) q⟩
  refine hb σ H1 _ ⟨S, A, G, env, E, hA, r1, (pb env).mono (fun d2 k y H2 g2 r2 b2 => ?_) (fun _ z => z) k⟩
  refine hf _ H2 x y d1 d2 Q E r2.muA r2.ffM (b1.gr g2 r1.ffM) b2 ((f d1 d2).mono (fun d k v H3 s3 rv => ?_) (fun _ z => z) k)
  exact k v H3 ((g1.trans g2).trans (Gr.of s3)) (r2.same s3) rv
theorem le_op {op : Operator} {r : R2} {f : D → D → W D} {pa pb : Env → W D} (ho : OpR X (binaryOp op) r) (hf : OpOk Ξ r f) (ha : LB Ξ H0 O X a pa) (hb : LB Ξ H0 O X b pb) :
    LE Ξ H0 O X (.BinOp a op b pos) fun env => (pa env).bind fun x => (pb env).bind fun y => f x y :=
  wkE (pe_op ho ha hb) (two hf (fun _ _ _ h => h) fun _ _ _ h => h)
theorem le_cmp {op : CmpOp} {r : R2} {f : D → D → W D} {pa pb : Env → W D} (ho : OpR X (compareOp op) r) (hf : OpOk Ξ r f) (hm : behindInMarks op b = false) (ha : LB Ξ H0 O X a pa) (hb : LB Ξ H0 O X b pb) :
    LE Ξ H0 O X (.Compare a [op] [b] pos) fun env => (pa env).bind fun x => (pb env).bind fun y => f x y :=
  wkE (pe_cmpR ho ha hb hm) (two hf (fun _ _ _ h => h) fun _ _ _ h => h)
theorem le_ix {r : R2} {f : D → D → W D} {pa pb : Env → W D} (ho : IxR X r) (hf : OpOk Ξ r f) (hs : PlainIx b) (ha : LB Ξ H0 O X a pa) (hb : LB Ξ H0 O X b pb) :
    LE Ξ H0 O X (.Subscript a b pos) fun env => (pa env).bind fun x => (pb env).bind fun y => f x y :=
  wkE (pe_ix ho ha hb hs) (two hf (fun _ _ _ h => h) fun _ _ _ h => h)
/-! ### tests -/
theorem lt_val {p : Env → W D} (h : LE Ξ H0 O X e p) (he : ∀ whole, isTrue e X.env whole = (do let v ← whole; standAt e.pos; holding [v] (truthy v)) := by intro _; rfl) : LT Ξ H0 O X e fun env => (p env).bind asB :=
  wkT (pt_val h he) fun σ H Q ⟨S, A, G, env, E, hA, r, q⟩ => ⟨S, A, G, env, E, hA, r, (p env).mono (fun d k v H' g r' hv => by
    obtain ⟨b, rfl, k⟩ := asB_wp k
    cases hv
    exact ⟨b, rfl, k H' g r'⟩) (fun _ z => z) q⟩
theorem lt_cmp {op : CmpOp} {r : R2} {f : D → D → W D} {pa pb : Env → W D} (ho : OpR X (compareOp op) r) (hf : OpOk Ξ r f) (hm : behindInMarks op b = false) (ha : LB Ξ H0 O X a pa) (hb : LB Ξ H0 O X b pb) :
    LT Ξ H0 O X (.Compare a [op] [b] pos) fun env => ((pa env).bind fun x => (pb env).bind fun y => f x y).bind asB := by
  refine wkT (pt_cmpR ho ha hb hm) fun σ H Q h => ?_
  have key : liE Ξ H0 O (fun env => (pa env).bind fun x => (pb env).bind fun y => f x y) σ H (fun v H' => ∃ k, v = .bl k ∧ Q k H') := by
    obtain ⟨S, A, G, env, E, hA, r', q⟩ := h
    refine ⟨S, A, G, env, E, hA, r', W.mono _ (fun d k v H' g r' hv => ?_) (fun _ z => z) q⟩
    obtain ⟨b, rfl, k⟩ := asB_wp k
    cases hv
    exact ⟨b, rfl, k H' g r'⟩
  exact two hf (fun _ _ _ h => h) (fun _ _ _ h => h) σ H _ key
theorem lt_not {p : Env → W Bool} (h : LT Ξ H0 O X a p) : LT Ξ H0 O X (.UnaryOp .Not a pos) fun env => (p env).bind fun k => W.ret !k :=
  wkT (pt_not h) fun σ H Q ⟨S, A, G, env, E, hA, r, q⟩ => ⟨S, A, G, env, E, hA, r, (p env).mono (fun d k H' g r' => k H' g r') (fun _ z => z) q⟩
abbrev LW (Ξ : Ctx) (H0 : Hp) (O : List Nat) (X : Cx) (e : Expr) (p : Env → W Bool) : Prop := PW X e (liT Ξ H0 O p)
variable {rest : List Expr} {p q : Env → W Bool}
theorem lw_and1 (h : LT Ξ H0 O X a p) : LW Ξ H0 O X (.BoolOp .And [a] pos) p := pw_and1 h
theorem lw_or1 (h : LT Ξ H0 O X a p) : LW Ξ H0 O X (.BoolOp .Or [a] pos) p := pw_or1 h
theorem lw_and (h : LT Ξ H0 O X a p) (h2 : LW Ξ H0 O X (.BoolOp .And (b :: rest) pos) q) : LW Ξ H0 O X (.BoolOp .And (a :: b :: rest) pos) fun env => (p env).bind fun k => W.ite k (q env) (W.ret false) :=
  wkW (pw_and h h2) fun σ H Q ⟨S, A, G, env, E, hA, r, z⟩ => ⟨S, A, G, env, E, hA, r, (p env).mono (fun k u H' g r' => by
    cases k with
    | true => exact iteT ⟨S, A, G, env, E, hA, r', (q env).mono (fun k u H2 g2 r2 => u H2 (g.trans g2) r2) (fun _ z => z) u⟩
    | false => exact iteF (u H' g r')) (fun _ z => z) z⟩
theorem lw_or (h : LT Ξ H0 O X a p) (h2 : LW Ξ H0 O X (.BoolOp .Or (b :: rest) pos) q) : LW Ξ H0 O X (.BoolOp .Or (a :: b :: rest) pos) fun env => (p env).bind fun k => W.ite k (W.ret true) (q env) :=
  wkW (pw_or h h2) fun σ H Q ⟨S, A, G, env, E, hA, r, z⟩ => ⟨S, A, G, env, E, hA, r, (p env).mono (fun k u H' g r' => by
    cases k with
    | true => exact iteT (u H' g r')
    | false => exact iteF ⟨S, A, G, env, E, hA, r', (q env).mono (fun k u H2 g2 r2 => u H2 (g.trans g2) r2) (fun _ z => z) u⟩) (fun _ z => z) z⟩
/-! ### and, or, not, if as values -/
variable {pa pb : Env → W D}
theorem le_one {op} (h : LE Ξ H0 O X a pa) : LE Ξ H0 O X (.BoolOp op [a] pos) pa := pe_one h
theorem le_or (h : LE Ξ H0 O X a pa) (h2 : LE Ξ H0 O X (.BoolOp .Or (b :: rest) pos) pb) : LE Ξ H0 O X (.BoolOp .Or (a :: b :: rest) pos) fun env => (pa env).bind fun d => (asB d).bind fun k => W.ite k (W.ret (.bl true)) (pb env) :=
  wkE (pe_or h h2) fun σ H Q ⟨S, A, G, env, E, hA, r, z⟩ => ⟨S, A, G, env, E, hA, r, (pa env).mono (fun d u v H' g r' hv => by
    obtain ⟨k, rfl, u⟩ := asB_wp u
    cases hv
    refine ⟨k, rfl, ?_⟩
    cases k with
    | true => exact iteT (u _ H' g r' (.bl true))
    | false => exact iteF ⟨S, A, G, env, E, hA, r', (pb env).mono (fun k u v H2 g2 r2 => u v H2 (g.trans g2) r2) (fun _ z => z) u⟩) (fun _ z => z) z⟩
theorem le_if (hc : LT Ξ H0 O X c p) (h : LE Ξ H0 O X a pa) (h2 : LE Ξ H0 O X b pb) : LE Ξ H0 O X (.IfExp c a b pos) fun env => (p env).bind fun k => W.ite k (pa env) (pb env) :=
  wkE (pe_ifExp hc h h2) fun σ H Q ⟨S, A, G, env, E, hA, r, z⟩ => ⟨S, A, G, env, E, hA, r, (p env).mono (fun k u H' g r' => by
    cases k with
    | true => exact iteT ⟨S, A, G, env, E, hA, r', (pa env).mono (fun d u v H2 g2 r2 => u v H2 (g.trans g2) r2) (fun _ z => z) u⟩
    | false => exact iteF ⟨S, A, G, env, E, hA, r', (pb env).mono (fun d u v H2 g2 r2 => u v H2 (g.trans g2) r2) (fun _ z => z) u⟩) (fun _ z => z) z⟩
/-! ### arguments, displays -/
abbrev LA (Ξ : Ctx) (H0 : Hp) (O : List Nat) (X : Cx) (es : List Expr) (p : Env → W (List D)) : Prop := PA X es (liA Ξ H0 O p)
abbrev LAB (Ξ : Ctx) (H0 : Hp) (O : List Nat) (X : Cx) (es : List Expr) (p : Env → W (List D)) : Prop := PA X es (liAB Ξ H0 O p)
theorem la_nil : LA Ξ H0 O X [] fun _ => W.ret [] := wkA pa_nil fun σ H Q ⟨S, A, G, env, E, hA, r, z⟩ => z [] H (Gr.refl H) r .nil
theorem lab_nil : LAB Ξ H0 O X [] fun _ => W.ret [] := wkA pa_nil fun σ H Q ⟨S, A, G, env, E, hA, r, z⟩ => z [] H (Gr.refl H) r .nil
variable {ps : Env → W (List D)}
theorem la_cons (h : LE Ξ H0 O X e pa) (h2 : LA Ξ H0 O X es ps) (hs : starEach (e :: es) X.env = (false, eval e X.env) :: starEach es X.env := by rfl) : LA Ξ H0 O X (e :: es) fun env => (pa env).bind fun d => (ps env).bind fun ds => W.ret (d :: ds) :=
  wkA (pa_cons h h2 hs) fun σ H Q ⟨S, A, G, env, E, hA, r, z⟩ => ⟨S, A, G, env, E, hA, r, (pa env).mono (fun d u v H1 g1 r1 hv => ⟨S, A, G, env, E, hA, r1, (ps env).mono (fun ds u vs H2 g2 r2 hvs =>
    u (v :: vs) H2 (g1.trans g2) r2 (.cons (hv.same (g2.ms r1.ffM)) hvs)) (fun _ z => z) u⟩) (fun _ z => z) z⟩
theorem lab_cons (h : LB Ξ H0 O X e pa) (h2 : LAB Ξ H0 O X es ps) (hs : starEach (e :: es) X.env = (false, eval e X.env) :: starEach es X.env := by rfl) : LAB Ξ H0 O X (e :: es) fun env => (pa env).bind fun d => (ps env).bind fun ds => W.ret (d :: ds) :=
  wkA (pa_cons h h2 hs) fun σ H Q ⟨S, A, G, env, E, hA, r, z⟩ => ⟨S, A, G, env, E, hA, r, (pa env).mono (fun d u v H1 g1 r1 hv => ⟨S, A, G, env, E, hA, r1, (ps env).mono (fun ds u vs H2 g2 r2 hvs =>
    u (v :: vs) H2 (g1.trans g2) r2 (.cons (hv.gr g2 r1.ffM) hvs)) (fun _ z => z) u⟩) (fun _ z => z) z⟩
def tupW (ds : List D) : W D := (W.want (ds.length ≤ sizeLine)).bind fun _ => W.ret (.tup ds)
def lstW (ds : List D) : W D := (W.want (ds.length ≤ sizeLine)).bind fun _ => W.ret (.lst ds)
theorem le_tup {x1} (h : LA Ξ H0 O X es ps) : LE Ξ H0 O X (.Tuple es x1 pos) fun env => (ps env).bind tupW :=
  wkE (pe_tup h) fun σ H Q ⟨S, A, G, env, E, hA, r, z⟩ => ⟨S, A, G, env, E, hA, r, (ps env).mono (fun ds u vs H1 g1 r1 hv => ⟨by rw [hv.len]; exact u.1, fun p np => by
    have s : Same H1 (upd H1 p (.tup vs)) := same_new (Same.refl H1) np
    have r2 := r1.same s
    exact u.2 (.ref p) _ (g1.trans (Gr.of s)) r2 (.tup (sqT_mu (SqT.of upd_same) r2.muA) (hv.same ((Gr.of s : Gr Ξ _ _).ms r1.ffM)))⟩) (fun _ z => z) z⟩
theorem le_lst (h : LA Ξ H0 O X es ps) : LE Ξ H0 O X (.List es pos) fun env => (ps env).bind lstW :=
  wkE (pe_lst h) fun σ H Q ⟨S, A, G, env, E, hA, r, z⟩ => ⟨S, A, G, env, E, hA, r, (ps env).mono (fun ds u vs H1 g1 r1 hv => ⟨by rw [hv.len]; exact u.1, fun p np => by
    have s : Same H1 (upd H1 p (.lst vs)) := same_new (Same.refl H1) np
    have r2 := r1.same s
    exact u.2 (.ref p) _ (g1.trans (Gr.of s)) r2 (.lst (ms_at upd_same (r1.muA.out np)) (hv.same ((Gr.of s : Gr Ξ _ _).ms r1.ffM)))⟩) (fun _ z => z) z⟩
/-! ### built-in calls -/
def CallOk (Ξ : Ctx) (r : List V → Hp → VK → Prop) (f : List D → W D) : Prop := ∀ (M : List Addr) (H : Hp) (xs : List V) (ds : List D) (Q : VK) (E : Ex → Prop), Mu M H → (∀ b ∈ Ξ.ff, b ∈ M) →
  BpAll Ξ M H xs ds → (f ds).wp (fun d => ∀ v H', Same H H' → Rp Ξ (ms M H') v d → Q v H') E → r xs H Q
theorem le_args {r : List V → Hp → VK → Prop} {f : List D → W D} (hf : CallOk Ξ r f) : ∀ σ H Q, liE Ξ H0 O (fun env => (ps env).bind f) σ H Q → liAB Ξ H0 O ps σ H fun xs H1 => r xs H1 Q := by
  rintro σ H Q ⟨S, A, G, env, E, hA, rl, q⟩
  refine ⟨S, A, G, env, E, hA, rl, (ps env).mono (fun ds k xs H1 g1 r1 b1 => ?_) (fun _ z => z) q⟩
  refine hf _ H1 xs ds Q E r1.muA r1.ffM b1 ((f ds).mono (fun d k v H3 s3 rv => ?_) (fun _ z => z) k)
  exact k v H3 (g1.trans (Gr.of s3)) (r1.same s3) rv
end
end LP
namespace LP
open PySem PySem.Spec PyProof.Rows L2 PK
/-! ### what may be done to the names -/
theorem nodup_inj {α β : Type} {f : α → β} : ∀ {l : List α}, (l.map f).Nodup → ∀ {x y : α}, x ∈ l → y ∈ l → f x = f y → x = y
  | [], _, _, _, h, _, _ => (nomatch h)
  | z :: l, nd, x, y, hx, hy, e => by
    rw [List.map_cons, List.nodup_cons] at nd
    rcases List.mem_cons.mp hx with e1 | h1
    · rcases List.mem_cons.mp hy with e2 | h2
      · rw [e1, e2]
      · exact absurd (List.mem_map.mpr ⟨y, h2, by rw [← e, e1]⟩) nd.1
    · rcases List.mem_cons.mp hy with e2 | h2
      · exact absurd (List.mem_map.mpr ⟨x, h1, by rw [e, e2]⟩) nd.1
      · exact nodup_inj nd.2 h1 h2 e
section
variable {Ξ : Ctx} {H0 H H1 : Hp} {S : List Addr} {A : List (Nat × Addr)} {G : List (V × D)} {σ : L2.St} {env : Env}
/-- some owned names are owned no more -/
theorem Rel.sub (k : Nat → Bool) (r : Rel Ξ H0 S A G σ H env) : Rel Ξ H0 S (A.filter fun x => k x.1) G σ H env := by
  have hm : ∀ b ∈ S ++ (A.filter fun x => k x.1).map (·.2), b ∈ S ++ A.map (·.2) := fun b hb => by
    rcases List.mem_append.mp hb with h | h
    · exact List.mem_append_left _ h
    · obtain ⟨x, hx, rfl⟩ := List.mem_map.mp h
      exact List.mem_append_right _ (List.mem_map.mpr ⟨x, (List.mem_filter.mp hx).1, rfl⟩)
  have s : Same (ms (S ++ A.map (·.2)) H) (ms (S ++ (A.filter fun x => k x.1).map (·.2)) H) := ms_mono hm
  have nd2 : ((A.filter fun x => k x.1).map (·.2)).Nodup := List.Sublist.nodup (List.Sublist.map _ List.filter_sublist) r.nd
  have nd1 : ((A.filter fun x => k x.1).map (·.1)).Nodup := List.Sublist.nodup (List.Sublist.map _ List.filter_sublist) r.ndk
  refine ⟨r.len, fun i d h n => ?_, fun i a h => ?_, fun i a h => r.old i a (List.mem_filter.mp h).1, nd2, nd1, fun x hx => (r.gh x hx).same s, r.mu, r.fi, r.ffs, r.gr⟩
  · by_cases z : ∃ a, (i, a) ∈ A
    · obtain ⟨a, ha⟩ := z
      obtain ⟨d', h1, h2, h3⟩ := r.ow i a ha
      rw [h] at h1
      cases h1
      have na : a ∉ S ++ (A.filter fun x => k x.1).map (·.2) := fun hb => by
        rcases List.mem_append.mp hb with hb | hb
        · exact (r.old i a ha).2 hb
        · obtain ⟨⟨j, a'⟩, hx, e⟩ := List.mem_map.mp hb
          have e : a' = a := e
          subst e
          have hxA := (List.mem_filter.mp hx).1
          have : (j, a') = (i, a') := nodup_inj r.nd hxA ha rfl
          rw [this] at hx
          exact n a' hx
      refine ⟨.ref a, h2, ?_⟩
      generalize ho : H a = o at h3
      cases h3 with
      | lst h3 => exact .lst (ms_at ho na) (h3.same s)
    · obtain ⟨v, h1, h2⟩ := r.fr i d h fun a ha => z ⟨a, ha⟩
      exact ⟨v, h1, h2.same s⟩
  · obtain ⟨d, h1, h2, h3⟩ := r.ow i a (List.mem_filter.mp h).1
    exact ⟨d, h1, h2, h3.same s⟩
theorem Rel.set {v : V} {d : D} {i : Nat} (r : Rel Ξ H0 S A G σ H env) (n : ∀ a, (i, a) ∉ A) (hv : Rp Ξ (ms (S ++ A.map (·.2)) H) v d) : Rel Ξ H0 S A G (σ.set i (some v)) H (env.set i (some d)) := by
  refine ⟨by rw [List.length_set, List.length_set]; exact r.len, fun j e h nj => ?_, fun j a h => ?_, r.old, r.nd, r.ndk, r.gh, r.mu, r.fi, r.ffs, r.gr⟩
  · by_cases z : i = j
    · subst z
      have hl : i < env.length := by
        have := (List.getElem?_eq_some_iff.mp h).1
        rwa [List.length_set] at this
      rw [List.getElem?_set_self hl] at h
      cases h
      exact ⟨v, List.getElem?_set_self (by rw [r.len]; exact hl), hv⟩
    · rw [List.getElem?_set_ne z] at h
      obtain ⟨w, h1, h2⟩ := r.fr j e h nj
      exact ⟨w, by rw [List.getElem?_set_ne z]; exact h1, h2⟩
  · have z : i ≠ j := fun z => n a (z ▸ h)
    obtain ⟨e, h1, h2, h3⟩ := r.ow j a h
    exact ⟨e, by rw [List.getElem?_set_ne z]; exact h1, by rw [List.getElem?_set_ne z]; exact h2, h3⟩
/-- a new object comes to be owned -/
theorem Rel.own {p : Addr} {d : D} {i : Nat} (r : Rel Ξ H0 S A G σ H env) (n : ∀ a, (i, a) ∉ A) (hi : i < env.length) (np : H p = none) (g : Gr Ξ H H1) (f : Ξ.FI H1) (ho : Ow Ξ (ms (p :: (S ++ A.map (·.2))) H1) (H1 p) d) :
    Rel Ξ H0 S ((i, p) :: A) G (σ.set i (some (.ref p))) H1 (env.set i (some d)) := by
  have hM : ∀ b : Addr, b ∈ S ++ ((i, p) :: A).map (·.2) ↔ b ∈ p :: (S ++ A.map (·.2)) := fun b => by
    rw [List.map_cons, List.mem_append, List.mem_cons, List.mem_cons, List.mem_append]
    constructor
    · rintro (h | h | h)
      · exact .inr (.inl h)
      · exact .inl h
      · exact .inr (.inr h)
    · rintro (h | h | h)
      · exact .inr (.inl h)
      · exact .inl h
      · exact .inr (.inr h)
  have s : Same (ms (S ++ A.map (·.2)) H) (ms (S ++ ((i, p) :: A).map (·.2)) H1) := fun b u e => by
    obtain ⟨h1, h2⟩ := ms_some e
    refine ms_at (g b u (fun z => h2 (r.ffM b z)) h1) fun z => ?_
    rcases List.mem_cons.mp ((hM b).mp z) with z | z
    · exact ne_of_none h1 np z
    · exact h2 z
  have s2 : Same (ms (p :: (S ++ A.map (·.2))) H1) (ms (S ++ ((i, p) :: A).map (·.2)) H1) := ms_mono fun b hb => (hM b).mp hb
  have hp := r.muA.out np
  refine ⟨by rw [List.length_set, List.length_set]; exact r.len, fun j e h nj => ?_, fun j a h => ?_, fun j a h => ?_, ?_, ?_, fun x hx => (r.gh x hx).same s, r.mu.gr g f, f, r.ffs, r.gr.trans g⟩
  · have z : i ≠ j := fun z => nj p (z ▸ List.mem_cons_self)
    rw [List.getElem?_set_ne z] at h
    obtain ⟨w, h1, h2⟩ := r.fr j e h fun a ha => nj a (List.mem_cons_of_mem _ ha)
    exact ⟨w, by rw [List.getElem?_set_ne z]; exact h1, h2.same s⟩
  · rcases List.mem_cons.mp h with e | h
    · cases e
      exact ⟨d, List.getElem?_set_self hi, List.getElem?_set_self (by rw [r.len]; exact hi), ho.same s2⟩
    · have z : i ≠ j := fun z => n a (z ▸ h)
      obtain ⟨e, h1, h2, h3⟩ := r.ow j a h
      have ea : H1 a = H a := by
        generalize hq : H a = o at h3
        cases h3 with
        | lst _ => exact g a _ (r.outA h) hq
      refine ⟨e, by rw [List.getElem?_set_ne z]; exact h1, by rw [List.getElem?_set_ne z]; exact h2, ?_⟩
      rw [ea]
      exact h3.same s
  · rcases List.mem_cons.mp h with e | h
    · cases e
      refine ⟨?_, fun z => hp (List.mem_append_left _ z)⟩
      cases q : H0 p with
      | none => rfl
      | some o =>
        have := r.gr p o (fun z => hp (List.mem_append_left _ (r.ffs p z))) q
        rw [np] at this
        cases this
    · exact r.old j a h
  · rw [List.map_cons, List.nodup_cons]
    exact ⟨fun z => hp (List.mem_append_right _ z), r.nd⟩
  · rw [List.map_cons, List.nodup_cons]
    refine ⟨fun z => ?_, r.ndk⟩
    obtain ⟨⟨j, a⟩, hx, e⟩ := List.mem_map.mp z
    have e : j = i := e
    subst e
    exact n a hx
/-- an owned object changes -/
theorem Rel.put {a : Addr} {d : D} {i : Nat} {o : HO} (r : Rel Ξ H0 S A G σ H env) (h : (i, a) ∈ A) (ho : Ow Ξ (ms (S ++ A.map (·.2)) H) (some o) d) : Rel Ξ H0 S A G σ (upd H a o) (env.set i (some d)) := by
  have ha : a ∈ S ++ A.map (·.2) := List.mem_append_right _ (List.mem_map.mpr ⟨(i, a), h, rfl⟩)
  have em : ms (S ++ A.map (·.2)) (upd H a o) = ms (S ++ A.map (·.2)) H := ms_upd ha
  obtain ⟨d0, e1, e2, _⟩ := r.ow i a h
  have hi : i < env.length := (List.getElem?_eq_some_iff.mp e1).1
  have uniq : ∀ {j : Nat} {b : Addr}, (j, b) ∈ A → i ≠ j → b ≠ a := fun {j b} hj z e => by
    subst e
    exact z (congrArg Prod.fst (nodup_inj r.nd h hj rfl))
  have uniqk : ∀ {b : Addr}, (i, b) ∈ A → b = a := fun {b} hj => congrArg Prod.snd (nodup_inj r.ndk hj h rfl)
  have nS := (r.old i a h).2
  refine ⟨by rw [List.length_set]; exact r.len, fun j e hj nj => ?_, fun j b hj => ?_, r.old, r.nd, r.ndk, fun x hx => by rw [em]; exact r.gh x hx, fun q hq => ?_, FI_upd r.fi (r.outA h), r.ffs, fun b u n e => ?_⟩
  · have z : i ≠ j := fun z => nj a (z ▸ h)
    rw [List.getElem?_set_ne z] at hj
    rw [em]
    exact r.fr j e hj nj
  · by_cases z : i = j
    · subst z
      have := uniqk hj
      subst this
      refine ⟨d, List.getElem?_set_self hi, e2, ?_⟩
      rw [em, upd_same]
      exact ho
    · obtain ⟨e, h1, h2, h3⟩ := r.ow j b hj
      refine ⟨e, by rw [List.getElem?_set_ne z]; exact h1, h2, ?_⟩
      rw [em, upd_ne (uniq hj z)]
      exact h3
  · rw [upd_ne (fun z => nS (by rw [← z]; exact hq))]
    exact r.mu q hq
  · have h0 := (r.old i a h).1
    rw [upd_ne (ne_of_none e h0)]
    exact r.gr b u n e
theorem Rel.ghost {g : List (V × D)} (r : Rel Ξ H0 S A G σ H env) (h : ∀ x ∈ g, Rp Ξ (ms (S ++ A.map (·.2)) H) x.1 x.2) : Rel Ξ H0 S A (g ++ G) σ H env :=
  ⟨r.len, r.fr, r.ow, r.old, r.nd, r.ndk, fun x hx => (List.mem_append.mp hx).elim (h x) (r.gh x), r.mu, r.fi, r.ffs, r.gr⟩
theorem Rel.unghost {g : List (V × D)} (r : Rel Ξ H0 S A (g ++ G) σ H env) : Rel Ξ H0 S A G σ H env :=
  ⟨r.len, r.fr, r.ow, r.old, r.nd, r.ndk, fun x hx => r.gh x (List.mem_append_right _ hx), r.mu, r.fi, r.ffs, r.gr⟩
/-- a comprehension's own names hold nothing -/
def wipeE (env : Env) : List Nat → Env
  | [] => env
  | i :: vs => (wipeE env vs).set i none
theorem wipeE_len (env : Env) : ∀ vs : List Nat, (wipeE env vs).length = env.length
  | [] => rfl
  | i :: vs => by
    show ((wipeE env vs).set i none).length = _
    rw [List.length_set, wipeE_len env vs]
theorem wipeE_some {env : Env} {i : Nat} {d : D} : ∀ {vs : List Nat}, (wipeE env vs)[i]? = some (some d) → env[i]? = some (some d) ∧ i ∉ vs
  | [], h => ⟨h, fun z => (nomatch z)⟩
  | j :: vs, h => by
    have h : ((wipeE env vs).set j none)[i]? = some (some d) := h
    by_cases z : j = i
    · subst z
      have hl := (List.getElem?_eq_some_iff.mp h).1
      rw [List.length_set] at hl
      rw [List.getElem?_set_self hl] at h
      cases h
    · rw [List.getElem?_set_ne z] at h
      obtain ⟨h1, h2⟩ := wipeE_some h
      exact ⟨h1, fun q => (List.mem_cons.mp q).elim (fun q => z q.symm) h2⟩
theorem wipeE_out {env : Env} {i : Nat} : ∀ {vs : List Nat}, i ∉ vs → (wipeE env vs)[i]? = env[i]?
  | [], _ => rfl
  | j :: vs, h => by
    show ((wipeE env vs).set j none)[i]? = _
    rw [List.getElem?_set_ne (fun z => h (by rw [z]; exact List.mem_cons_self)), wipeE_out fun z => h (List.mem_cons_of_mem _ z)]
theorem Rel.wipe (r : Rel Ξ H0 S A G σ H env) {vs : List Nat} (hv : ∀ i ∈ vs, i ∉ A.map (·.1)) : Rel Ξ H0 S A G (wipe σ vs) H (wipeE env vs) := by
  refine ⟨by rw [wipe_length, wipeE_len]; exact r.len, fun i d h n => ?_, fun i a h => ?_, r.old, r.nd, r.ndk, r.gh, r.mu, r.fi, r.ffs, r.gr⟩
  · obtain ⟨h1, h2⟩ := wipeE_some h
    obtain ⟨v, h3, h4⟩ := r.fr i d h1 n
    exact ⟨v, by rw [wipe_out h2]; exact h3, h4⟩
  · obtain ⟨d, h1, h2, h3⟩ := r.ow i a h
    have ni : i ∉ vs := fun z => hv i z (List.mem_map.mpr ⟨(i, a), h, rfl⟩)
    exact ⟨d, by rw [wipeE_out ni]; exact h1, by rw [wipe_out ni]; exact h2, h3⟩
end
end LP
namespace LP
open PySem PySem.Spec PyProof.Rows L2 PK
/-! ### targets -/
def liG (Ξ : Ctx) (H0 : Hp) (O vs : List Nat) (g : D → Env → W Env) : TG := fun v σ H Q => ∃ S A G env d E, A.map (·.1) = O ∧ Rel Ξ H0 S A G σ H env ∧ Rp Ξ (ms (S ++ A.map (·.2)) H) v d ∧
  (g d env).wp (fun env' => ∀ σ', σ'.length = σ.length → (∀ j, j ∉ vs → σ'[j]? = σ[j]?) → Rel Ξ H0 S A G σ' H env' → Q σ' H) E
def liGs (Ξ : Ctx) (H0 : Hp) (O vs : List Nat) (g : List D → Env → W Env) : TGs := fun xs σ H Q => ∃ S A G env ds E, A.map (·.1) = O ∧ Rel Ξ H0 S A G σ H env ∧ RpAll Ξ (ms (S ++ A.map (·.2)) H) xs ds ∧
  (g ds env).wp (fun env' => ∀ σ', σ'.length = σ.length → (∀ j, j ∉ vs → σ'[j]? = σ[j]?) → Rel Ξ H0 S A G σ' H env' → Q σ' H) E
section
variable {X : Cx} {Ξ : Ctx} {H0 : Hp} {O vs : List Nat} {e : Expr} {es : List Expr} {pos : Pos}
theorem wkG {t t' : TG} (h : PG X e t) (w : ∀ v σ H Q, t' v σ H Q → t v σ H Q) : PG X e t' := ⟨fun pins s σ H x u Q I r q => h.run pins s σ H x u Q I r (w x σ H Q q)⟩
theorem wkGs {t t' : TGs} (h : PGs X es t) (w : ∀ v σ H Q, t' v σ H Q → t v σ H Q) : PGs X es t' := ⟨fun pins s σ H x u Q I r q => h.run pins s σ H x u Q I r (w x σ H Q q)⟩
abbrev LG (Ξ : Ctx) (H0 : Hp) (O vs : List Nat) (X : Cx) (e : Expr) (g : D → Env → W Env) : Prop := PG X e (liG Ξ H0 O vs g)
abbrev LGs (Ξ : Ctx) (H0 : Hp) (O vs : List Nat) (X : Cx) (es : List Expr) (g : List D → Env → W Env) : Prop := PGs X es (liGs Ξ H0 O vs g)
theorem lg_name (i : Nat) (hO : i ∉ O) (hv : i ∈ vs) (h : PG X e (gName i)) : LG Ξ H0 O vs X e fun d env => W.ret (env.set i (some d)) := wkG h fun v σ H Q ⟨S, A, G, env, d, E, hA, r, hd, q⟩ => by
  refine q _ (List.length_set) (fun j hj => List.getElem?_set_ne fun z => hj (by rw [← z]; exact hv)) (r.set (fun a ha => hO ?_) hd)
  rw [← hA]
  exact List.mem_map.mpr ⟨(i, a), ha, rfl⟩
theorem lgs_nil : LGs Ξ H0 O vs X [] fun ds env => match ds with | [] => W.ret env | _ => W.fail := wkGs pgs_nil fun xs σ H Q ⟨S, A, G, env, ds, E, hA, r, hd, q⟩ => by
  cases hd with
  | nil => exact ⟨rfl, q σ rfl (fun _ _ => rfl) r⟩
  | cons _ _ => exact q.elim
def gsW (g : D → Env → W Env) (gs : List D → Env → W Env) (ds : List D) (env : Env) : W Env := match ds with
  | [] => W.fail
  | d :: ds => (g d env).bind fun env' => gs ds env'
theorem lgs_cons {g : D → Env → W Env} {gs : List D → Env → W Env} (h1 : LG Ξ H0 O vs X e g) (h2 : LGs Ξ H0 O vs X es gs) (hs : (assignEach (e :: es) X.env).map (·.2) = assign e X.env :: (assignEach es X.env).map (·.2) := by rfl) :
    LGs Ξ H0 O vs X (e :: es) (gsW g gs) := wkGs (pgs_cons h1 h2 hs) fun xs σ H Q ⟨S, A, G, env, ds, E, hA, r, hd, q⟩ => by
  cases hd with
  | nil => exact q.elim
  | cons hv hvs =>
    refine ⟨_, _, rfl, S, A, G, env, _, E, hA, r, hv, W.mono _ (fun env' k σ' l1 k1 r1 => ?_) (fun _ z => z) q⟩
    exact ⟨S, A, G, env', _, E, hA, r1, hvs, W.mono _ (fun env2 k σ2 l2 k2 r2 => k σ2 (l2.trans l1) (fun j hj => (k2 j hj).trans (k1 j hj)) r2) (fun _ z => z) k⟩
def tupG (n : Nat) (gs : List D → Env → W Env) (d : D) (env : Env) : W Env := match d with
  | .tup ds => (W.want (ds.length = n)).bind fun _ => gs ds env
  | _ => W.fail
end
/-! ### what is walked -/
/-- J walks ds, while the things of g stand -/
structure Wk (Ξ : Ctx) (J : It) (g : List (V × D)) (ds : List D) : Prop where
  goes : ∀ (M : List Addr) (H : Hp) (i : Nat), Mu M H → (∀ x ∈ g, Rp Ξ (ms M H) x.1 x.2) → i < ds.length → J.go i H
  stops : ∀ (M : List Addr) (H : Hp), Mu M H → (∀ x ∈ g, Rp Ξ (ms M H) x.1 x.2) → J.stop ds.length H
  yields : ∀ (M : List Addr) (H : Hp) (i : Nat) (x : V) (H' : Hp), Mu M H → (∀ x ∈ g, Rp Ξ (ms M H) x.1 x.2) → i < ds.length → J.yld i H x H' → Same H H' ∧ ∃ d, ds[i]? = some d ∧ Rp Ξ (ms M H') x d
def liI (Ξ : Ctx) (H0 : Hp) (O : List Nat) (p : Env → W (List D)) : TI := fun σ H R => ∃ S A G env E, A.map (·.1) = O ∧ Rel Ξ H0 S A G σ H env ∧
  (p env).wp (fun ds => ∀ J H' g, Gr Ξ H H' → Rel Ξ H0 S A G σ H' env → (∀ x ∈ g, Rp Ξ (ms (S ++ A.map (·.2)) H') x.1 x.2) → Wk Ξ J g ds → R J H') E
section
variable {X : Cx} {Ξ : Ctx} {H0 : Hp} {O : List Nat} {tg e : Expr} {pos : Pos}
theorem wkI {t t' : TI} (h : PI X tg e t) (w : ∀ σ H R, t' σ H R → t σ H R) : PI X tg e t' := ⟨fun pins s σ H R I q => h.run pins s σ H R I (w σ H R q)⟩
abbrev LI (Ξ : Ctx) (H0 : Hp) (O : List Nat) (X : Cx) (tg e : Expr) (p : Env → W (List D)) : Prop := PI X tg e (liI Ξ H0 O p)
theorem wk_list {K : PySem.W.Frag} {a : Addr} {ds : List D} (hK : K = Ξ.K) : Wk Ξ (Itl K a) [(.ref a, .lst ds)] ds := by
  subst hK
  have get : ∀ {M : List Addr} {H : Hp}, (∀ x ∈ [((V.ref a : V), D.lst ds)], Rp Ξ (ms M H) x.1 x.2) → ∃ xs, SqL Ξ.K H a xs ∧ RpAll Ξ (ms M H) xs ds := fun {M H} h => by
    obtain ⟨b, xs, e, h1, h2⟩ := (h _ List.mem_cons_self).lstE
    cases e
    exact ⟨xs, SqL.of (ms_sub _ _ h1), h2⟩
  refine ⟨fun M H i _ h hi => ?_, fun M H _ h => ?_, fun M H i x H' _ h hi y => ?_⟩
  · obtain ⟨xs, h1, h2⟩ := get h
    have hx : i < xs.length := by rw [h2.len]; exact hi
    exact ⟨xs, xs[i], h1, by simp [hx]⟩
  · obtain ⟨xs, h1, h2⟩ := get h
    exact ⟨xs, h1, by rw [h2.len]; exact Nat.le_refl _⟩
  · obtain ⟨xs, h1, h2⟩ := get h
    obtain ⟨e, y⟩ := y
    subst e
    exact ⟨Same.refl _, h2.getV (y xs h1)⟩
theorem wk_tup {K : PySem.W.Frag} {a : Addr} {ds : List D} (hK : K = Ξ.K) : Wk Ξ (Itt K a) [(.ref a, .tup ds)] ds := by
  subst hK
  have get : ∀ {M : List Addr} {H : Hp}, (∀ x ∈ [((V.ref a : V), D.tup ds)], Rp Ξ (ms M H) x.1 x.2) → ∃ xs, SqT Ξ.K H a xs ∧ RpAll Ξ (ms M H) xs ds := fun {M H} h => by
    obtain ⟨b, xs, e, h1, h2⟩ := (h _ List.mem_cons_self).tupE
    cases e
    exact ⟨xs, sqT_same ms_sub h1, h2⟩
  refine ⟨fun M H i _ h hi => ?_, fun M H _ h => ?_, fun M H i x H' _ h hi y => ?_⟩
  · obtain ⟨xs, h1, h2⟩ := get h
    have hx : i < xs.length := by rw [h2.len]; exact hi
    exact ⟨xs, xs[i], h1, by simp [hx]⟩
  · obtain ⟨xs, h1, h2⟩ := get h
    exact ⟨xs, h1, by rw [h2.len]; exact Nat.le_refl _⟩
  · obtain ⟨xs, h1, h2⟩ := get h
    obtain ⟨e, y⟩ := y
    subst e
    exact ⟨Same.refl _, h2.getV (y xs h1)⟩
def rangeD (lo : Int) (n : Nat) : List D := (List.range n).map fun (i : Nat) => D.int (lo + (i : Int))
theorem wk_range {lo : Int} {n : Nat} : Wk Ξ (Itr lo n) [] (rangeD lo n) := by
  have l : (rangeD lo n).length = n := by simp [rangeD]
  refine ⟨fun M H i _ _ hi => by rw [l] at hi; exact hi, fun M H _ _ => by rw [l]; exact Nat.le_refl _, fun M H i x H' _ _ hi y => ?_⟩
  rw [l] at hi
  obtain ⟨e, y⟩ := y
  subst e y
  exact ⟨Same.refl _, .int (lo + i), by simp [rangeD, hi], .int _⟩
/-- a list or a tuple, walked -/
def walkLW : D → W (List D)
  | .lst ds => W.ret ds
  | _ => W.fail
def walkTW : D → W (List D)
  | .tup ds => W.ret ds
  | _ => W.fail
theorem li_list {p : Env → W D} (h : LE Ξ H0 O X e p) (hK : X.K = Ξ.K) : LI Ξ H0 O X tg e fun env => (p env).bind walkLW :=
  wkI (pi_list h) fun σ H R ⟨S, A, G, env, E, hA, r, q⟩ => ⟨S, A, G, env, E, hA, r, (p env).mono (fun d k v H' g r' hv => by
    cases d with
    | lst ds =>
      have hv' := hv
      obtain ⟨b, xs, rfl, h1, h2⟩ := hv'.lstE
      exact ⟨b, rfl, ⟨xs, SqL.of (ms_sub _ _ h1)⟩, k _ H' [(.ref b, .lst ds)] g r' (fun x hx => by rw [List.mem_singleton.mp hx]; exact hv) (wk_list hK)⟩
    | _ => exact k.elim) (fun _ z => z) q⟩
theorem li_tup {p : Env → W D} (h : LE Ξ H0 O X e p) (hK : X.K = Ξ.K) : LI Ξ H0 O X tg e fun env => (p env).bind walkTW :=
  wkI (pi_tup h) fun σ H R ⟨S, A, G, env, E, hA, r, q⟩ => ⟨S, A, G, env, E, hA, r, (p env).mono (fun d k v H' g r' hv => by
    cases d with
    | tup ds =>
      have hv' := hv
      obtain ⟨b, xs, rfl, h1, h2⟩ := hv'.tupE
      exact ⟨b, rfl, ⟨xs, by rw [hK]; exact sqT_same ms_sub h1⟩, k _ H' [(.ref b, .tup ds)] g r' (fun x hx => by rw [List.mem_singleton.mp hx]; exact hv) (wk_tup hK)⟩
    | _ => exact k.elim) (fun _ z => z) q⟩
def range1W : List D → W (List D)
  | [.int n] => (W.want (-(2 ^ 62) ≤ n ∧ n < 2 ^ 62)).bind fun _ => W.ret (rangeD 0 n.toNat)
  | _ => W.fail
theorem li_range {a : Expr} {p : Env → W (List D)} {pp pos : Pos} (hg : Gl X "range") (hm : X.mg "range" = none) (ha : LA Ξ H0 O X [a] p) (hs : starEach [a] X.env = [(false, eval a X.env)] := by rfl) :
    LI Ξ H0 O X tg (.Call (.Name "range" pp) [a] [] pos) fun env => (p env).bind range1W :=
  wkI (pi_range1 hg hm ha hs) fun σ H R ⟨S, A, G, env, E, hA, r, q⟩ => ⟨S, A, G, env, E, hA, r, (p env).mono (fun ds k vs H' g r' hv => by
    match ds, k, hv with
    | [.int n], k, .cons (.int _) .nil => exact ⟨n, rfl, k.1.1, k.1.2, k.2 _ H' [] g r' (fun _ hx => (nomatch hx)) wk_range⟩) (fun _ z => z) q⟩
end
/-! ### comprehensions -/
def lcW (g : D → Env → W Env) (t : Env → W Bool) (el : Env → W D) (env : Env) : List D → List D → W (List D)
  | [], acc => W.ret acc
  | d :: ds, acc => (W.calm (g d env)).bind fun env' => (W.calm (t env')).bind fun b => W.ite b
    ((W.calm (el env')).bind fun y => (W.want (acc.length < sizeLine)).bind fun _ => lcW g t el env ds (acc ++ [y])) (lcW g t el env ds acc)
/-- the new list -/
def liN (Ξ : Ctx) (H0 : Hp) (O : List Nat) (p : Env → W D) : TE := fun σ H Q => ∃ S A G env E, A.map (·.1) = O ∧ Rel Ξ H0 S A G σ H env ∧
  (p env).wp (fun d => ∀ (l : Addr) H', Gr Ξ H H' → Ξ.FI H' → H l = none → Ow Ξ (ms (l :: (S ++ A.map (·.2))) H') (H' l) d → Q (.ref l) H') E
section
variable {X : Cx} {Ξ : Ctx} {H0 : Hp} {O : List Nat}
theorem wipe_eq {σ σ' : L2.St} : ∀ {vs : List Nat}, σ'.length = σ.length → (∀ j, j ∉ vs → σ'[j]? = σ[j]?) → wipe σ' vs = wipe σ vs := by
  intro vs hl h
  refine List.ext_getElem? fun j => ?_
  by_cases z : j ∈ vs
  · by_cases q : j < σ.length
    · have key : ∀ τ : L2.St, τ.length = σ.length → (wipe τ vs)[j]? = some none := fun τ ht => by
        cases e : (wipe τ vs)[j]? with
        | none =>
          have := List.getElem?_eq_none_iff.mp e
          rw [wipe_length] at this
          omega
        | some o =>
          cases o with
          | none => rfl
          | some x => exact absurd z (wipe_some e).2
      rw [key σ' hl, key σ rfl]
    · rw [List.getElem?_eq_none (by rw [wipe_length]; omega), List.getElem?_eq_none (by rw [wipe_length]; omega)]
  · rw [wipe_out z, wipe_out z]
    exact h j z
theorem wipe_wipe {σ : L2.St} {vs : List Nat} : wipe (wipe σ vs) vs = wipe σ vs := wipe_eq (wipe_length _ _) fun j hj => wipe_out hj
/-- frozen as it is made -/
theorem le_new {e : Expr} {p : Env → W D} (h : PE X e (liN Ξ H0 O p)) : LE Ξ H0 O X e p := wkE h fun σ H Q ⟨S, A, G, env, E, hA, r, q⟩ =>
  ⟨S, A, G, env, E, hA, r, (p env).mono (fun d k l H' g f nl ho => by
    refine k (.ref l) H' g (r.grow g f) ?_
    have nM := r.muA.out nl
    generalize hq : H' l = o at ho
    cases ho with
    | lst ho => exact .lst (ms_at hq nM) (ho.same (ms_mono fun b hb => List.mem_cons_of_mem _ hb))) (fun _ z => z) q⟩
theorem lc_reads {wi : TI} {g : TG} {tt : TT} {te : TE} {vs : List Nat} {p : Env → W (List D)} {gW : D → Env → W Env} {tW : Env → W Bool} {eW : Env → W D} (hvs : ∀ i ∈ vs, i ∉ O)
    (hi : ∀ σ H R, liI Ξ H0 O p σ H R → wi σ H R) (hg : ∀ v σ H Q, liG Ξ H0 O vs gW v σ H Q → g v σ H Q) (ht : ∀ σ H Q, liT Ξ H0 O tW σ H Q → tt σ H Q) (he : ∀ σ H Q, liE Ξ H0 O eW σ H Q → te σ H Q) :
    ∀ σ H Q, liN Ξ H0 O (fun env => (p env).bind fun ds => (lcW gW tW eW (wipeE env vs) ds []).bind fun l => W.ret (.lst l)) σ H Q → tLc wi g tt te vs σ H Q := by
  rintro σ H Q ⟨S, A, G, env, E, hA, r, q⟩
  refine hi σ H _ ⟨S, A, G, env, E, hA, r, (p env).mono (fun ds k J H1 gh g1 r1 hgh w D nD => ?_) (fun _ z => z) q⟩
  have nDM := r1.muA.out nD
  have nDf : D ∉ Ξ.ff := ff_out r1.fi nD
  have hwp : ∀ i ∈ vs, i ∉ A.map (·.1) := fun i hi => by rw [hA]; exact hvs i hi
  -- the state of the turns
  let Pv : Nat → Hp → Prop := fun i H2 => ∃ us acc, Gr Ξ H1 H2 ∧ Rel Ξ H0 (D :: S) A (gh ++ G) σ H2 env ∧ H2 D = some (.lst us) ∧ RpAll Ξ (ms ((D :: S) ++ A.map (·.2)) H2) us acc ∧
    (lcW gW tW eW (wipeE env vs) (ds.drop i) acc).wp (fun l => ∀ (l' : Addr) H', Gr Ξ H H' → Ξ.FI H' → H l' = none → Ow Ξ (ms (l' :: (S ++ A.map (·.2))) H') (H' l') (.lst l) → Q (.ref l') H') E
  have hcons : ∀ {H2 : Hp}, ms (D :: (S ++ A.map (·.2))) H2 = ms ((D :: S) ++ A.map (·.2)) H2 := rfl
  have nDH : H D = none := by
    cases q : H D with
    | none => rfl
    | some o =>
      have := g1 D o nDf q
      rw [nD] at this
      cases this
  refine ⟨fun i m H2 => m = ds.length - i ∧ i ≤ ds.length ∧ Pv i H2, ⟨ds.length, rfl, Nat.zero_le _, [], [], ?_⟩, ?_⟩
  · refine ⟨Gr.of (same_new (Same.refl H1) nD), (r1.ghost hgh).mask nD trivial, upd_same, .nil, k⟩
  · rintro i m H2 ⟨rfl, hi2, us, acc, g2, r2, eD, ha, k2⟩
    have gh2 : ∀ x ∈ gh, Rp Ξ (ms ((D :: S) ++ A.map (·.2)) H2) x.1 x.2 := fun x hx => r2.gh x (List.mem_append_left _ hx)
    by_cases hlt : i < ds.length
    · refine .inr ⟨w.goes _ H2 i r2.muA gh2 hlt, Pv (i + 1), fun H' p' => ⟨ds.length - (i + 1), by omega, rfl, hlt, p'⟩, fun x H3 y => ?_⟩
      obtain ⟨s3, d, hd, rx⟩ := w.yields _ H2 i x H3 r2.muA gh2 hlt y
      have r3 := r2.same s3
      have eD3 := s3 _ _ eD
      have ha3 := ha.same ((Gr.of s3 : Gr Ξ _ _).ms r2.ffM)
      rw [List.drop_eq_getElem_cons hlt] at k2
      have ed : ds[i] = d := by
        rw [List.getElem?_eq_getElem hlt] at hd
        exact Option.some.inj hd
      rw [ed] at k2
      refine hg x _ H3 _ ⟨D :: S, A, gh ++ G, wipeE env vs, d, fun _ => False, hA, r3.wipe hwp, rx, W.mono _ (fun env' k3 σ' l' k' r4 => ?_) (fun _ z => z) k2⟩
      refine ⟨(wipe_eq l' k').trans wipe_wipe, ht σ' H3 _ ⟨D :: S, A, gh ++ G, env', fun _ => False, hA, r4, W.mono _ (fun b k4 H4 g4 r5 => ?_) (fun _ z => z) k3⟩⟩
      have back : ∀ {H5 : Hp}, Rel Ξ H0 (D :: S) A (gh ++ G) σ' H5 env' → Gr Ξ H3 H5 → Rel Ξ H0 (D :: S) A (gh ++ G) σ H5 env := fun {H5} rr gg => r3.grow gg rr.fi
      have eD4 := g4 _ _ nDf eD3
      have ha4 := ha3.same (g4.ms r3.ffM)
      cases b with
      | false => exact iteF ⟨us, acc, (g2.trans (Gr.of s3)).trans g4, back r5 g4, eD4, ha4, k4⟩
      | true =>
        refine iteT (he σ' H4 _ ⟨D :: S, A, gh ++ G, env', fun _ => False, hA, r5, W.mono _ (fun y k5 v H5 g5 r6 hv => ?_) (fun _ z => z) k4⟩)
        have eD5 := g5 _ _ nDf eD4
        have ha5 := ha4.same (g5.ms r5.ffM)
        have r7 := back r6 (g4.trans g5)
        have hD : D ∈ (D :: S) ++ A.map (·.2) := List.mem_cons_self
        refine ⟨us, eD5, by rw [ha5.len]; exact k5.1, us ++ [v], acc ++ [y], fun b o n e => ?_, ?_, upd_same, ?_, k5.2⟩
        · rw [upd_ne (ne_of_none e nD)]
          exact ((g2.trans (Gr.of s3)).trans (g4.trans g5)) b o n e
        · refine ⟨r7.len, fun j z h n => ?_, fun j a h => ?_, r7.old, r7.nd, r7.ndk, fun x hx => ?_, r7.mu.upd trivial, FI_upd r7.fi nDf, r7.ffs, fun b o n e => ?_⟩
          · rw [ms_upd hD]
            exact r7.fr j z h n
          · have na : a ≠ D := fun z => (r7.old j a h).2 (by rw [z]; exact List.mem_cons_self)
            rw [ms_upd hD, upd_ne na]
            exact r7.ow j a h
          · rw [ms_upd hD]
            exact r7.gh x hx
          · have nb : b ≠ D := fun z => by
              rw [z] at e
              have := r1.gr D o (by rw [← z]; exact n) e
              rw [nD] at this
              cases this
            rw [upd_ne nb]
            exact r7.gr b o n e
        · rw [ms_upd hD]
          exact ha5.snoc hv
    · have e : i = ds.length := by omega
      subst e
      refine .inl ⟨w.stops _ H2 r2.muA gh2, ?_⟩
      rw [List.drop_length] at k2
      refine k2 D H2 (g1.trans g2) r2.fi nDH ?_
      rw [eD]
      exact .lst ha
end
end LP
namespace LP
open PySem PySem.Spec PyProof.Rows L2 PK
/-! ### statements -/
inductive Fl where
  | nx (e : Env)
  | rt (d : D)
  | bk (e : Env)
  | ct (e : Env)
/-- what is wanted behind -/
def FQ (Ξ : Ctx) (H0 : Hp) (S : List Addr) (G : List (V × D)) (O' Ob : List Nat) (De : Ends) : Fl → Prop
  | .nx env => ∀ A σ H, A.map (·.1) = O' → Rel Ξ H0 S A G σ H env → De.nx σ H
  | .rt d => ∀ v H, Gr Ξ H0 H → Ξ.FI H → (∀ x ∈ G, Rp Ξ (ms S H) x.1 x.2) → Rp Ξ (ms S H) v d → De.rt v H
  | .bk env => ∀ A σ H, A.map (·.1) = Ob → Rel Ξ H0 S A G σ H env → De.bk σ H
  | .ct env => ∀ A σ H, A.map (·.1) = Ob → Rel Ξ H0 S A G σ H env → De.ct σ H
def liS (Ξ : Ctx) (H0 : Hp) (O O' Ob : List Nat) (p : Env → W Fl) : TS := fun De σ H => ∃ S A G env E, A.map (·.1) = O ∧ Rel Ξ H0 S A G σ H env ∧ (p env).wp (FQ Ξ H0 S G O' Ob De) E
def thenW (m : W Fl) (q : Env → W Fl) : W Fl := m.bind fun f => match f with
  | .nx e => q e
  | f => W.ret f
section
variable {X : Cx} {Ξ : Ctx} {H0 : Hp} {O O1 O2 O' Ob : List Nat} {st : Stmt} {sts a b : List Stmt} {e c : Expr} {pos : Pos} {p q : Env → W Fl}
abbrev LS (Ξ : Ctx) (H0 : Hp) (O O' Ob : List Nat) (X : Cx) (st : Stmt) (p : Env → W Fl) : Prop := PS X st (liS Ξ H0 O O' Ob p)
abbrev LSs (Ξ : Ctx) (H0 : Hp) (O O' Ob : List Nat) (X : Cx) (st : List Stmt) (p : Env → W Fl) : Prop := PSs X st (liS Ξ H0 O O' Ob p)
theorem keys_filter {A : List (Nat × Addr)} {O1 O2 : List Nat} (h : A.map (·.1) = O1) (hs : O1.filter (fun i => decide (i ∈ O2)) = O2) : (A.filter fun x => decide (x.1 ∈ O2)).map (·.1) = O2 := by
  have e : (A.filter fun x => decide (x.1 ∈ O2)).map (·.1) = (A.map (·.1)).filter fun i => decide (i ∈ O2) := by
    rw [List.filter_map]
    rfl
  rw [e, h, hs]
theorem lss_nil : LSs Ξ H0 O O Ob X [] fun env => W.ret (.nx env) := wkSs pss_nil fun De σ H ⟨S, A, G, env, E, hA, r, k⟩ => k A σ H hA r
theorem lss_cons (h1 : LS Ξ H0 O O1 Ob X st p) (h2 : LSs Ξ H0 O2 O' Ob X sts q) (hs : O1.filter (fun i => decide (i ∈ O2)) = O2 := by decide) : LSs Ξ H0 O O' Ob X (st :: sts) fun env => thenW (p env) q :=
  wkSs (pss_cons h1 h2) fun De σ H ⟨S, A, G, env, E, hA, r, k⟩ => ⟨S, A, G, env, E, hA, r, (p env).mono (fun f k => by
    cases f with
    | nx env' => exact fun A' σ' H' hA' r' => ⟨S, _, G, env', E, keys_filter hA' hs, r'.sub fun i => decide (i ∈ O2), k⟩
    | rt d => exact k
    | bk env' => exact k
    | ct env' => exact k) (fun _ z => z) k⟩
theorem lss_one (h1 : LS Ξ H0 O O' Ob X st p) : LSs Ξ H0 O O' Ob X [st] p := pss_one h1
theorem ls_ret {pe : Env → W D} (h : LE Ξ H0 O X e pe) : LS Ξ H0 O O' Ob X (.Return (some e) pos) fun env => (pe env).bind fun d => W.ret (.rt d) :=
  wkS (ps_ret h) fun De σ H ⟨S, A, G, env, E, hA, r, k⟩ => ⟨S, A, G, env, E, hA, r, (pe env).mono (fun d k v H' g r' hv => k v H' r'.gr r'.fi (fun x hx => (r'.gh x hx).same (ms_mono fun b hb => List.mem_append_left _ hb)) (hv.same (ms_mono fun b hb => List.mem_append_left _ hb))) (fun _ z => z) k⟩
theorem ls_if {pt : Env → W Bool} (hc : LT Ξ H0 O X c pt) (ha : LSs Ξ H0 O O' Ob X a p) (hb : LSs Ξ H0 O O' Ob X b q) : LS Ξ H0 O O' Ob X (.If c a b pos) fun env => (pt env).bind fun k => W.ite k (p env) (q env) :=
  wkS (ps_if hc ha hb) fun De σ H ⟨S, A, G, env, E, hA, r, k⟩ => ⟨S, A, G, env, E, hA, r, (pt env).mono (fun b k H' g r' => by
    cases b with
    | true => exact iteT ⟨S, A, G, env, E, hA, r', k⟩
    | false => exact iteF ⟨S, A, G, env, E, hA, r', k⟩) (fun _ z => z) k⟩
theorem ls_expr {pe : Env → W D} (h : LE Ξ H0 O X e pe) (hs : swapsWith e none pos.line X.env = pure false := by rfl) : LS Ξ H0 O O Ob X (.Expr e pos) fun env => (pe env).bind fun _ => W.ret (.nx env) :=
  wkS (ps_expr h hs) fun De σ H ⟨S, A, G, env, E, hA, r, k⟩ => ⟨S, A, G, env, E, hA, r, (pe env).mono (fun d k v H' g r' hv => k A σ H' hA r') (fun _ z => z) k⟩
/-- x = e -/
theorem asg_reads {te : TE} {pe : Env → W D} {i : Nat} (hO : O.filter (fun j => decide (j ∈ O')) = O') (hi : i ∉ O') (h : ∀ σ H Q, liE Ξ H0 O pe σ H Q → te σ H Q) :
    ∀ De σ H, liS Ξ H0 O O' Ob (fun env => (pe env).bind fun d => W.ret (.nx (env.set i (some d)))) De σ H → tAsg te (gName i) De σ H := by
  rintro De σ H ⟨S, A, G, env, E, hA, r, k⟩
  refine h σ H _ ⟨S, A, G, env, E, hA, r, (pe env).mono (fun d k v H' g r' hv => ?_) (fun _ z => z) k⟩
  refine k _ _ H' (keys_filter hA hO) ((r'.sub fun j => decide (j ∈ O')).set (fun a ha => hi ?_) (hv.same (ms_mono fun b hb => ?_)))
  · exact of_decide_eq_true (List.mem_filter.mp ha).2
  · rcases List.mem_append.mp hb with hb | hb
    · exact List.mem_append_left _ hb
    · obtain ⟨x, hx, rfl⟩ := List.mem_map.mp hb
      exact List.mem_append_right _ (List.mem_map.mpr ⟨x, (List.mem_filter.mp hx).1, rfl⟩)
theorem ls_set {pe : Env → W D} {i : Nat} {x : Str} {pos' : Pos} (hN : X.N.Nodup) (hi : X.N[i]? = some x) (hx : Loc X.env.scope x) (he : LE Ξ H0 O X e pe) (hO : O.filter (fun j => decide (j ∈ O')) = O' := by decide) (hi2 : i ∉ O' := by decide)
    (hs : swapsWith e (some (.Name x pos')) pos.line X.env = pure false := by rfl) (hf : X.fn x = true ∨ X.env.scope.names.lookup x = some .local := by first | exact .inl rfl | exact .inr rfl | assumption) :
    LS Ξ H0 O O' Ob X (.Assign [.Name x pos'] e pos) fun env => (pe env).bind fun d => W.ret (.nx (env.set i (some d))) :=
  wkS (ps_set hN hi hx he hs hf) (asg_reads hO hi2 fun _ _ _ h => h)
/-- x = a new list, owned -/
theorem own_reads {te : TE} {pe : Env → W D} {i : Nat} (hO : O.filter (fun j => decide (j ∈ O')) = O') (hi : i ∉ O') (h : ∀ σ H Q, liN Ξ H0 O pe σ H Q → te σ H Q) :
    ∀ De σ H, liS Ξ H0 O (i :: O') Ob (fun env => (pe env).bind fun d => (W.want (i < env.length)).bind fun _ => W.ret (.nx (env.set i (some d)))) De σ H → tAsg te (gName i) De σ H := by
  rintro De σ H ⟨S, A, G, env, E, hA, r, k⟩
  refine h σ H _ ⟨S, A, G, env, E, hA, r, (pe env).mono (fun d k l H' g f nl ho => ?_) (fun _ z => z) k⟩
  refine k.2 _ _ H' (by rw [List.map_cons, keys_filter hA hO]) ((r.sub fun j => decide (j ∈ O')).own (fun a ha => hi ?_) k.1 nl g f (ho.same (ms_mono fun b hb => ?_)))
  · exact of_decide_eq_true (List.mem_filter.mp ha).2
  · rcases List.mem_cons.mp hb with hb | hb
    · rw [hb]
      exact List.mem_cons_self
    · rcases List.mem_append.mp hb with hb | hb
      · exact List.mem_cons_of_mem _ (List.mem_append_left _ hb)
      · obtain ⟨x, hx, rfl⟩ := List.mem_map.mp hb
        exact List.mem_cons_of_mem _ (List.mem_append_right _ (List.mem_map.mpr ⟨x, (List.mem_filter.mp hx).1, rfl⟩))
theorem ls_own {pe : Env → W D} {i : Nat} {x : Str} {pos' : Pos} (hN : X.N.Nodup) (hi : X.N[i]? = some x) (hx : Loc X.env.scope x) (he : PE X e (liN Ξ H0 O pe)) (hO : O.filter (fun j => decide (j ∈ O')) = O' := by decide) (hi2 : i ∉ O' := by decide)
    (hs : swapsWith e (some (.Name x pos')) pos.line X.env = pure false := by rfl) (hf : X.fn x = true ∨ X.env.scope.names.lookup x = some .local := by first | exact .inl rfl | exact .inr rfl | assumption) :
    LS Ξ H0 O (i :: O') Ob X (.Assign [.Name x pos'] e pos) fun env => (pe env).bind fun d => (W.want (i < env.length)).bind fun _ => W.ret (.nx (env.set i (some d))) :=
  wkS (ps_set hN hi hx he hs hf) (own_reads hO hi2 fun _ _ _ h => h)
/-! ### loops -/
def forW (g : D → Env → W Env) (p : Env → W Fl) : List D → Env → W Fl
  | [], env => W.ret (.nx env)
  | d :: ds, env => (g d env).bind fun env1 => (p env1).bind fun f => match f with
    | .nx e => forW g p ds e
    | .ct e => forW g p ds e
    | .bk e => W.ret (.nx e)
    | .rt d => W.ret (.rt d)
theorem ls_for {tg iter : Expr} {body : List Stmt} {pi : Env → W (List D)} {gW : D → Env → W Env} {vs : List Nat} (hp : PassesOwn (model X.prog X.w) X.A X.env X.xe) (hc : X.calm = true) (hi : LI Ξ H0 O X tg iter pi) (hg : LG Ξ H0 O vs X tg gW) (hb : LSs Ξ H0 O O O X body p)
    (hs : ∀ x, foldedSetIterable iter X.env x = pure x := by intro _; rfl) : LS Ξ H0 O O Ob X (.For tg iter body [] pos) fun env => (pi env).bind fun ds => forW gW p ds env := by
  refine wkS (ps_for hp hc hi hg hb hs) fun De σ H ⟨S, A, G, env, E, hA, r, k⟩ => ⟨S, A, G, env, E, hA, r, (pi env).mono (fun ds k J H1 gh g1 r1 hgh w => ?_) (fun _ z => z) k⟩
  refine ⟨fun i m σ' H' => m = ds.length - i ∧ i ≤ ds.length ∧ ∃ A' env', A'.map (·.1) = O ∧ Rel Ξ H0 S A' (gh ++ G) σ' H' env' ∧ (forW gW p (ds.drop i) env').wp (FQ Ξ H0 S G O Ob De) E, ⟨ds.length, rfl, Nat.zero_le _, A, env, hA, r1.ghost hgh, k⟩, ?_⟩
  rintro i m σ2 H2 ⟨rfl, hi2, A2, env2, hA2, r2, k2⟩
  have gh2 : ∀ x ∈ gh, Rp Ξ (ms (S ++ A2.map (·.2)) H2) x.1 x.2 := fun x hx => r2.gh x (List.mem_append_left _ hx)
  by_cases hlt : i < ds.length
  · refine .inr ⟨w.goes _ H2 i r2.muA gh2 hlt, fun σ' H' => ∃ A' env', A'.map (·.1) = O ∧ Rel Ξ H0 S A' (gh ++ G) σ' H' env' ∧ (forW gW p (ds.drop (i + 1)) env').wp (FQ Ξ H0 S G O Ob De) E, fun σ' H' p' => ⟨ds.length - (i + 1), by omega, rfl, hlt, p'⟩, fun x H3 y => ?_⟩
    obtain ⟨s3, d, hd, rx⟩ := w.yields _ H2 i x H3 r2.muA gh2 hlt y
    rw [List.drop_eq_getElem_cons hlt] at k2
    have ed : ds[i] = d := by
      rw [List.getElem?_eq_getElem hlt] at hd
      exact Option.some.inj hd
    rw [ed] at k2
    refine ⟨S, A2, gh ++ G, env2, d, E, hA2, r2.same s3, rx, W.mono _ (fun env3 k3 σ3 _ _ r3 => ?_) (fun _ z => z) k2⟩
    refine ⟨S, A2, gh ++ G, env3, E, hA2, r3, (p env3).mono (fun f k4 => ?_) (fun _ z => z) k3⟩
    cases f with
    | nx e => exact fun A' σ' H' hA' r' => ⟨A', e, hA', r', k4⟩
    | ct e => exact fun A' σ' H' hA' r' => ⟨A', e, hA', r', k4⟩
    | bk e => exact fun A' σ' H' hA' r' => k4 A' σ' H' hA' r'.unghost
    | rt d => exact fun v H g f gg hv => k4 v H g f (fun x hx => gg x (List.mem_append_right _ hx)) hv
  · have e : i = ds.length := by omega
    subst e
    rw [List.drop_length] at k2
    exact .inl ⟨w.stops _ H2 r2.muA gh2, k2 A2 σ2 H2 hA2 r2.unghost⟩
def whileN (t : Env → W Bool) (p : Env → W Fl) : Nat → Env → W Fl
  | 0, _ => W.fail
  | n + 1, env => (t env).bind fun b => W.ite b ((p env).bind fun f => match f with
    | .nx e => whileN t p n e
    | .ct e => whileN t p n e
    | .bk e => W.ret (.nx e)
    | .rt d => W.ret (.rt d)) (W.ret (.nx env))
def whileW (t : Env → W Bool) (p : Env → W Fl) (env : Env) : W Fl := ⟨fun Q E => ∃ n, (whileN t p n env).wp Q E, fun h1 h2 ⟨n, q⟩ => ⟨n, W.mono _ h1 h2 q⟩⟩
theorem ls_while {body : List Stmt} {pt : Env → W Bool} (hp : PassesOwn (model X.prog X.w) X.A X.env X.xe) (hc : LT Ξ H0 O X c pt) (hb : LSs Ξ H0 O O O X body p) : LS Ξ H0 O O Ob X (.While c body [] pos) fun env => whileW pt p env := by
  refine wkS (ps_while hp hc hb) fun De σ H ⟨S, A, G, env, E, hA, r, n, k⟩ => ?_
  refine ⟨fun m σ' H' => ∃ A' env', A'.map (·.1) = O ∧ Rel Ξ H0 S A' G σ' H' env' ∧ (whileN pt p m env').wp (FQ Ξ H0 S G O Ob De) E, ⟨n, A, env, hA, r, k⟩, ?_⟩
  rintro m σ2 H2 ⟨A2, env2, hA2, r2, k2⟩
  cases m with
  | zero => exact k2.elim
  | succ m =>
    refine ⟨S, A2, G, env2, E, hA2, r2, (pt env2).mono (fun b k3 H3 g3 r3 => ?_) (fun _ z => z) k2⟩
    cases b with
    | false => exact iteF (k3 A2 σ2 H3 hA2 r3)
    | true =>
      refine iteT ⟨fun σ' H' => ∃ A' env', A'.map (·.1) = O ∧ Rel Ξ H0 S A' G σ' H' env' ∧ (whileN pt p m env').wp (FQ Ξ H0 S G O Ob De) E, fun σ' H' p' => ⟨m, by omega, p'⟩, ?_⟩
      refine ⟨S, A2, G, env2, E, hA2, r3, (p env2).mono (fun f k4 => ?_) (fun _ z => z) k3⟩
      cases f with
      | nx e => exact fun A' σ' H' hA' r' => ⟨A', e, hA', r', k4⟩
      | ct e => exact fun A' σ' H' hA' r' => ⟨A', e, hA', r', k4⟩
      | bk e => exact fun A' σ' H' hA' r' => k4 A' σ' H' hA' r'
      | rt d => exact k4
end
/-! ### defs -/
/-- how an error stands -/
def ExAt (Ξ : Ctx) (S : List Addr) (H : Hp) (C d : Addr) (ex : Ex) : Prop := Ξ.cl ex.c = some C ∧ ∃ xs, H d = some (.xd ((Ξ.fl ex.c).zip xs)) ∧ RpAll Ξ (ms S H) xs ex.l
/-- a def by value: p of what is handed in -/
def liF (Γ : Sig) (p : List D → W D) : Sp := fun vs H Q E => ∃ (fd : Fd) (S : List Addr) (ds : List D) (EE : Ex → Prop),
  Mu S H ∧ (∀ b ∈ (Ctx.mk Γ fd).ff, b ∈ S) ∧ (Ctx.mk Γ fd).FI H ∧ RpAll (Ctx.mk Γ fd) (ms S H) vs ds ∧
  (∀ ex, EE ex → ∀ C d H', Gr (Ctx.mk Γ fd) H H' → (Ctx.mk Γ fd).FI H' → H d = none → ExAt (Ctx.mk Γ fd) S H' C d ex → E (.ref C) (some d) H') ∧
  (p ds).wp (fun d => ∀ v H', Gr (Ctx.mk Γ fd) H H' → (Ctx.mk Γ fd).FI H' → Rp (Ctx.mk Γ fd) (ms S H') v d → Q v H') EE
def startE (n : Nat) (ds : List D) : Env := ds.map some ++ List.replicate (n - ds.length) none
/-- what a body gives -/
def endW (m : W Fl) : W D := m.bind fun f => match f with
  | .rt d => W.ret d
  | .nx _ => W.ret .non
  | _ => W.fail
theorem Rel.start {Ξ : Ctx} {H : Hp} {S : List Addr} {vs : List V} {ds : List D} {N : List Str} (mu : Mu S H) (hf : ∀ b ∈ Ξ.ff, b ∈ S) (fi : Ξ.FI H) (h : RpAll Ξ (ms S H) vs ds) : Rel Ξ H S [] [] (L2.start N vs) H (startE N.length ds) := by
  have em : S ++ ([] : List (Nat × Addr)).map (·.2) = S := List.append_nil S
  refine ⟨?_, fun i d hd _ => ?_, fun i a h => (nomatch h), fun i a h => (nomatch h), List.nodup_nil, List.nodup_nil, fun x hx => (nomatch hx), mu, fi, hf, Gr.refl H⟩
  · unfold L2.start startE
    simp [h.len]
  · unfold startE at hd
    have hl : i < ds.length := by
      rcases Nat.lt_or_ge i ds.length with z | z
      · exact z
      · rw [List.getElem?_append_right (by rw [List.length_map]; exact z)] at hd
        have := List.mem_of_getElem? hd
        rw [List.mem_replicate] at this
        cases this.2
    rw [List.getElem?_append_left (by rw [List.length_map]; exact hl), List.getElem?_map] at hd
    obtain ⟨d', e1, e2⟩ := Option.map_eq_some_iff.mp hd
    cases e2
    obtain ⟨v, h1, h2⟩ := h.get e1
    refine ⟨v, ?_, by rw [em]; exact h2⟩
    unfold L2.start
    rw [List.getElem?_append_left (by rw [List.length_map, h.len]; exact hl), List.getElem?_map, h1]
    rfl
section
variable {Γ : Sig} {mg : Str → Option Value} {base : Heap}
/-- THE RULE for a def by value -/
theorem ok_by {x qual : Str} {st : Stmt} {f : Addr} {fd : FuncData} {N ps : List Str} {k : Nat} {p : List D → W D} {pb : Env → W Fl} (F : Fun Γ.K x qual st f fd) (Sc : FnScope N ps (defScope st))
    (hbody : ∀ (fe : Fd) (cdv : Value) (A : Around) (outer : List PySem.Env) (s : Shared) (H : Hp) (E : XK), Room k (A.deeper (envOfC qual (defScope st) s.heap.objs.size f cdv)) →
      LSs ⟨Γ, fe⟩ H [] [] [] (cxOf CX0 Γ.P Γ.w Γ.K mg base N qual (defScope st) f cdv A outer s H E).nox (defBody st) pb)
    (hp : ∀ ds Q E, (p ds).wp Q E → ds.length = ps.length ∧ (endW (pb (startE N.length ds))).wp Q E) : FnOk Γ.P Γ.w Γ.K mg base CX0 (k + 1) f fd ps (liF Γ p) := by
  refine F.ok Sc (fun vs H Q E ⟨fe, S, ds, EE, mu, hf, fi, hv, hE, q⟩ => ?_) (fun cdv A outer s H vs Q E hr ⟨fe, S, ds, EE, mu, hf, fi, hv, hE, q⟩ => ?_)
  · rw [hv.len]
    exact (hp ds _ _ q).1
  · refine ⟨_, hbody fe cdv A outer s H E hr, S, [], [], startE N.length ds, EE, rfl, Rel.start mu hf fi hv, ?_⟩
    refine W.mono _ (fun fl' k => ?_) (fun _ z => z) (hp ds _ _ q).2
    cases fl' with
    | nx e => exact fun A' σ' H' hA' r' => k .non H' r'.gr r'.fi .non
    | rt d => exact fun v H' g f _ hv => k v H' g f hv
    | bk e => exact k.elim
    | ct e => exact k.elim
end
/-! ### a def called -/
section
variable {X : Cx} {Γ : Sig} {fe : Fd} {H0 : Hp} {O : List Nat} {k : Nat} {f : Addr} {fd : FuncData} {ps : List Str} {e : Expr} {es : List Expr} {x : Str} {pp pos : Pos} {p : List D → W D} {pa : Env → W (List D)}
theorem call_reads {ta : TA} (ha : ∀ σ H Q, liA ⟨Γ, fe⟩ H0 O pa σ H Q → ta σ H Q) :
    ∀ σ H Q, liE ⟨Γ, fe⟩ H0 O (fun env => (pa env).bind p) σ H Q → ta σ H fun vs H1 => liF Γ p (vs ++ []) H1 Q fun _ _ _ => True := by
  rintro σ H Q ⟨S, A, G, env, E, hA, r, q⟩
  refine ha σ H _ ⟨S, A, G, env, E, hA, r, (pa env).mono (fun ds k vs H1 g1 r1 hv => ?_) (fun _ z => z) q⟩
  show liF Γ p (vs ++ []) H1 Q _
  rw [List.append_nil]
  refine ⟨fe, S ++ A.map (·.2), ds, E, r1.muA, r1.ffM, r1.fi, hv, fun _ _ _ _ _ _ _ _ _ => trivial, (p ds).mono (fun d k v H2 g2 f2 hv2 => ?_) (fun _ z => z) k⟩
  exact k v H2 (g1.trans g2) (r1.grow g2 f2) hv2
/-- a def by value that may be called: its name, its place -/
structure CalV (Γ : Sig) (mg : Str → Option Value) (base : Heap) (k : Nat) (x : Str) (f : Addr)
    (fd : FuncData) (ps : List Str) (p : List D → W D) : Prop where
  ok : FnOk Γ.P Γ.w Γ.K mg base CX0 k f fd ps (liF Γ p)
  g : mg x = some (.ref f)
  kp : PySem.W.keepIn Γ.K (.ref f) = true
  b : Binds Γ.K fd ps []
structure CalW (Γ : Sig) (mg : Str → Option Value) (base : Heap) (k : Nat) (x : Str) (f : Addr)
    (fd : FuncData) (ps : List Str) (p : List D → W D) : Prop where
  ok : FnG Γ.P Γ.w Γ.K mg base CX0 k f fd ps (liF Γ p)
  g : mg x = some (.ref f)
  kp : PySem.W.keepIn Γ.K (.ref f) = true
  b : Binds Γ.K fd ps []
theorem le_call {mg : Str → Option Value} {base : Heap} (C : CalV Γ mg base k x f fd ps p) (hP : X.prog = Γ.P) (hw : X.w = Γ.w) (hK : X.K = Γ.K) (hmg : X.mg = mg) (hbs : X.base = base) (hr : Room k X.A) (hg : Gl X x) (ha : LA ⟨Γ, fe⟩ H0 O X (e :: es) pa)
    (hdb : (x == ("__debug__" : Str)) = false := by decide) (he : starEach (e :: es) X.env = (false, eval e X.env) :: starEach es X.env := by rfl) (hpl : (backTo pos (starEach es X.env)).any (·.1) = false := by rfl) :
    LE ⟨Γ, fe⟩ H0 O X (.Call (.Name x pp) (e :: es) [] pos) fun env => (pa env).bind p :=
  wkE (pe_call (E := fun _ _ _ => True) (by rw [hP, hw, hK, hmg, hbs]; exact C.ok) hr hg (by rw [hmg]; exact C.g) (by rw [hK]; exact C.kp) (by rw [hK]; exact C.b) .nil pass0 ha hdb he hpl) (call_reads fun _ _ _ h => h)
end
end LP
namespace LP
open PySem PySem.Spec PyProof.Rows L2 PK
theorem OpR.or {X : Cx} {f : Value → Value → Sem Value} {r r' : R2} (h : OpR X f r) (h' : OpR X f r') : OpR X f fun x y H Q => r x y H Q ∨ r' x y H Q := by
  intro pins s σ H x y v u Q I rx ry q
  rcases q with q | q
  · exact h pins s σ H x y v u Q I rx ry q
  · exact h' pins s σ H x y v u Q I rx ry q
theorem CallR.or {X : Cx} {f : Value} {r r' : List V → Hp → VK → Prop} (h : CallR X f r) (h' : CallR X f r') : CallR X f fun xs H Q => r xs H Q ∨ r' xs H Q := by
  intro pins s σ H xs us Q I rx q
  rcases q with q | q
  · exact h pins s σ H xs us Q I rx q
  · exact h' pins s σ H xs us Q I rx q
/-! ### texts that can be -/
theorem strOk_mem {y : Str} : PyData.strOk y = true ↔ ∀ c ∈ y.cps.toList, c < 1114112 := by
  unfold PyData.strOk
  rw [Array.all_eq_true_iff_forall_mem]
  constructor
  · intro h c hc
    exact of_decide_eq_true (h c (by simpa using hc))
  · intro h c hc
    exact decide_eq_true (h c (by simpa using hc))
theorem strOk_app {x y : Str} (hx : PyData.strOk x = true) (hy : PyData.strOk y = true) : PyData.strOk (x ++ y) = true := by
  rw [strOk_mem] at hx hy ⊢
  intro c hc
  have hc : c ∈ x.cps.toList ++ y.cps.toList := by
    have : (x ++ y).cps = x.cps ++ y.cps := rfl
    rw [this] at hc
    simpa using hc
  exact (List.mem_append.mp hc).elim (hx c) (hy c)
theorem strOk_sub {x : Str} {l : List Nat} (hx : PyData.strOk x = true) (h : ∀ c ∈ l, c ∈ x.cps.toList) : PyData.strOk ⟨l.toArray⟩ = true := by
  rw [strOk_mem] at hx ⊢
  intro c hc
  exact hx c (h c (by simpa using hc))
theorem strOk_one {x : Str} {c : Nat} (hx : PyData.strOk x = true) (h : c ∈ x.cps.toList) : PyData.strOk ⟨#[c]⟩ = true := strOk_sub (l := [c]) hx fun d hd => by rw [List.mem_singleton.mp hd]; exact h
section
variable {Ξ : Ctx} {M : List Addr} {H : Hp} {v : V}
theorem Bp.intE {i : Int} (h : Bp Ξ M H v (.int i)) : v = .int i := by
  cases h with
  | rp h => cases h; rfl
theorem Bp.strE {y : Str} (h : Bp Ξ M H v (.str y)) : v = .str y ∧ PyData.strOk y = true := by
  cases h with
  | rp h => cases h; exact ⟨rfl, by assumption⟩
theorem Bp.blE {b : Bool} (h : Bp Ξ M H v (.bl b)) : v = .bl b := by
  cases h with
  | rp h => cases h; rfl
theorem Bp.nonE (h : Bp Ξ M H v .non) : v = .non := by
  cases h with
  | rp h => cases h; rfl
theorem Bp.dp {d : D} (hp : d.plain = true) (h : Bp Ξ M H v d) : Dp Ξ.K H v d.toP := h.full.dp hp
theorem Bp.lay {d : D} (hp : d.plain = true) (h : Bp Ξ M H v d) : d.toP.canLay0 = true := h.full.lay hp
end
/-! ### sums -/
def addW : D → D → W D
  | .int i, .int j => W.ret (.int (i + j))
  | .bl b, .int j => W.ret (.int (b2i b + j))
  | .str a, .str b => (W.want (a.length + b.length ≤ sizeLine)).bind fun _ => W.ret (.str (a ++ b))
  | .tup a, .tup b => (W.want (a.length + b.length ≤ sizeLine)).bind fun _ => W.ret (.tup (a ++ b))
  | .lst a, .lst b => (W.want (a.length + b.length ≤ sizeLine)).bind fun _ => W.ret (.lst (a ++ b))
  | _, _ => W.fail
section
variable {Ξ : Ctx} {H : Hp} {M : List Addr} {d : D}
theorem at_int (i : Int) {Q : VK} (q : ∀ v H', Same H H' → Rp Ξ (ms M H') v (.int i) → Q v H') : Q (.int i) H := q _ H (Same.refl H) (.int i)
theorem at_bl (b : Bool) {Q : VK} (q : ∀ v H', Same H H' → Rp Ξ (ms M H') v (.bl b) → Q v H') : Q (.bl b) H := q _ H (Same.refl H) (.bl b)
theorem at_new {xs : List V} {ds : List D} {p : Addr} {Q : VK} (mu : Mu M H) (hx : RpAll Ξ (ms M H) xs ds) (np : H p = none) (q : ∀ v H', Same H H' → Rp Ξ (ms M H') v (.lst ds) → Q v H') : Q (.ref p) (upd H p (.lst xs)) := by
  have s : Same H (upd H p (.lst xs)) := same_new (Same.refl H) np
  have sm : Same (ms M H) (ms M (upd H p (.lst xs))) := fun b o e => by
    obtain ⟨h1, h2⟩ := ms_some e
    exact ms_at (s _ _ h1) h2
  exact q _ _ s (.lst (ms_at upd_same (mu.out np)) (hx.same sm))
theorem at_newT {xs : List V} {ds : List D} {p : Addr} {Q : VK} (mu : Mu M H) (hx : RpAll Ξ (ms M H) xs ds) (np : H p = none) (q : ∀ v H', Same H H' → Rp Ξ (ms M H') v (.tup ds) → Q v H') : Q (.ref p) (upd H p (.tup xs)) := by
  have s : Same H (upd H p (.tup xs)) := same_new (Same.refl H) np
  have sm : Same (ms M H) (ms M (upd H p (.tup xs))) := fun b o e => by
    obtain ⟨h1, h2⟩ := ms_some e
    exact ms_at (s _ _ h1) h2
  exact q _ _ s (.tup (SqT.of (ms_at upd_same (mu.out np))) (hx.same sm))
theorem same_ms {H H' : Hp} (s : Same H H') : Same (ms M H) (ms M H') := fun b o e => by
  obtain ⟨h1, h2⟩ := ms_some e
  exact ms_at (s _ _ h1) h2
theorem at_tup {xs : List V} {ds : List D} {c : Addr} {H' : Hp} {Q : VK} (mu : Mu M H) (s : Same H H') (hc : SqT Ξ.K H' c xs) (hx : RpAll Ξ (ms M H) xs ds) (q : ∀ v H', Same H H' → Rp Ξ (ms M H') v (.tup ds) → Q v H') : Q (.ref c) H' :=
  q _ _ s (.tup (sqT_mu hc (mu.same s)) (hx.same (same_ms s)))
end
section
variable {X : Cx} {Ξ : Ctx} {H0 : Hp} {O : List Nat} {a b e : Expr} {pos : Pos} {pa pb : Env → W D}
def rAdd (K : PySem.W.Frag) : R2 := fun x y H Q => (((∃ i j, asI x = some i ∧ y = .int j ∧ Q (.int (i + j)) H) ∨ (∃ i j, x = .str i ∧ y = .str j ∧ i.length + j.length ≤ sizeLine ∧ Q (.str (i ++ j)) H)) ∨ rCatB K x y H Q) ∨ rCat x y H Q
theorem add_ok : OpOk Ξ (rAdd Ξ.K) addW := by
  intro M H x y d1 d2 Q E mu hf h1 h2 q
  cases d1 <;> cases d2 <;> try exact q.elim
  · rw [h1.blE, h2.intE]
    exact .inl (.inl (.inl ⟨_, _, rfl, rfl, at_int _ q⟩))
  · rw [h1.intE, h2.intE]
    exact .inl (.inl (.inl ⟨_, _, rfl, rfl, at_int _ q⟩))
  · obtain ⟨rfl, o1⟩ := h1.strE
    obtain ⟨rfl, o2⟩ := h2.strE
    exact .inl (.inl (.inr ⟨_, _, rfl, rfl, q.1, q.2 _ H (Same.refl H) (.str _ (strOk_app o1 o2))⟩))
  · obtain ⟨b1, xs, rfl, t1, a1⟩ := h1.tupE
    obtain ⟨b2, ys, rfl, t2, a2⟩ := h2.tupE
    exact .inl (.inr ⟨b1, b2, xs, ys, rfl, rfl, t1, t2, by rw [a1.len, a2.len]; exact q.1, fun c H' s hc => at_tup mu s hc (a1.app a2) q.2⟩)
  · obtain ⟨b1, xs, rfl, t1, a1⟩ := h1.lstE
    obtain ⟨b2, ys, rfl, t2, a2⟩ := h2.lstE
    exact .inr ⟨b1, b2, xs, ys, rfl, rfl, t1, t2, by rw [a1.len, a2.len]; exact q.1, fun p np => at_new mu (a1.app a2) np q.2⟩
theorem le_add (hK : X.K = Ξ.K) (ha : LB Ξ H0 O X a pa) (hb : LB Ξ H0 O X b pb) : LE Ξ H0 O X (.BinOp a .Add b pos) fun env => (pa env).bind fun x => (pb env).bind fun y => addW x y :=
  le_op (((op_addW.or op_add_str).or (ko_catB Ξ.K hK)).or op_cat) add_ok ha hb
def subW : D → D → W D
  | .int i, .int j => W.ret (.int (i - j))
  | .bl b, .int j => W.ret (.int (b2i b - j))
  | _, _ => W.fail
theorem sub_ok : OpOk Ξ (fun x y H Q => ∃ i j, asI x = some i ∧ y = .int j ∧ Q (.int (i - j)) H) subW := by
  intro M H x y d1 d2 Q E mu hf h1 h2 q
  cases d1 <;> cases d2 <;> try exact q.elim
  · rw [h1.blE, h2.intE]
    exact ⟨_, _, rfl, rfl, at_int _ q⟩
  · rw [h1.intE, h2.intE]
    exact ⟨_, _, rfl, rfl, at_int _ q⟩
theorem le_sub (ha : LB Ξ H0 O X a pa) (hb : LB Ξ H0 O X b pb) : LE Ξ H0 O X (.BinOp a .Sub b pos) fun env => (pa env).bind fun x => (pb env).bind fun y => subW x y := le_op op_subW sub_ok ha hb
def mulW : D → D → W D
  | .int i, .int j => (W.want (CMul i j)).bind fun _ => W.ret (.int (i * j))
  | .tup a, .int k => (W.want (a ≠ [] ∧ 0 ≤ k ∧ k ≤ 1000 ∧ a.length ≤ 1000)).bind fun _ => W.ret (.tup (List.replicate k.toNat a).flatten)
  | .lst a, .int k => (W.want (0 ≤ k ∧ k ≤ 1000 ∧ a.length ≤ 1000)).bind fun _ => W.ret (.lst (List.replicate k.toNat a).flatten)
  | _, _ => W.fail
theorem mul_ok : OpOk Ξ (fun x y H Q => (rI CMul (fun i j => .int (i * j)) x y H Q ∨ rRepA Ξ.K x y H Q) ∨ rRep x y H Q) mulW := by
  intro M H x y d1 d2 Q E mu hf h1 h2 q
  cases d1 <;> cases d2 <;> try exact q.elim
  · rw [h1.intE, h2.intE]
    exact .inl (.inl ⟨_, _, rfl, rfl, q.1, at_int _ q.2⟩)
  · obtain ⟨b1, xs, rfl, t1, a1⟩ := h1.tupE
    rw [h2.intE]
    obtain ⟨⟨n0, k0, k1, l1⟩, q⟩ := q
    have l := a1.len
    refine .inl (.inr ⟨b1, _, xs, rfl, rfl, t1, fun z => n0 (by subst z; exact List.eq_nil_of_length_eq_zero l.symm), k0, k1, by omega, fun e => ?_, fun _ p np => at_newT mu (RpAll.reps a1 _) np q⟩)
    subst e
    have q := q (.ref b1) H (Same.refl H)
    have e1 : (List.replicate (1 : Int).toNat (‹List D› : List D)).flatten = ‹List D› := List.append_nil _
    exact q (.tup (sqT_mu t1 mu) (by
      show RpAll Ξ (ms M H) xs (List.replicate (1 : Int).toNat _).flatten
      rw [show (1 : Int).toNat = 1 from rfl, List.replicate_succ, List.replicate_zero, List.flatten_cons, List.flatten_nil, List.append_nil]
      exact a1))
  · obtain ⟨b1, xs, rfl, t1, a1⟩ := h1.lstE
    rw [h2.intE]
    obtain ⟨⟨k0, k1, l1⟩, q⟩ := q
    have l := a1.len
    have hz : xs.length * (Int.toNat ‹Int›) ≤ sizeLine := by
      have : xs.length * (Int.toNat ‹Int›) ≤ 1000 * 1000 := Nat.mul_le_mul (by omega) (by omega)
      exact Nat.le_trans this (by decide)
    exact .inr ⟨b1, _, xs, rfl, rfl, t1, by omega, by omega, hz, fun p np => at_new mu (RpAll.reps a1 _) np q⟩
theorem le_mul (hK : X.K = Ξ.K) (ha : LB Ξ H0 O X a pa) (hb : LB Ξ H0 O X b pb) : LE Ξ H0 O X (.BinOp a .Mult b pos) fun env => (pa env).bind fun x => (pb env).bind fun y => mulW x y := le_op ((op_mul.or (ko_repA Ξ.K hK)).or op_rep) mul_ok ha hb
def intOp (C : Int → Int → Prop) (g : Int → Int → D) : D → D → W D
  | .int i, .int j => (W.want (C i j)).bind fun _ => W.ret (g i j)
  | _, _ => W.fail
theorem intOp_ok {C : Int → Int → Prop} {g : Int → Int → Int} : OpOk Ξ (rI C fun i j => .int (g i j)) (intOp C fun i j => .int (g i j)) := by
  intro M H x y d1 d2 Q E mu hf h1 h2 q
  cases d1 <;> cases d2 <;> try exact q.elim
  rw [h1.intE, h2.intE]
  exact ⟨_, _, rfl, rfl, q.1, at_int _ q.2⟩
def modW : D → D → W D := intOp (fun _ j => 0 < j) fun i j => .int (i % j)
def fdivW : D → D → W D := intOp CDiv fun i j => .int (i / j)
def powW : D → D → W D := intOp CPow fun i j => .int (i ^ j.toNat)
theorem le_mod (ha : LB Ξ H0 O X a pa) (hb : LB Ξ H0 O X b pb) : LE Ξ H0 O X (.BinOp a .Mod b pos) fun env => (pa env).bind fun x => (pb env).bind fun y => modW x y := le_op op_mod intOp_ok ha hb
theorem le_fdiv (ha : LB Ξ H0 O X a pa) (hb : LB Ξ H0 O X b pb) : LE Ξ H0 O X (.BinOp a .FloorDiv b pos) fun env => (pa env).bind fun x => (pb env).bind fun y => fdivW x y := le_op op_fdiv intOp_ok ha hb
theorem le_pow (ha : LB Ξ H0 O X a pa) (hb : LB Ξ H0 O X b pb) : LE Ξ H0 O X (.BinOp a .Pow b pos) fun env => (pa env).bind fun x => (pb env).bind fun y => powW x y := le_op op_pow intOp_ok ha hb
def negW : D → W D
  | .int i => W.ret (.int (-i))
  | _ => W.fail
/-! ### comparisons -/
def D.eqv (a b : D) : Bool := PyData.eqv a.toP b.toP
/-- data, not too deep -/
def D.sh (d : D) : Prop := d.plain = true ∧ d.toP.depth ≤ 64
def eqW : D → D → W D
  | .txt s, .txt t => W.ret (.bl (decide (s = t)))
  | a, b => (W.want (D.sh a ∧ D.sh b)).bind fun _ => W.ret (.bl (D.eqv a b))
def neW : D → D → W D
  | .txt s, .txt t => W.ret (.bl (!decide (s = t)))
  | a, b => (W.want (D.sh a ∧ D.sh b)).bind fun _ => W.ret (.bl (!D.eqv a b))
theorem Bp.txtE {M : List Addr} {H : Hp} {v : V} {s : Str} (h : Bp Ξ M H v (.txt s)) : v = .str s := by
  cases h with
  | rp h => cases h; rfl
theorem str_dec (s t : Str) : decide (V.str s = V.str t) = decide (s = t) := decide_eq_decide.mpr ⟨fun h => V.str.inj h, fun h => congrArg _ h⟩
theorem eqW_cases {a b : D} {Q : D → Prop} {E : Ex → Prop} (h : (eqW a b).wp Q E) : (∃ s t, a = .txt s ∧ b = .txt t ∧ Q (.bl (decide (s = t)))) ∨ (D.sh a ∧ D.sh b) ∧ Q (.bl (D.eqv a b)) := by
  unfold eqW at h
  split at h
  · exact .inl ⟨_, _, rfl, rfl, h⟩
  · exact .inr h
theorem neW_cases {a b : D} {Q : D → Prop} {E : Ex → Prop} (h : (neW a b).wp Q E) : (∃ s t, a = .txt s ∧ b = .txt t ∧ Q (.bl (!decide (s = t)))) ∨ (D.sh a ∧ D.sh b) ∧ Q (.bl (!D.eqv a b)) := by
  unfold neW at h
  split at h
  · exact .inl ⟨_, _, rfl, rfl, h⟩
  · exact .inr h
theorem Bp.shaped {M : List Addr} {H : Hp} {v : V} {d : D} (h : Bp Ξ M H v d) (s : D.sh d) : SeqAt.shaped d.toP = true := by
  unfold SeqAt.shaped
  rw [h.lay s.1, decide_eq_true s.2]
  rfl
theorem eq_ok : OpOk Ξ (fun x y H Q => rEq x y H Q ∨ rEqD Ξ.K x y H Q) eqW := by
  intro M H x y d1 d2 Q E mu hf h1 h2 q
  rcases eqW_cases q with ⟨s, t, rfl, rfl, q⟩ | ⟨⟨s1, s2⟩, q⟩
  · rw [h1.txtE, h2.txtE]
    exact .inl ⟨rfl, by rw [str_dec]; exact at_bl _ q⟩
  · exact .inr ⟨_, _, h1.dp s1.1, h2.dp s2.1, h1.shaped s1, h2.shaped s2, at_bl _ q⟩
theorem ne_ok : OpOk Ξ (fun x y H Q => rNe x y H Q ∨ rNeD Ξ.K x y H Q) neW := by
  intro M H x y d1 d2 Q E mu hf h1 h2 q
  rcases neW_cases q with ⟨s, t, rfl, rfl, q⟩ | ⟨⟨s1, s2⟩, q⟩
  · rw [h1.txtE, h2.txtE]
    exact .inl ⟨rfl, by rw [str_dec]; exact at_bl _ q⟩
  · exact .inr ⟨_, _, h1.dp s1.1, h2.dp s2.1, h1.shaped s1, h2.shaped s2, at_bl _ q⟩
theorem le_eq {k : Nat} (hr : Room k X.A) (hK : X.K = Ξ.K) (ha : LB Ξ H0 O X a pa) (hb : LB Ξ H0 O X b pb) : LE Ξ H0 O X (.Compare a [.Eq] [b] pos) fun env => (pa env).bind fun x => (pb env).bind fun y => eqW x y := le_cmp (op_eq.or (ko_eqD Ξ.K hr hK)) eq_ok (nomark _) ha hb
/-- an order of numbers and of texts -/
def ordW (g : Int → Int → Bool) (h : Str → Str → Bool) : D → D → W D
  | .int i, .int j => W.ret (.bl (g i j))
  | .str a, .str b => W.ret (.bl (h a b))
  | _, _ => W.fail
theorem ord_ok {g : Int → Int → Bool} {h : Str → Str → Bool} : OpOk Ξ (fun x y H Q => rI0 (fun i j => .bl (g i j)) x y H Q ∨ ∃ i j, x = .str i ∧ y = .str j ∧ Q (.bl (h i j)) H) (ordW g h) := by
  intro M H x y d1 d2 Q E mu hf h1 h2 q
  cases d1 <;> cases d2 <;> try exact q.elim
  · rw [h1.intE, h2.intE]
    exact .inl ⟨_, _, rfl, rfl, at_bl _ q⟩
  · rw [h1.strE.1, h2.strE.1]
    exact .inr ⟨_, _, rfl, rfl, at_bl _ q⟩
def slt (a b : Str) : Bool := decide (a.cps.toList < b.cps.toList)
def ltW : D → D → W D := ordW (fun i j => decide (i < j)) fun a b => slt a b
def leW : D → D → W D := ordW (fun i j => decide (i ≤ j)) fun a b => !slt b a
def gtW : D → D → W D := ordW (fun i j => decide (j < i)) fun a b => slt b a
def geW : D → D → W D := ordW (fun i j => decide (j ≤ i)) fun a b => !slt a b
def isNone : D → Bool
  | .non => true
  | _ => false
def isW (a b : D) : W D := match b with
  | .non => W.ret (.bl (isNone a))
  | _ => W.fail
def isntW (a b : D) : W D := match b with
  | .non => W.ret (.bl (!isNone a))
  | _ => W.fail
theorem tok_non {M : List Addr} {H : Hp} {v : V} {d : D} (h : Bp Ξ M H v d) : decide (v = .non) = isNone d := by
  cases h with
  | lst _ _ _ => exact decide_eq_false fun z => by cases z
  | rp h =>
    cases h with
    | non => rfl
    | tok h =>
      obtain ⟨a, rfl⟩ := Ξ.tkr _ _ h
      exact decide_eq_false fun z => by cases z
    | set _ _ _ => exact decide_eq_false fun z => by cases z
    | dct _ _ _ _ => exact decide_eq_false fun z => by cases z
    | txt _ => exact decide_eq_false fun z => by cases z
    | bl _ => exact decide_eq_false fun z => by cases z
    | int _ => exact decide_eq_false fun z => by cases z
    | str _ _ => exact decide_eq_false fun z => by cases z
    | tup _ _ => exact decide_eq_false fun z => by cases z
    | lst _ _ => exact decide_eq_false fun z => by cases z
    | obj _ _ _ => exact decide_eq_false fun z => by cases z
end
end LP
/-! Heaps by their counts: together, less, what lacks. -/
namespace PK
open PySem PySem.Spec PyProof.Rows L2
/-- rows of a heap: rising, each part once -/
structure Up (n : Nat) (L : List PRow) : Prop where
  ok : ∃ b : Int, RowsOk n b L
  up : Rises (L.map fun r => pkD (pk r))
theorem Up.mono {n m : Nat} {L : List PRow} (h : Up n L) (hm : n ≤ m) : Up m L := by
  obtain ⟨b, ok⟩ := h.ok
  exact ⟨⟨b, ok.mono hm (Int.le_refl _)⟩, h.up⟩
theorem Up.len {n : Nat} {L : List PRow} (h : Up n L) : L.length ≤ n := by
  obtain ⟨b, ok⟩ := h.ok
  exact ok.len
theorem Up.two {n : Nat} {L M : List PRow} (h : Up n L) (g : Up n M) : ∃ b : Int, RowsOk n b L ∧ RowsOk n b M := by
  obtain ⟨b, ok⟩ := h.ok
  obtain ⟨c, oc⟩ := g.ok
  refine ⟨max b c, ok.mono (Nat.le_refl _) (Int.le_max_left _ _), oc.mono (Nat.le_refl _) (Int.le_max_right _ _)⟩
theorem Up.nn {n : Nat} {L : List PRow} (h : Up n L) (k : PKey) : 0 ≤ cnt L k := by
  obtain ⟨b, ok⟩ := h.ok
  exact cnt_nn ok k
theorem Up.nodup {n : Nat} {L : List PRow} (h : Up n L) : (L.map pk).Nodup := by
  have z := h.up
  unfold Rises at z
  rw [List.pairwise_map] at z
  unfold List.Nodup
  rw [List.pairwise_map]
  refine z.imp fun {a b} y e => ?_
  rw [e, dlt_irr] at y
  cases y
/-- counts make the heap -/
theorem Up.ext {n m : Nat} {L M : List PRow} (h : Up n L) (g : Up m M) (e : ∀ k, cnt L k = cnt M k) : L = M := by
  obtain ⟨b, ok⟩ := h.ok
  obtain ⟨c, oc⟩ := g.ok
  rw [← sumR_id h.up, ← sumR_id g.up]
  exact sumR_eq ok oc e
theorem Up.sum {n : Nat} {b : Int} {L : List PRow} (h : RowsOk n b L) (hb : 0 ≤ b) : Up n (sumR L) := ⟨⟨_, sumR_ok hb h⟩, sumR_rises L⟩
theorem Up.nil : Up 0 [] := ⟨⟨0, Nat.le_refl _, fun _ h => (nomatch h)⟩, List.Pairwise.nil⟩
theorem Up.one {f s : Str} (hf : Word f) (hs : Word s) : Up 1 [(f, s, 1)] := by
  refine ⟨⟨1, Nat.le_refl _, fun r hr => ?_⟩, List.pairwise_singleton _ _⟩
  rw [List.mem_singleton.mp hr]
  exact ⟨hf, hs, Int.le_refl _, Int.le_refl _⟩
theorem Up.app {n m : Nat} {L M : List PRow} (h : Up n L) (g : Up m M) : ∃ b : Int, 0 ≤ b ∧ RowsOk (n + m) b (L ++ M) := by
  obtain ⟨b, ok⟩ := h.ok
  obtain ⟨c, oc⟩ := g.ok
  refine ⟨max 0 (max b c), Int.le_max_left _ _, ?_, fun r hr => ?_⟩
  · rw [List.length_append]
    have := ok.len
    have := oc.len
    omega
  · rcases List.mem_append.mp hr with z | z
    · exact (ok.each r z).mono (by omega)
    · exact (oc.each r z).mono (by omega)
theorem Up.above {n m : Nat} {L M : List PRow} (h : Up n L) (g : Up m M) : Up n (aboveR L M) := by
  obtain ⟨b, ok⟩ := h.ok
  obtain ⟨c, oc⟩ := g.ok
  exact ⟨⟨b, aboveR_ok ok oc⟩, rises_above h.up⟩
/-! ### what lacks -/
end PK
namespace PK
open PySem PySem.Spec PyProof.Rows L2
end PK
/-! Short readings of heaps' methods. -/
namespace PK
open PySem PySem.Spec PyProof.Rows L2
section
variable {K : PySem.W.Frag} {C p q : Addr} {H : Hp} {L M : List PRow}
end
end PK
namespace LP
open PySem PySem.Spec PyProof.Rows L2 PK
def optW {α : Type} : Option α → W α
  | some x => W.ret x
  | none => W.fail
theorem optW_wp {α : Type} {o : Option α} {Q : α → Prop} {E : Ex → Prop} (h : (optW o).wp Q E) : ∃ x, o = some x ∧ Q x := by
  cases o with
  | none => exact h.elim
  | some x => exact ⟨x, rfl, h⟩
section
variable {X : Cx} {Ξ : Ctx} {H0 : Hp} {O : List Nat} {a b c e : Expr} {es : List Expr} {pos : Pos} {pa pb pc : Env → W D} {ps : Env → W (List D)}
/-! ### is None -/
theorem is_ok : OpOk Ξ (fun x y H Q => y = .non ∧ Q (.bl (decide (x = .non))) H) isW := by
  intro M H x y d1 d2 Q E mu hf h1 h2 q
  cases d2 <;> try exact q.elim
  rw [tok_non h1]
  exact ⟨h2.nonE, at_bl _ q⟩
/-! ### a < b < c -/
/-! ### x in xs -/
def flatD : D → Bool
  | .non => true
  | .bl _ => true
  | .int _ => true
  | .str _ => true
  | _ => false
def inD (x : D) (l : List D) : Bool := l.any fun y => D.eqv y x
/-- one sign in a text -/
def signIn (s z : Str) : Bool := match s.cps.toList with
  | [c] => decide (c ∈ z.cps.toList)
  | _ => false
def inW' (neg : Bool) : D → D → W D
  | .str s, .str z => (W.want (s.length = 1)).bind fun _ => W.ret (.bl (if neg then !signIn s z else signIn s z))
  | x, .tup l => (W.want (flatD x = true ∧ l.all flatD = true)).bind fun _ => W.ret (.bl (if neg then !inD x l else inD x l))
  | x, .lst l => (W.want (flatD x = true ∧ l.all flatD = true)).bind fun _ => W.ret (.bl (if neg then !inD x l else inD x l))
  | _, _ => W.fail
def inW : D → D → W D := inW' false
/-! ### xs[i] -/
def ixW : D → D → W D
  | .lst l, .int i => optW (atI l i)
  | .tup l, .int i => optW (atI l i)
  | .str z, .int i => (W.want (z.length ≤ sizeLine)).bind fun _ => (optW (atI z.cps.toList i)).bind fun c => W.ret (.str ⟨#[c]⟩)
  | _, _ => W.fail
theorem RpAll.atI {H : Hp} {xs : List V} {ds : List D} {i : Int} {d : D} (h : RpAll Ξ H xs ds) (e : atI ds i = some d) : ∃ v, atI xs i = some v ∧ Rp Ξ H v d := by
  unfold L2.atI at e ⊢
  rw [h.len]
  obtain ⟨j, h1, h2⟩ := Option.bind_eq_some_iff.mp e
  obtain ⟨v, h3, h4⟩ := h.get h2
  exact ⟨v, by rw [h1]; exact h3, h4⟩
theorem atI_mem {α : Type} {l : List α} {i : Int} {x : α} (h : atI l i = some x) : x ∈ l := by
  unfold L2.atI at h
  obtain ⟨j, _, h2⟩ := Option.bind_eq_some_iff.mp h
  exact List.mem_of_getElem? h2
theorem ix_ok : OpOk Ξ (rIx Ξ.K) ixW := by
  intro M H x y d1 d2 Q E mu hf h1 h2 q
  cases d1 <;> cases d2 <;> try exact q.elim
  · obtain ⟨rfl, o1⟩ := h1.strE
    rw [h2.intE]
    obtain ⟨l, q⟩ := q
    obtain ⟨c, hc, q⟩ := optW_wp q
    exact .inr (.inr ⟨_, _, c, rfl, rfl, l, hc, q _ H (Same.refl H) (.str _ (strOk_one o1 (atI_mem hc)))⟩)
  · obtain ⟨b1, xs, rfl, t1, a1⟩ := h1.tupE
    rw [h2.intE]
    obtain ⟨d, hd, q⟩ := optW_wp q
    obtain ⟨v, h3, h4⟩ := a1.atI hd
    exact .inr (.inl ⟨b1, xs, _, v, rfl, rfl, t1, h3, q _ H (Same.refl H) h4⟩)
  · obtain ⟨b1, xs, rfl, t1, a1⟩ := h1.lstE
    rw [h2.intE]
    obtain ⟨d, hd, q⟩ := optW_wp q
    obtain ⟨v, h3, h4⟩ := a1.atI hd
    exact .inl ⟨b1, xs, _, v, rfl, rfl, SqL.of t1, h3, q _ H (Same.refl H) h4⟩
theorem le_item (hK : X.K = Ξ.K) (hs : PlainIx b) (ha : LB Ξ H0 O X a pa) (hb : LB Ξ H0 O X b pb) : LE Ξ H0 O X (.Subscript a b pos) fun env => (pa env).bind fun x => (pb env).bind fun y => ixW x y :=
  le_ix (by rw [← hK]; exact ix_seq) ix_ok hs ha hb
/-! ### xs[a:b] -/
def cutD {α : Type} (xs : List α) (lo hi : Option Int) : List α := (xs.drop (HT.sIx xs.length 0 lo)).take (HT.sIx xs.length xs.length hi - HT.sIx xs.length 0 lo)
def slW (d : D) (lo hi : Option Int) : W D := match d with
  | .tup l => W.ret (.tup (cutD l lo hi))
  | .lst l => W.ret (.lst (cutD l lo hi))
  | .str z => (W.want (z.length ≤ sizeLine)).bind fun _ => W.ret (.str (cutS z lo hi))
  | _ => W.fail
def partW : D → W (Option Int)
  | .int i => W.ret (some i)
  | _ => W.fail
def revTW : D → W D
  | .tup l => W.ret (.tup l.reverse)
  | _ => W.fail
def revLW : D → W D
  | .lst l => W.ret (.lst l.reverse)
  | _ => W.fail
/-! ### built-in calls -/
theorem le_callB {id : String} {x : Str} {r : List V → Hp → VK → Prop} {f : List D → W D} {p pos : Pos} (hc : CallR X (.builtin id) r) (hf : CallOk Ξ r f) (hg : Gl X x) (hm : X.mg x = none) (hv : bootBuiltins x = some (.builtin id)) (ha : LAB Ξ H0 O X (e :: es) ps) (hn : x ≠ "__name__" := by decide) (hdb : (x == ("__debug__" : Str)) = false := by decide)
    (he : starEach (e :: es) X.env = (false, eval e X.env) :: starEach es X.env := by rfl) (hpl : (backTo pos (starEach es X.env)).any (·.1) = false := by rfl) :
    LE Ξ H0 O X (.Call (.Name x p) (e :: es) [] pos) fun env => (ps env).bind f := wkE (pe_callB hc hg hm hv ha hn hdb he hpl) (le_args hf)
theorem le_callTy {T : String} {x : Str} {r : List V → Hp → VK → Prop} {f : List D → W D} {p pos : Pos} (hc : CallR X (.type T) r) (hf : CallOk Ξ r f) (hg : Gl X x) (hm : X.mg x = none) (hv : bootBuiltins x = some (.type T)) (ha : LAB Ξ H0 O X (e :: es) ps) (hn : x ≠ "__name__" := by decide) (hdb : (x == ("__debug__" : Str)) = false := by decide)
    (he : starEach (e :: es) X.env = (false, eval e X.env) :: starEach es X.env := by rfl) (hpl : (backTo pos (starEach es X.env)).any (·.1) = false := by rfl) :
    LE Ξ H0 O X (.Call (.Name x p) (e :: es) [] pos) fun env => (ps env).bind f := wkE (pe_callTy hc hg hm hv ha hn hdb he hpl) (le_args hf)
def lenW : List D → W D
  | [.lst l] => W.ret (.int l.length)
  | [.tup l] => W.ret (.int l.length)
  | [.str s] => (W.want (s.length ≤ sizeLine)).bind fun _ => W.ret (.int s.length)
  | _ => W.fail
theorem len_ok : CallOk Ξ (fun xs H Q => rLenOf Ξ.K xs H Q ∨ ∃ z, xs = [.str z] ∧ z.length ≤ sizeLine ∧ Q (.int z.length) H) lenW := by
  intro M H xs ds Q E mu hf h q
  match ds, h, q with
  | [.lst l], .cons h .nil, q =>
    obtain ⟨b, ys, rfl, t, a⟩ := h.lstE
    exact .inl ⟨b, ys, rfl, .inl (SqL.of t), by rw [a.len]; exact at_int _ q⟩
  | [.tup l], .cons h .nil, q =>
    obtain ⟨b, ys, rfl, t, a⟩ := h.tupE
    exact .inl ⟨b, ys, rfl, .inr t, by rw [a.len]; exact at_int _ q⟩
  | [.str s], .cons h .nil, q =>
    obtain ⟨rfl, _⟩ := h.strE
    exact .inr ⟨s, rfl, q.1, at_int _ q.2⟩
theorem le_len {p pos : Pos} (hK : X.K = Ξ.K) (hg : Gl X "len") (hm : X.mg "len" = none) (ha : LAB Ξ H0 O X [e] ps) (he : starEach [e] X.env = [(false, eval e X.env)] := by rfl) : LE Ξ H0 O X (.Call (.Name "len" p) [e] [] pos) fun env => (ps env).bind lenW :=
  le_callB ((k_len Ξ.K hK).or call_len_str) len_ok hg hm PySem.boot_len ha (by decide) (by decide) he rfl
def tupleW : List D → W D
  | [.lst l] => W.ret (.tup l)
  | [.tup l] => W.ret (.tup l)
  | _ => W.fail
theorem tuple_ok : CallOk Ξ (rTupOf Ξ.K) tupleW := by
  intro M H xs ds Q E mu hf h q
  match ds, h, q with
  | [.lst l], .cons h .nil, q =>
    obtain ⟨b, ys, rfl, t, a⟩ := h.lstE
    exact ⟨b, ys, rfl, .inl ⟨SqL.of t, fun p np => at_newT mu a np q⟩⟩
  | [.tup l], .cons h .nil, q =>
    obtain ⟨b, ys, rfl, t, a⟩ := h.tupE
    exact ⟨b, ys, rfl, .inr ⟨t, at_tup mu (Same.refl H) t a q⟩⟩
theorem le_tuple {p pos : Pos} (hK : X.K = Ξ.K) (hg : Gl X "tuple") (hm : X.mg "tuple" = none) (ha : LAB Ξ H0 O X [e] ps) (he : starEach [e] X.env = [(false, eval e X.env)] := by rfl) : LE Ξ H0 O X (.Call (.Name "tuple" p) [e] [] pos) fun env => (ps env).bind tupleW :=
  le_callTy (k_tup Ξ.K hK) tuple_ok hg hm (by decide +kernel) ha (by decide) (by decide) he rfl
def listW : List D → W D
  | [.lst l] => W.ret (.lst l)
  | [.tup l] => W.ret (.lst l)
  | _ => W.fail
theorem list_ok : CallOk Ξ (rListOf Ξ.K) listW := by
  intro M H xs ds Q E mu hf h q
  match ds, h, q with
  | [.lst l], .cons h .nil, q =>
    obtain ⟨b, ys, rfl, t, a⟩ := h.lstE
    exact ⟨b, ys, rfl, .inl (SqL.of t), fun p np => at_new mu a np q⟩
  | [.tup l], .cons h .nil, q =>
    obtain ⟨b, ys, rfl, t, a⟩ := h.tupE
    exact ⟨b, ys, rfl, .inr t, fun p np => at_new mu a np q⟩
theorem le_list {p pos : Pos} (hK : X.K = Ξ.K) (hg : Gl X "list") (hm : X.mg "list" = none) (ha : LAB Ξ H0 O X [e] ps) (he : starEach [e] X.env = [(false, eval e X.env)] := by rfl) : LE Ξ H0 O X (.Call (.Name "list" p) [e] [] pos) fun env => (ps env).bind listW :=
  le_callTy (k_list Ξ.K hK) list_ok hg hm (by decide +kernel) ha (by decide) (by decide) he rfl
def isOf : List D → Option (List Int)
  | [] => some []
  | .int b :: l => (isOf l).map (b :: ·)
  | _ => none
theorem isOf_eq : ∀ {l : List D} {bs : List Int}, isOf l = some bs → l = bs.map D.int
  | [], _, h => by cases h; rfl
  | .int b :: l, _, h => by
    obtain ⟨cs, h1, rfl⟩ := Option.map_eq_some_iff.mp h
    rw [isOf_eq h1]
    rfl
theorem isOf_map (bs : List Int) : isOf (bs.map D.int) = some bs := by
  induction bs with
  | nil => rfl
  | cons b bs ih => show (isOf (bs.map D.int)).map (b :: ·) = _; rw [ih]; rfl
def sumW : List D → W D
  | [.lst l] => (optW (isOf l)).bind fun ns => W.ret (.int ns.sum)
  | _ => W.fail
/-! ### isinstance, of data -/
def tyOf : D → Option String
  | .non => some "NoneType"
  | .bl _ => some "bool"
  | .int _ => some "int"
  | .str _ => some "str"
  | .tup _ => some "tuple"
  | .lst _ => some "list"
  | _ => none
theorem Bp.ty {M : List Addr} {H : Hp} {v : V} {d : D} {t : String} (h : Bp Ξ M H v d) (e : tyOf d = some t) : TyX Ξ.K H v (.type t) := by
  cases d <;> cases e
  · rw [h.nonE]; exact .base .non
  · rw [h.blE]; exact .base (.bl _)
  · rw [h.intE]; exact .base (.int _)
  · rw [h.strE.1]; exact .base (.str _)
  · obtain ⟨b, xs, rfl, t, _⟩ := h.tupE
    rcases t with (h | ⟨o, h⟩) | ⟨o, its, n, hk, hc, _⟩
    · exact .base (.tup h)
    · exact .fTuple h
    · exact .kTuple hk hc
  · obtain ⟨b, xs, rfl, t, _⟩ := h.lstE
    exact .base (.lst t)
/-- isinstance(e, T) -/
def isiW (T : String) (d : D) : W D := match tyOf d with
  | some t => W.ret (.bl (t == T || (t == "bool" && T == "int")))
  | none => W.fail
theorem le_isi {T : String} {p p2 pos : Pos} (hT : T ∈ ["int", "bool", "str", "tuple", "list"]) (hK : X.K = Ξ.K) (hg : Gl X "isinstance") (hm : X.mg "isinstance" = none) (hg2 : Gl X (T : Str)) (hm2 : X.mg (T : Str) = none) (hb2 : bootBuiltins (T : Str) = some (.type T)) (hn2 : (T : Str) ≠ "__name__") (hd2 : ((T : Str) == ("__debug__" : Str)) = false)
    (ha : LB Ξ H0 O X a pa) (he : starEach [a, .Name (T : Str) p2] X.env = (false, eval a X.env) :: starEach [.Name (T : Str) p2] X.env := by rfl) (he2 : starEach [.Name (T : Str) p2] X.env = [(false, eval (.Name (T : Str) p2) X.env)] := by rfl) (hpl : (backTo pos (starEach [.Name (T : Str) p2] X.env)).any (·.1) = false := by rfl) :
    LE Ξ H0 O X (.Call (.Name "isinstance" p) [a, .Name (T : Str) p2] [] pos) fun env => (pa env).bind (isiW T) :=
  wkE (pe_callB (k_isi Ξ.K hK) hg hm (by decide +kernel) (pa_cons ha (pa_cons (pe_bltn (v := .ty T) hg2 hm2 hb2 rfl hn2 hd2) pa_nil he2) he) (by decide) (by decide) he hpl) fun σ H Q ⟨S, A, G, env, E, hA, r, q⟩ =>
    ⟨S, A, G, env, E, hA, r, (pa env).mono (fun d k v H' g r' hv => by
      unfold isiW at k
      split at k
      · rename_i t et
        refine ⟨v, .ty T, .type t, .type T, _, rfl, .ty _, hv.ty et, kit_ty (kitB_tab t ?_ T hT), k _ H' g r' (.bl _)⟩
        cases d <;> cases et <;> decide
      · exact k.elim) (fun _ z => z) q⟩
end
end LP
namespace LP
open PySem PySem.Spec PyProof.Rows L2 PK RZ
section
variable {X : Cx} {Ξ : Ctx} {H0 : Hp} {O O' Ob : List Nat} {a b c e : Expr} {es : List Expr} {pos : Pos} {pa pb pc : Env → W D} {ps : Env → W (List D)}
/-! ### comprehensions -/
abbrev LTs (Ξ : Ctx) (H0 : Hp) (O : List Nat) (X : Cx) (ifs : List Expr) (p : Env → W Bool) : Prop := PTs X ifs (liT Ξ H0 O p)
theorem lts_nil : LTs Ξ H0 O X [] fun _ => W.ret true := ⟨fun pins s σ H Q I h => pts_nil.run pins s σ H Q I (by
  obtain ⟨S, A, G, env, E, hA, r, q⟩ := h
  exact q H (Gr.refl H) r)⟩
theorem lts_one {p : Env → W Bool} (h : LT Ξ H0 O X c p) : LTs Ξ H0 O X [c] p := pts_one h
def lcD (gW : D → Env → W Env) (tW : Env → W Bool) (eW : Env → W D) (vs : List Nat) (pi : Env → W (List D)) (env : Env) : W D :=
  (pi env).bind fun ds => (lcW gW tW eW (wipeE env vs) ds []).bind fun l => W.ret (.lst l)
section
variable {elt tg iter : Expr} {ifs : List Expr} {scope : Scope} {own : List (Str × Nat)} {pi : Env → W (List D)} {gW : D → Env → W Env} {tW : Env → W Bool} {eW : Env → W D}
theorem ln_lc (hc : X.calm = true) (hN : X.N.Nodup) (hi : LI Ξ H0 O X tg iter pi) (ok : BlkOk X.N X.env.scope scope own) (hvs : ∀ i ∈ own.map (·.2), i ∉ O)
    (hg : ∀ (s : Shared) (H : Hp) (C : Addr) (cl : List (Str × Addr)) (fp : List Addr), LG Ξ H0 O (own.map (·.2)) (X.blk s H scope (compEnvC scope cl C X.env) fp) tg gW)
    (ht : ∀ (s : Shared) (H : Hp) (C : Addr) (cl : List (Str × Addr)) (fp : List Addr), LTs Ξ H0 O (X.blk s H scope (compEnvC scope cl C X.env) fp) ifs tW)
    (he : ∀ (s : Shared) (H : Hp) (C : Addr) (cl : List (Str × Addr)) (fp : List Addr), LE Ξ H0 O (X.blk s H scope (compEnvC scope cl C X.env) fp) elt eW) (hs : ∀ x, foldedSetIterable iter X.env x = pure x := by intro _; rfl) :
    PE X (.ListComp elt [⟨tg, iter, ifs, 0⟩] scope pos) (liN Ξ H0 O (lcD gW tW eW (own.map (·.2)) pi)) :=
  wkE (pe_lc hc hN hi ok hg ht he hs) (lc_reads hvs (fun _ _ _ h => h) (fun _ _ _ _ h => h) (fun _ _ _ h => h) fun _ _ _ h => h)
/-- the same, frozen at once -/
theorem ls_lcF {i : Nat} {y : Str} {py spos : Pos} (hc : X.calm = true) (hN : X.N.Nodup) (hy : X.N[i]? = some y) (hyl : X.env.scope.names.lookup y = some .local)
    (hsw : swapsWith (.ListComp elt [⟨tg, iter, ifs, 0⟩] scope pos) (some (.Name y py)) spos.line X.env = pure true) (hi : LI Ξ H0 O X tg iter pi) (ok : BlkOk X.N X.env.scope scope own) (hvs : ∀ i ∈ own.map (·.2), i ∉ O)
    (hg : ∀ (s : Shared) (H : Hp) (C : Addr) (cl : List (Str × Addr)) (fp : List Addr), LG Ξ H0 O (own.map (·.2)) (X.blk s H scope (compEnvC scope cl C X.env) fp) tg gW)
    (ht : ∀ (s : Shared) (H : Hp) (C : Addr) (cl : List (Str × Addr)) (fp : List Addr), LTs Ξ H0 O (X.blk s H scope (compEnvC scope cl C X.env) fp) ifs tW)
    (he : ∀ (s : Shared) (H : Hp) (C : Addr) (cl : List (Str × Addr)) (fp : List Addr), LE Ξ H0 O (X.blk s H scope (compEnvC scope cl C X.env) fp) elt eW) (hO : O.filter (fun j => decide (j ∈ O')) = O' := by decide) (hi2 : i ∉ O' := by decide) (hs : ∀ x, foldedSetIterable iter X.env x = pure x := by intro _; rfl) :
    LS Ξ H0 O O' Ob X (.Assign [.Name y py] (.ListComp elt [⟨tg, iter, ifs, 0⟩] scope pos) spos) fun env => (lcD gW tW eW (own.map (·.2)) pi env).bind fun d => W.ret (.nx (env.set i (some d))) :=
  wkS (ps_setLc hc hN hy hyl hsw hi ok hg ht he hs) (asg_reads hO hi2 fun σ H Q h => lc_reads hvs (fun _ _ _ h => h) (fun _ _ _ _ h => h) (fun _ _ _ h => h) (fun _ _ _ h => h) σ H Q (by
    obtain ⟨S, A, G, env, E, hA, r, q⟩ := h
    refine ⟨S, A, G, env, E, hA, r, W.mono _ (fun d k l H' g f nl ho => ?_) (fun _ z => z) q⟩
    refine k (.ref l) H' g (r.grow g f) ?_
    have nM := r.muA.out nl
    generalize hq : H' l = o at ho
    cases ho with
    | lst ho => exact .lst (ms_at hq nM) (ho.same (ms_mono fun b hb => List.mem_cons_of_mem _ hb))))
end
/-! ### a new list, owned -/
theorem ln_lst (h : LA Ξ H0 O X es ps) : PE X (.List es pos) (liN Ξ H0 O fun env => (ps env).bind lstW) :=
  wkE (pe_lst h) fun σ H Q ⟨S, A, G, env, E, hA, r, z⟩ => ⟨S, A, G, env, E, hA, r, (ps env).mono (fun ds u vs H1 g1 r1 hv => ⟨by rw [hv.len]; exact u.1, fun p np => by
    have s : Same H1 (upd H1 p (.lst vs)) := same_new (Same.refl H1) np
    have nf := ff_out r1.fi np
    have n0 : H p = none := by
      cases q : H p with
      | none => rfl
      | some o =>
        have := g1 p o nf q
        rw [np] at this
        cases this
    refine u.2 p _ (g1.trans (Gr.of s)) (FI_same r1.fi s) n0 ?_
    rw [upd_same]
    refine .lst (hv.same fun b o e => ?_)
    obtain ⟨h1, h2⟩ := ms_some e
    exact ms_at (s _ _ h1) fun z => (List.mem_cons.mp z).elim (ne_of_none h1 np) h2⟩) (fun _ z => z) z⟩
/-! ### methods of an owned list -/
def putW (env : Env) (i : Nat) (f : List D → W (List D)) : W Fl := (getW env i).bind fun x => match x with
  | .lst l => (f l).bind fun l' => W.ret (.nx (env.set i (some (.lst l'))))
  | _ => W.fail
def appW (d : D) (l : List D) : W (List D) := (W.want (l.length < sizeLine)).bind fun _ => W.ret (l ++ [d])
theorem putW_wp {env : Env} {i : Nat} {f : List D → W (List D)} {Q : Fl → Prop} {E : Ex → Prop} (h : (putW env i f).wp Q E) : ∃ l, env[i]? = some (some (.lst l)) ∧ (f l).wp (fun l' => Q (.nx (env.set i (some (.lst l'))))) E := by
  obtain ⟨d, e, h⟩ := getW_wp h
  cases d <;> try exact h.elim
  exact ⟨_, e, h⟩
/-- what a change of an owned list asks -/
theorem ls_append {i : Nat} {x : Str} {pn pa' pc' : Pos} (hO : i ∈ O)
    (hm : PE X (.Call (.Attribute (.Name x pn) "append" pa') [e] [] pc') (tBM X.K "list" rAppend (tVar i) (tCons (liE Ξ H0 O pa) tNil)))
    (hs : swapsWith (.Call (.Attribute (.Name x pn) "append" pa') [e] [] pc') none pos.line X.env = pure false := by rfl) :
    LS Ξ H0 O O Ob X (.Expr (.Call (.Attribute (.Name x pn) "append" pa') [e] [] pc') pos) fun env => (pa env).bind fun d => putW env i (appW d) := by
  refine wkS (ps_expr hm hs) fun De σ H ⟨S, A, G, env, E, hA, r, q⟩ => ?_
  rw [← hA] at hO
  obtain ⟨⟨j, a⟩, ha, e1⟩ := List.mem_map.mp hO
  have e1 : j = i := e1
  subst e1
  obtain ⟨d0, h1, h2, h3⟩ := r.ow j a ha
  have key : ∃ us ds, H a = some (.lst us) ∧ d0 = .lst ds := by
    generalize hq : H a = o at h3
    cases h3 with
    | lst h => exact ⟨_, _, rfl, rfl⟩
  obtain ⟨us, ds, ea, rfl⟩ := key
  refine ⟨.ref a, h2, .inl ⟨rfl, us, SqL.of ea⟩, S, A, G, env, E, hA, r, (pa env).mono (fun d k v H1 g1 r1 hv1 => ?_) (fun _ z => z) q⟩
  obtain ⟨l, el, k⟩ := putW_wp k
  obtain ⟨d1, i1, i2, i3⟩ := r1.ow j a ha
  rw [el] at i1
  cases i1
  have ea1 : H1 a = some (.lst us) := g1 a _ (r.outA ha) ea
  rw [ea1] at i3
  cases i3 with
  | lst i3 => exact ⟨a, us, v, rfl, rfl, ea1, by rw [i3.len]; exact k.1, k.2 A σ _ hA (r1.put ha (.lst (i3.snoc hv1)))⟩
def extW (d : D) (l : List D) : W (List D) := match d with
  | .lst m => (W.want (l.length + m.length ≤ sizeLine)).bind fun _ => W.ret (l ++ m)
  | .tup m => (W.want (l.length + m.length ≤ sizeLine)).bind fun _ => W.ret (l ++ m)
  | _ => W.fail
theorem MtM.or {id : String} {r r' : V → List V → Hp → VK → Prop} (h : MtM X id r) (h' : MtM X id r') : MtM X id fun x vs H Q => r x vs H Q ∨ r' x vs H Q := by
  intro pins s σ H x vs v us Q I rx rv q
  rcases q with q | q
  · exact h pins s σ H x vs v us Q I rx rv q
  · exact h' pins s σ H x vs v us Q I rx rv q
/-! ### walks over texts, pairs -/
def walkSW : D → W (List D)
  | .str z => W.ret (z.cps.toList.map fun c => D.str ⟨#[c]⟩)
  | _ => W.fail
def zipD (l m : List D) : List D := (l.zip m).map fun p => D.tup [p.1, p.2]
def zipW : List D → W (List D)
  | [.lst l, .lst m] => W.ret (zipD l m)
  | [.tup l, .tup m] => W.ret (zipD l m)
  | _ => W.fail
/-! ### repr -/
end
end LP
namespace LP
open PySem PySem.Spec PyProof.Rows L2 PK RZ
/-! ### how great a thing is -/
/-- data: its numbers, its depth, how long it is when shown -/
structure Sz (m dp n : Nat) (d : D) : Prop where
  pl : d.plain = true
  mx : mx d.toP ≤ m
  dep : d.toP.depth ≤ dp
  wt : wt d.toP ≤ n
structure Szs (m dp n : Nat) (l : List D) : Prop where
  pl : D.plains l = true
  mx : mxs (D.toPs l) ≤ m
  dep : PyData.depthAll (D.toPs l) ≤ dp
  wt : wts (D.toPs l) ≤ n
section
variable {m dp n m' dp' n' : Nat} {d : D} {l k : List D}
theorem Sz.mono (h : Sz m dp n d) (h1 : m ≤ m') (h2 : dp ≤ dp') (h3 : n ≤ n') : Sz m' dp' n' d := ⟨h.pl, Nat.le_trans h.mx h1, Nat.le_trans h.dep h2, Nat.le_trans h.wt h3⟩
theorem Szs.mono (h : Szs m dp n l) (h1 : m ≤ m') (h2 : dp ≤ dp') (h3 : n ≤ n') : Szs m' dp' n' l := ⟨h.pl, Nat.le_trans h.mx h1, Nat.le_trans h.dep h2, Nat.le_trans h.wt h3⟩
theorem Szs.nil : Szs m dp n [] := ⟨rfl, Nat.zero_le _, Nat.zero_le _, Nat.zero_le _⟩
theorem Szs.cons (h1 : Sz m dp n d) (h2 : Szs m dp n' l) : Szs m dp (n + 2 + n') (d :: l) := by
  refine ⟨?_, ?_, ?_, ?_⟩
  · show (d.plain && D.plains l) = true
    rw [h1.pl, h2.pl]
    rfl
  · show max (PK.mx d.toP) (mxs (D.toPs l)) ≤ m
    exact Nat.max_le.mpr ⟨h1.mx, h2.mx⟩
  · show max d.toP.depth (PyData.depthAll (D.toPs l)) ≤ dp
    exact Nat.max_le.mpr ⟨h1.dep, h2.dep⟩
  · show PK.wt d.toP + 2 + wts (D.toPs l) ≤ _
    have := h1.wt
    have := h2.wt
    omega
theorem toPs_app : ∀ l k : List D, D.toPs (l ++ k) = D.toPs l ++ D.toPs k
  | [], _ => rfl
  | d :: l, k => by
    show d.toP :: D.toPs (l ++ k) = _
    rw [toPs_app l k]
    rfl
theorem plains_app : ∀ l k : List D, D.plains (l ++ k) = (D.plains l && D.plains k)
  | [], _ => rfl
  | d :: l, k => by
    show (d.plain && D.plains (l ++ k)) = (d.plain && D.plains l && D.plains k)
    rw [plains_app l k, Bool.and_assoc]
theorem mxs_app : ∀ a b : List PyData, mxs (a ++ b) = max (mxs a) (mxs b)
  | [], b => (Nat.zero_max _).symm
  | d :: a, b => by
    show max (PK.mx d) (mxs (a ++ b)) = max (max (PK.mx d) (mxs a)) (mxs b)
    rw [mxs_app a b, Nat.max_assoc]
theorem depths_app : ∀ a b : List PyData, PyData.depthAll (a ++ b) = max (PyData.depthAll a) (PyData.depthAll b)
  | [], b => (Nat.zero_max _).symm
  | d :: a, b => by
    show max d.depth (PyData.depthAll (a ++ b)) = max (max d.depth (PyData.depthAll a)) (PyData.depthAll b)
    rw [depths_app a b, Nat.max_assoc]
theorem Szs.app (h1 : Szs m dp n l) (h2 : Szs m dp n' k) : Szs m dp (n + n') (l ++ k) := by
  refine ⟨?_, ?_, ?_, ?_⟩
  · rw [plains_app, h1.pl, h2.pl]
    rfl
  · rw [toPs_app, mxs_app]
    exact Nat.max_le.mpr ⟨h1.mx, h2.mx⟩
  · rw [toPs_app, depths_app]
    exact Nat.max_le.mpr ⟨h1.dep, h2.dep⟩
  · rw [toPs_app, wts_app]
    exact Nat.add_le_add h1.wt h2.wt
theorem Szs.parts (h : Szs m dp n (l ++ k)) : Szs m dp n l ∧ Szs m dp n k := by
  have h1 := h.pl
  have h2 := h.mx
  have h3 := h.dep
  have h4 := h.wt
  rw [plains_app, Bool.and_eq_true] at h1
  rw [toPs_app, mxs_app, Nat.max_le] at h2
  rw [toPs_app, depths_app, Nat.max_le] at h3
  rw [toPs_app, wts_app] at h4
  exact ⟨⟨h1.1, h2.1, h3.1, by omega⟩, ⟨h1.2, h2.2, h3.2, by omega⟩⟩
theorem Szs.take (h : Szs m dp n l) (i : Nat) : Szs m dp n (l.take i) := by
  rw [← List.take_append_drop i l] at h
  exact h.parts.1
theorem Szs.drop (h : Szs m dp n l) (i : Nat) : Szs m dp n (l.drop i) := by
  rw [← List.take_append_drop i l] at h
  exact h.parts.2
theorem Szs.head (h : Szs m dp n (d :: l)) : Sz m dp n d ∧ Szs m dp n l := by
  have h1 : (d.plain && D.plains l) = true := h.pl
  have h2 : max (PK.mx d.toP) (mxs (D.toPs l)) ≤ m := h.mx
  have h3 : max d.toP.depth (PyData.depthAll (D.toPs l)) ≤ dp := h.dep
  have h4 : PK.wt d.toP + 2 + wts (D.toPs l) ≤ n := h.wt
  rw [Bool.and_eq_true] at h1
  rw [Nat.max_le] at h2 h3
  exact ⟨⟨h1.1, h2.1, h3.1, by omega⟩, ⟨h1.2, h2.2, h3.2, by omega⟩⟩
theorem Szs.mem (h : Szs m dp n l) : ∀ d ∈ l, Sz m dp n d := by
  induction l with
  | nil => exact fun _ z => (nomatch z)
  | cons e l ih =>
    intro d hd
    rcases List.mem_cons.mp hd with rfl | hd
    · exact h.head.1
    · exact ih h.head.2 d hd
/-- each of them, so many -/
theorem Szs.each (h : ∀ d ∈ l, Sz m dp n d) : Szs m dp (l.length * (n + 2)) l := by
  induction l with
  | nil => exact Szs.nil
  | cons e l ih =>
    have := Szs.cons (h e List.mem_cons_self) (ih fun d hd => h d (List.mem_cons_of_mem _ hd))
    refine this.mono (Nat.le_refl _) (Nat.le_refl _) ?_
    rw [List.length_cons, Nat.succ_mul]
    omega
theorem Szs.rev (h : Szs m dp n l) : Szs m dp n l.reverse := by
  have key : ∀ l : List D, D.plains l.reverse = D.plains l ∧ mxs (D.toPs l.reverse) = mxs (D.toPs l) ∧ PyData.depthAll (D.toPs l.reverse) = PyData.depthAll (D.toPs l) ∧ wts (D.toPs l.reverse) = wts (D.toPs l) := by
    intro l
    induction l with
    | nil => exact ⟨rfl, rfl, rfl, rfl⟩
    | cons d l ih =>
      obtain ⟨i1, i2, i3, i4⟩ := ih
      rw [List.reverse_cons, plains_app, toPs_app, mxs_app, depths_app, wts_app, i1, i2, i3, i4]
      refine ⟨?_, ?_, ?_, ?_⟩
      · show (D.plains l && (d.plain && true)) = (d.plain && D.plains l)
        rw [Bool.and_true, Bool.and_comm]
      · show max _ (max (PK.mx d.toP) 0) = max (PK.mx d.toP) _
        rw [Nat.max_zero, Nat.max_comm]
      · show max _ (max d.toP.depth 0) = max d.toP.depth _
        rw [Nat.max_zero, Nat.max_comm]
      · show _ + (PK.wt d.toP + 2 + 0) = PK.wt d.toP + 2 + _
        omega
  obtain ⟨i1, i2, i3, i4⟩ := key l
  exact ⟨by rw [i1]; exact h.pl, by rw [i2]; exact h.mx, by rw [i3]; exact h.dep, by rw [i4]; exact h.wt⟩
theorem Sz.tup (h : Szs m dp n l) : Sz m (dp + 1) (n + 3) (.tup l) := by
  refine ⟨h.pl, h.mx, ?_, Nat.add_le_add_right h.wt 3⟩
  show (PyData.tuple (D.toPs l)).depth ≤ _
  rw [depth_tuple]
  exact Nat.succ_le_succ h.dep
theorem Sz.lst (h : Szs m dp n l) : Sz m (dp + 1) (n + 3) (.lst l) := by
  refine ⟨h.pl, h.mx, ?_, Nat.add_le_add_right h.wt 3⟩
  show (PyData.list (D.toPs l)).depth ≤ _
  rw [depth_list]
  exact Nat.succ_le_succ h.dep
theorem Sz.untup (h : Sz m (dp + 1) n (.tup l)) : Szs m dp n l ∧ wts (D.toPs l) + 3 ≤ n := by
  have h3 : (PyData.tuple (D.toPs l)).depth ≤ dp + 1 := h.dep
  rw [depth_tuple] at h3
  have h4 : wts (D.toPs l) + 3 ≤ n := h.wt
  exact ⟨⟨h.pl, h.mx, by omega, by omega⟩, h4⟩
theorem Sz.non (h : 4 ≤ n) : Sz m dp n .non := ⟨rfl, Nat.zero_le _, Nat.zero_le _, h⟩
theorem Sz.bl {b : Bool} (h : 5 ≤ n) : Sz m dp n (.bl b) := ⟨rfl, Nat.zero_le _, Nat.zero_le _, h⟩
theorem Sz.int {i : Int} (h : i.natAbs.log2 ≤ m) (h2 : i.natAbs.log2 + 2 ≤ n) : Sz m dp n (.int i) := ⟨rfl, h, Nat.zero_le _, h2⟩
theorem Sz.str {y : Str} (h : 10 * y.length + 2 ≤ n) : Sz m dp n (.str y) := ⟨rfl, Nat.zero_le _, Nat.zero_le _, h⟩
theorem Sz.sh (h : Sz m dp n d) (h2 : dp ≤ 64) : D.sh d := ⟨h.pl, Nat.le_trans h.dep h2⟩
theorem toPs_len : ∀ l : List D, (D.toPs l).length = l.length
  | [] => rfl
  | d :: l => congrArg (· + 1) (toPs_len l)
theorem Szs.len (h : Szs m dp n l) : 2 * l.length ≤ n := by
  have := wts_len (n := (n + 1) / 2) (ds := D.toPs l) (by have := h.wt; omega)
  have h2 : 2 * (D.toPs l).length ≤ wts (D.toPs l) := by
    generalize D.toPs l = ds
    induction ds with
    | nil => exact Nat.le_refl _
    | cons d ds ih =>
      show 2 * (ds.length + 1) ≤ PK.wt d + 2 + wts ds
      omega
  rw [toPs_len] at h2
  have := h.wt
  omega
end
/-! ### repr -/
theorem call_reprV {X : Cx} {k : Nat} (K : PySem.W.Frag) (hgd : X.A.guards = some []) (hr : Room k X.A) (hK : X.K = K) : CallR X (.builtin "repr")
    (fun xs H Q => ∃ v d, xs = [v] ∧ Dp K H v d ∧ Ok d ∧ d.depth ≤ 100 ∧ d.shown.length ≤ sizeLine ∧ Q (.str d.shown) H) := by
  subst hK
  intro pins s σ H xs us Q I r h
  obtain ⟨v, d, rfl, hd, ok, hdp, hz, q⟩ := h
  obtain ⟨u, rfl, rr⟩ := vals1 r
  have big : ∀ a : Addr, v = .ref a → wpAny (model X.prog X.w) X.A (call (.builtin "repr") [u]) (EP X pins σ Q) X.xe s := by
    rintro a rfl
    cases rr
    obtain ⟨as, rd⟩ := Dp.reads I d _ _ hd rfl
    have hu := hr.un
    refine repr_of_reads' rd ok.sh (fun e => by rw [ok.nd] at e; cases e) hgd (by omega) (fun _ _ e => e) (fun h' u tk hk => ?_) hz
    exact ⟨.str _, H, I.kept (t' := tk) hk, ⟨_, rfl⟩, q⟩
  cases hd with
  | non =>
    cases rr
    exact PySem.P.repr_of_none ⟨.str _, H, I.tok _, ⟨_, rfl⟩, q⟩
  | bl b =>
    cases rr
    refine PySem.P.repr_of_bool ⟨.str _, H, I.tok _, ⟨_, rfl⟩, ?_⟩
    cases b <;> exact q
  | int i =>
    obtain ⟨t, rfl⟩ := rr
    exact PySem.P.repr_of_int (of_decide_eq_true ok.sh) ⟨.str _, H, I.tok _, ⟨_, rfl⟩, q⟩
  | str y =>
    obtain ⟨t, rfl⟩ := rr
    exact PySem.P.repr_of_str ⟨.str _, H, I.tok _, ⟨_, rfl⟩, q⟩ hz
  | lst hs ha => exact big _ rfl
  | tup hs ha => exact big _ rfl
/-- what repr shows -/
def rp (d : D) : D := .txt d.toP.shown
def reprD : List D → W D
  | [d] => (W.want (Sz 1900 64 sizeLine d)).bind fun _ => W.ret (rp d)
  | _ => W.fail
section
variable {X : Cx} {Ξ : Ctx} {H0 : Hp} {O O' Ob : List Nat} {a b c e : Expr} {es : List Expr} {pos : Pos} {pa pb pc : Env → W D} {ps : Env → W (List D)}
theorem repr_ok : CallOk Ξ (fun xs H Q => ∃ v d, xs = [v] ∧ Dp Ξ.K H v d ∧ Ok d ∧ d.depth ≤ 100 ∧ d.shown.length ≤ sizeLine ∧ Q (.str d.shown) H) reprD := by
  intro M H xs ds Q E mu hf h q
  match ds, h, q with
  | [d], .cons h .nil, ⟨z, q⟩ =>
    have ok : Ok d.toP := ok_of (h.lay z.pl) z.mx (by decide)
    exact ⟨_, d.toP, rfl, h.dp z.pl, ok, Nat.le_trans z.dep (by decide), Nat.le_trans (shown_wt _ ok) z.wt, q _ H (Same.refl H) (.txt _)⟩
theorem le_repr {k : Nat} {p pos : Pos} (hgd : X.A.guards = some []) (hr : Room k X.A) (hK : X.K = Ξ.K) (hg : Gl X "repr") (hm : X.mg "repr" = none) (ha : LAB Ξ H0 O X [e] ps) (he : starEach [e] X.env = [(false, eval e X.env)] := by rfl) : LE Ξ H0 O X (.Call (.Name "repr" p) [e] [] pos) fun env => (ps env).bind reprD :=
  le_callB (call_reprV Ξ.K hgd hr hK) repr_ok hg hm (by decide +kernel) ha (by decide) (by decide) he rfl
/-! ### sorted, set -/
def sortD (l : List D) : List D := srt false D.toP l
def ssOf : List D → Option (List Str)
  | [] => some []
  | .str b :: l => (ssOf l).map (b :: ·)
  | _ => none
def sortedW : List D → W D
  | [.lst l] => (W.want (D.plains l = true ∧ Cmpb (D.toPs l) ∧ l.length ≤ sizeLine)).bind fun _ => W.ret (.lst (sortD l))
  | [.set l] => (W.want (l.length ≤ 4090)).bind fun _ => W.ret (.lst ((sortS l).map D.str))
  | _ => W.fail
theorem merge_map {α β : Type} (f : α → β) (le : β → β → Bool) (l : List α) : (l.mergeSort fun a b => le (f a) (f b)).map f = (l.map f).mergeSort le := by
  exact List.map_mergeSort (fun _ _ _ _ => rfl)
theorem RpAll.zipM {H : Hp} : ∀ {xs : List V} {ds : List D}, RpAll Ξ H xs ds → ∀ p ∈ xs.zip ds, Rp Ξ H p.1 p.2
  | _, _, .nil, _, h => (nomatch h)
  | _, _, .cons h1 h2, p, h => by
    rcases List.mem_cons.mp h with rfl | h
    · exact h1
    · exact RpAll.zipM h2 p h
theorem RpAll.ofPairs {H : Hp} : ∀ {bs : List (V × D)}, (∀ p ∈ bs, Rp Ξ H p.1 p.2) → RpAll Ξ H (bs.map (·.1)) (bs.map (·.2))
  | [], _ => .nil
  | b :: bs, h => .cons (h b List.mem_cons_self) (RpAll.ofPairs fun p hp => h p (List.mem_cons_of_mem _ hp))
theorem zip_toP : ∀ (xs : List V) (ds : List D), xs.zip (D.toPs ds) = (xs.zip ds).map fun p => (p.1, p.2.toP)
  | [], _ => rfl
  | _ :: _, [] => rfl
  | x :: xs, d :: ds => by
    show (x, d.toP) :: xs.zip (D.toPs ds) = _
    rw [zip_toP xs ds]
    rfl
/-! ### str, min, max -/
def strW : List D → W D
  | [.int i] => (W.want (i.natAbs.log2 < 1920)).bind fun _ => W.ret (.str (toString i : String))
  | [.bl b] => W.ret (.str (if b then "True" else "False" : String))
  | _ => W.fail
def min2W : List D → W D
  | [.int i, .int j] => W.ret (.int (min i j))
  | _ => W.fail
def max2W : List D → W D
  | [.int i, .int j] => W.ret (.int (max i j))
  | _ => W.fail
theorem max2_ok : CallOk Ξ (fun xs H Q => ∃ i j, xs = [.int i, .int j] ∧ Q (.int (if j > i then j else i)) H) max2W := by
  intro M H xs ds Q E mu hf h q
  match ds, h, q with
  | [.int i, .int j], .cons h (.cons h2 .nil), q =>
    rw [h.intE, h2.intE]
    refine ⟨i, j, rfl, ?_⟩
    have e : (if j > i then j else i) = max i j := by split <;> omega
    rw [e]
    exact at_int _ q
theorem le_max2 {e2 : Expr} {p pos : Pos} (hc : X.calm = true) (hg : Gl X "max") (hm : X.mg "max" = none) (ha : LAB Ξ H0 O X [e, e2] ps) (he : starEach [e, e2] X.env = (false, eval e X.env) :: starEach [e2] X.env := by rfl) (hpl : (backTo pos (starEach [e2] X.env)).any (·.1) = false := by rfl) :
    LE Ξ H0 O X (.Call (.Name "max" p) [e, e2] [] pos) fun env => (ps env).bind max2W := le_callB (call_max2 hc) max2_ok hg hm (by decide +kernel) ha (by decide) (by decide) he hpl
/-! ### join, upper -/
def asS : D → W Str
  | .str a => W.ret a
  | _ => W.fail
def joinW (a : Str) : D → W D
  | .lst l => (optW (ssOf l)).bind fun ys => (W.want ((ys.map (·.length)).sum + ys.length * a.length ≤ 16777216)).bind fun _ => W.ret (.str (Str.join a ys))
  | .tup l => (optW (ssOf l)).bind fun ys => (W.want ((ys.map (·.length)).sum + ys.length * a.length ≤ 16777216)).bind fun _ => W.ret (.str (Str.join a ys))
  | _ => W.fail
end
/-! ### drawing -/
def drawW : List D → W D
  | [.tok 0, .int m] => (W.want (0 < m ∧ m ≤ 1000000)).bind fun _ => (W.any fun r : Int => 0 ≤ r ∧ r < m).bind fun r => W.ret (.int r)
  | _ => W.fail
end LP
namespace LP
open PySem PySem.Spec PyProof.Rows L2 PK RZ
/-- a def's body, run: np parameters, nN names -/
def runB (np nN : Nat) (b : Env → W Fl) (ds : List D) : W D := (W.want (ds.length = np)).bind fun _ => endW (b (startE nN ds))
section
variable {Γ : Sig} {mg : Str → Option Value} {base : Heap}
theorem ok_run {x qual : Str} {st : Stmt} {f : Addr} {fd : FuncData} {N ps : List Str} {k np nN : Nat} {pb : Env → W Fl} (F : Fun Γ.K x qual st f fd) (Sc : FnScope N ps (defScope st)) (h1 : ps.length = np) (h2 : N.length = nN)
    (hbody : ∀ (fe : Fd) (cdv : Value) (A : Around) (outer : List PySem.Env) (s : Shared) (H : Hp) (E : XK), Room k (A.deeper (envOfC qual (defScope st) s.heap.objs.size f cdv)) →
      LSs ⟨Γ, fe⟩ H [] [] [] (cxOf CX0 Γ.P Γ.w Γ.K mg base N qual (defScope st) f cdv A outer s H E).nox (defBody st) pb) : FnOk Γ.P Γ.w Γ.K mg base CX0 (k + 1) f fd ps (liF Γ (runB np nN pb)) := by
  subst h1 h2
  exact ok_by F Sc hbody fun ds Q E h => h
end
section
variable {X : Cx} {Ξ : Ctx} {H0 : Hp} {O O1 O' Ob : List Nat} {st : Stmt} {a b : Expr} {pos : Pos} {p : Env → W Fl} {ps : Env → W (List D)}
theorem lss_last (h1 : LS Ξ H0 O O1 Ob X st p) (hs : O1.filter (fun i => decide (i ∈ O')) = O' := by decide) : LSs Ξ H0 O O' Ob X [st] p := by
  refine wkSs (pss_one h1) fun De σ H ⟨S, A, G, env, E, hA, r, k⟩ => ⟨S, A, G, env, E, hA, r, (p env).mono (fun f k => ?_) (fun _ z => z) k⟩
  cases f with
  | nx env' => exact fun A' σ' H' hA' r' => k _ σ' H' (keys_filter hA' hs) (r'.sub fun i => decide (i ∈ O'))
  | rt d => exact k
  | bk env' => exact k
  | ct env' => exact k
def par2 (i j : Nat) (env : Env) : List D → W Fl
  | [d, e] => W.ret (.nx ((env.set i (some d)).set j (some e)))
  | _ => W.fail
theorem ls_par {i j : Nat} {x y : Str} {px py pt : Pos} {kt k2 pt2} (hc : X.calm = true) (hN : X.N.Nodup) (hi : X.N[i]? = some x) (hj : X.N[j]? = some y) (hij : i ≠ j) (hx : X.env.scope.names.lookup x = some .local) (hy : X.env.scope.names.lookup y = some .local)
    (ha : LA Ξ H0 O X [a, b] ps) (hw : swappedStores [.Tuple [.Name x px, .Name y py] kt pt] (.Tuple [a, b] k2 pt2) X.env = pure (some [x, y])) (hiO : i ∉ O) (hjO : j ∉ O)
    (hs : swapsWithSole [.Tuple [.Name x px, .Name y py] kt pt] (.Tuple [a, b] k2 pt2) pos.line X.env = pure false := by rfl) :
    LS Ξ H0 O O Ob X (.Assign [.Tuple [.Name x px, .Name y py] kt pt] (.Tuple [a, b] k2 pt2) pos) fun env => (ps env).bind (par2 i j env) := by
  refine wkS (ps_par hc hN hi hj hij hx hy ha hw hs) fun De σ H ⟨S, A, G, env, E, hA, r, k⟩ => ⟨S, A, G, env, E, hA, r, (ps env).mono (fun ds k vs H1 g1 r1 hv => ?_) (fun _ z => z) k⟩
  match ds, hv, k with
  | [d, e], .cons h1 (.cons h2 .nil), k =>
    have n : ∀ {i : Nat}, i ∉ O → ∀ a, (i, a) ∉ A := fun h a ha => h (by rw [← hA]; exact List.mem_map.mpr ⟨_, ha, rfl⟩)
    exact ⟨_, _, rfl, k A _ H1 hA ((r1.set (n hiO) h1).set (n hjO) h2)⟩
variable {pa pb : Env → W D}
theorem lt_eq {k : Nat} (hr : Room k X.A) (hK : X.K = Ξ.K) (ha : LB Ξ H0 O X a pa) (hb : LB Ξ H0 O X b pb) : LT Ξ H0 O X (.Compare a [.Eq] [b] pos) fun env => ((pa env).bind fun x => (pb env).bind fun y => eqW x y).bind asB := lt_cmp (op_eq.or (ko_eqD Ξ.K hr hK)) eq_ok (nomark _) ha hb
theorem lt_ne {k : Nat} (hr : Room k X.A) (hK : X.K = Ξ.K) (ha : LB Ξ H0 O X a pa) (hb : LB Ξ H0 O X b pb) : LT Ξ H0 O X (.Compare a [.NotEq] [b] pos) fun env => ((pa env).bind fun x => (pb env).bind fun y => neW x y).bind asB := lt_cmp (op_ne.or (ko_neD Ξ.K hr hK)) ne_ok (nomark _) ha hb
theorem lt_lt (ha : LB Ξ H0 O X a pa) (hb : LB Ξ H0 O X b pb) : LT Ξ H0 O X (.Compare a [.Lt] [b] pos) fun env => ((pa env).bind fun x => (pb env).bind fun y => ltW x y).bind asB := lt_cmp (op_lt.or op_lt_str) ord_ok (nomark _) ha hb
theorem lt_le (ha : LB Ξ H0 O X a pa) (hb : LB Ξ H0 O X b pb) : LT Ξ H0 O X (.Compare a [.LtE] [b] pos) fun env => ((pa env).bind fun x => (pb env).bind fun y => leW x y).bind asB := lt_cmp (op_le.or op_le_str) ord_ok (nomark _) ha hb
theorem lt_gt (ha : LB Ξ H0 O X a pa) (hb : LB Ξ H0 O X b pb) : LT Ξ H0 O X (.Compare a [.Gt] [b] pos) fun env => ((pa env).bind fun x => (pb env).bind fun y => gtW x y).bind asB := lt_cmp (op_gt.or op_gt_str) ord_ok (nomark _) ha hb
theorem lt_ge (ha : LB Ξ H0 O X a pa) (hb : LB Ξ H0 O X b pb) : LT Ξ H0 O X (.Compare a [.GtE] [b] pos) fun env => ((pa env).bind fun x => (pb env).bind fun y => geW x y).bind asB := lt_cmp (op_ge.or op_ge_str) ord_ok (nomark _) ha hb
theorem lt_is (ha : LB Ξ H0 O X a pa) (hb : LB Ξ H0 O X b pb) : LT Ξ H0 O X (.Compare a [.Is] [b] pos) fun env => ((pa env).bind fun x => (pb env).bind fun y => isW x y).bind asB := lt_cmp op_isN is_ok (nomark _) ha hb
end
end LP
namespace PK
open PySem PySem.Spec PyProof.Rows L2

section
variable {P : Program} {w : World} {K : PySem.W.Frag} {mg mb : Str → Option Value} {k : Nat} {fa a : Addr} {fd : FuncData} {x : Str} {sp : Sp}
  {s₁ : Shared} {vs : List Value} {ns : List Int}
abbrev AllTrue (s₁ : Shared) : Result → Shared → Prop :=
  fun r s' => r = .ok (.ret (.bool true)) ∧ OldK s₁.heap s'.heap ∧ s'.os = s₁.os ∧ AllBare s'.gens

/-- what is hidden are the tracked objects: here at most the script -/
theorem core_of {H : Hp} (KX : K.In s₁.heap) (hns : s₁.heap.Ns mainGlobals mg) (hb : s₁.heap.Ns builtinsNs mb)
    (hbb : ∀ y : Str, y ≠ "__name__" → mb y = bootBuiltins y) (hlim : s₁.heap.NoLimit) (hg : s₁.gens = #[])
    (ha : s₁.heap.get? a = some { cls := .type "list", data := .seq vs.toArray }) (hr : Room k callerA)
    (F : ∀ base : Heap, K.In base → base.Ns mainGlobals mg → FnG P w K mg base CX0 k fa fd [x] sp)
    (hbind : ∀ (s : Shared) (u : Value), BindsTo s fd ⟨[u], []⟩ [(x, u)])
    (hO : Only H) (hS : sp [.ref a] H (fun v _ => v = .bl true) fun _ _ _ => False) (hok : HOk P w H s₁.heap)
    (hA : ∀ b u, H b = some u → b = a) (hK : ∀ u, H a = some u → K.lookup a = none) :
    codeAny (model P w) callerA (.call (.ref fa) ⟨[.ref a], []⟩) (AllTrue s₁) s₁ := by
  have free : ∀ {b : Addr} {o : Obj}, s₁.heap.get? b = some o → (∀ es ep, o.data = .dict es ep → True) → (∃ es ep, o.data = .dict es ep) → H b = none := by
    intro b o e _ ⟨es, ep, d⟩
    cases q : H b with
    | none => rfl
    | some u =>
      have e1 := hA b u q
      rw [e1, ha] at e
      rw [← Option.some.inj e] at d
      cases d
  have toNs : ∀ {b : Addr} {m : Str → Option Value}, s₁.heap.Ns b m → (hidT s₁.heap H).Ns b m := by
    rintro b m ⟨o, es, ep, e, d, r⟩
    exact ⟨o, es, ep, hidT_get e (free e (fun _ _ _ => trivial) ⟨es, ep, d⟩), d, r⟩
  have KB : K.In (hidT s₁.heap H) := by
    intro b o e
    refine hidT_get (KX b o e) ?_
    cases q : H b with
    | none => rfl
    | some u =>
      have e1 := hA b u q
      subst e1
      rw [hK u q] at e
      cases e
  obtain ⟨mc, l1, l2⟩ := hlim
  have M : Mod K mg (hidT s₁.heap H) := ⟨KB, toNs hns, ⟨mb, toNs hb, hbb⟩, ⟨mc, toNs l1, l2⟩⟩
  have e0 : Env0 P w K mg (hidT s₁.heap H) callerA [] s₁ H :=
    { frames := rfl, mod := M, bs := fun b o e => of_hidT e, bsz := Nat.le_of_eq (hidT_size _ _), funs := trivial,
      frf := fun b z => absurd z (List.not_mem_nil), hok := hok, bare := .of_eq hg }
  refine codeAny_mono ((F _ KB (toNs hns)).go (us := [.ref a]) (vs := [.ref a]) rfl hr e0 (hbind s₁ (.ref a)) (.cons rfl .nil) hS) ?_
  intro res s' h
  match res, h with
  | .error _, h => exact h.elim
  | .ok .next, h => exact h.elim
  | .ok .brk, h => exact h.elim
  | .ok .cont, h => exact h.elim
  | .ok (.ret u), h =>
    obtain ⟨v, H', os, bare, un, hok', rv, ev⟩ := h
    have ev' : v = .bl true := ev
    subst ev'
    cases rv
    refine ⟨rfl, OldK.of_keep fun b o e => ?_, os, bare⟩
    rcases hO b with z | ⟨ob, xs, z⟩
    · exact un.keep b o e z (by intro z'; cases z') (by intro z'; cases z')
    · have z2 := hok' b _ (un.frzs b ob _ z)
      have z1 := hok b _ z
      have e1 : ob = o := Option.some.inj (z1.1.symm.trans e)
      rw [← e1]
      exact z2.1

theorem law_goG (KX : K.In s₁.heap) (hns : s₁.heap.Ns mainGlobals mg) (hb : s₁.heap.Ns builtinsNs mb)
    (hbb : ∀ y : Str, y ≠ "__name__" → mb y = bootBuiltins y) (hlim : s₁.heap.NoLimit) (hg : s₁.gens = #[])
    (ha : s₁.heap.get? a = some { cls := .type "list", data := .seq vs.toArray }) (hi : IntsAre vs ns) (hl : ns.length ≤ sizeLine) (hr : Room k callerA)
    (F : ∀ base : Heap, K.In base → base.Ns mainGlobals mg → FnG P w K mg base CX0 k fa fd [x] sp)
    (hbind : ∀ (s : Shared) (u : Value), BindsTo s fd ⟨[u], []⟩ [(x, u)])
    (hsp : ∀ H : Hp, Only H → SqL K H a (ns.map V.int) → sp [.ref a] H (fun v _ => v = .bl true) fun _ _ _ => False) :
    codeAny (model P w) callerA (.call (.ref fa) ⟨[.ref a], []⟩) (AllTrue s₁) s₁ := by
  have rv := vals_ints hi
  have lz : (ns.map V.int).length ≤ sizeLine := by rw [List.length_map]; exact hl
  cases hk : K.lookup a with
  | some o =>
    have e : o = _ := Option.some.inj ((KX a o hk).symm.trans ha)
    have hO : Only (fun _ => none) := fun _ => Or.inl rfl
    refine core_of (H := fun _ => none) KX hns hb hbb hlim hg ha hr F hbind hO (hsp _ hO ?_) (fun _ _ z => by cases z) (fun _ _ z => by cases z) (fun _ z => by cases z)
    refine Or.inr ⟨o, vs.toArray, 0, hk, ?_, ?_, ?_, ?_, ?_⟩
    · rw [e]
    · rw [e]
    · rw [e]
    · rw [List.size_toArray, hi.length]; exact hl
    · simpa using rv
  | none =>
    let ob : Obj := { cls := .type "list", data := .seq vs.toArray }
    let Hs : Hp := upd (fun _ => none) a (.frz ob (.lst (ns.map V.int)))
    have hO : Only Hs := fun b => by
      by_cases z : b = a
      · subst z
        exact Or.inr ⟨ob, _, upd_same⟩
      · exact Or.inl (upd_ne z)
    have only : ∀ b u, Hs b = some u → b = a ∧ u = .frz ob (.lst (ns.map V.int)) := fun b u q => by
      by_cases z : b = a
      · subst z
        rw [show Hs b = _ from upd_same] at q
        exact ⟨rfl, (Option.some.inj q).symm⟩
      · rw [show Hs b = _ from upd_ne z] at q
        cases q
    refine core_of (H := Hs) KX hns hb hbb hlim hg ha hr F hbind hO (hsp _ hO (Or.inl (Or.inr ⟨ob, upd_same⟩))) (fun b u q => ?_) (fun b u q => (only b u q).1) (fun _ _ => hk)
    obtain ⟨rfl, rfl⟩ := only b u q
    exact ⟨ha, lz, vs, 0, rv, ha⟩
end

theorem walk_ofG {l : PySem.W.OpenLaw} {n k : Nat} {q : Program} {loose : List Str} {XP : (Str → Option Value) → Heap → Prop} {YP : World → Heap → Prop}
    {d : DefRec} {K : Params → PySem.W.Frag} {sp : World → Sp} {x : Str}
    (hn : l.most = some n) (hn2 : n ≤ sizeLine) (hdf : d.params.defaults = []) (hr : Room k callerA)
    (hY : ∀ (w : World) (h : Heap), YP w h → (K w.params).In h)
    (F : ∀ (w : World) (mg : Str → Option Value) (fa : Addr) (h : Heap), (K w.params).In h → h.Ns mainGlobals mg → mg d.name = some (.ref fa) →
      ∃ fd : FuncData, (∀ (s : Shared) (u : Value), BindsTo s fd ⟨[u], []⟩ [(x, u)]) ∧
        ∀ base : Heap, (K w.params).In base → base.Ns mainGlobals mg → FnG l.prog w (K w.params) mg base CX0 k fa fd [x] (sp w))
    (hsp : ∀ (w : World) (H : Hp) (a : Addr) (ns : List Int), ns.length ≤ n → Only H → SqL (K w.params) H a (ns.map V.int) →
      sp w [.ref a] H (fun v _ => v = .bl true) fun _ _ _ => False) :
    PySem.W.WalkO q loose XP YP l.row.toRowW d [] (fun f vs => PySem.call f vs) := by
  refine Att.attach_call hn hdf ?_
  intro w s₀ s₁ mg mb fa o pm cd doc a vs ns G Y ho hd hcd hmg hobj hints hlen hg
  have KX := hY w _ Y
  obtain ⟨fd, hb, hF⟩ := F w mg fa _ KX G.T.g hmg
  exact law_goG KX G.T.g G.T.b G.T.builtins G.T.nolimit hg hobj hints (Nat.le_trans hlen hn2) hr hF hb fun H hO hS => hsp w H a ns hlen hO hS
end PK
namespace LP
open PySem PySem.Spec PyProof.Rows L2 PK RZ
/-! ### the law's own def -/
/-- what the law draws from is made of the script -/
def spFeedOf (fk : Hp → Addr → Addr → Prop) (K : PySem.W.Frag) : Sp := fun vs H Q _ => ∃ (a : Addr) (ns : List Int), vs = [.ref a] ∧ SqL K H a (ns.map V.int) ∧
  ∀ p c H', H p = none → Same H H' → fk H' p c → Q (.ref p) H'
def spLawK (K : PySem.W.Frag) : Sp := fun vs H Q _ => ∃ (a : Addr) (ns : List Int), vs = [.ref a] ∧ SqL K H a (ns.map V.int) ∧ ∀ H', Q (.bl true) H'
def tRest (Γ : Sig) (pb : Env → W Fl) : TS := fun De σ H => ∃ a c H0, liS ⟨Γ, .some (a, c)⟩ H0 [] [] [] pb De σ H
theorem pss_rest {X : Cx} {Γ : Sig} {sts : List Stmt} {pb : Env → W Fl} (h : ∀ a c H0, LSs ⟨Γ, .some (a, c)⟩ H0 [] [] [] X sts pb) : PSs X sts (tRest Γ pb) :=
  ⟨fun pins s σ H D I ⟨a, c, H0, q⟩ => (h a c H0).run pins s σ H D I q⟩
/-- the names at the law's start -/
def lawE (n : Nat) : Env := (List.replicate n none).set 1 (some (.tok 0))
section
variable {Γ : Sig} {mg : Str → Option Value} {base : Heap}
theorem law_by {st : Stmt} {f : Addr} {fd : FuncData} {N : List Str} {k nN : Nat} {s0 : Str} {pb : Env → W Fl} (F : Fun Γ.K "law" "law" st f fd) (Sc : FnScope N [s0] (defScope st)) (hn : N.length = nN) (h1 : 1 < nN)
    (hb : ∀ (cdv : Value) (A : Around) (outer : List PySem.Env) (s : Shared) (H : Hp) (E : XK), A.guards = some [] → Room k (A.deeper (envOfC "law" (defScope st) s.heap.objs.size f cdv)) →
      PSs (cxOf CX0 Γ.P Γ.w Γ.K mg base N "law" (defScope st) f cdv A outer s H E).nox (defBody st) (tSeq (tAsg (tCall (spFeedOf Γ.fk Γ.K) [] (fun _ _ _ => True) (tCons (tVar 0) tNil)) (gName 1)) (tRest Γ pb)))
    (hp : (pb (lawE nN)).wp (fun f => ∃ b, f = .rt (.bl b) ∧ b = true) fun _ => False) : FnG Γ.P Γ.w Γ.K mg base CX0 (k + 1) f fd [s0] (spLawK Γ.K) := by
  subst hn
  refine funG_ok F Sc (fun vs H Q E h => ?_) (fun cdv A outer s H vs Q E hgd hr h => ?_)
  · obtain ⟨a, ns, rfl, _⟩ := h
    rfl
  · obtain ⟨a, ns, rfl, hS, q⟩ := h
    refine ⟨_, hb cdv A outer s H E hgd hr, ?_⟩
    refine ⟨.ref a, by rfl, a, ns, rfl, hS, fun p c H' np sm fk => ?_⟩
    have e0 : (L2.start N [V.ref a]).length = N.length := by
      unfold L2.start
      simp
      omega
    refine ⟨p, c, H', [p, c], [], [], lawE N.length, fun _ => False, rfl, ?_, ?_⟩
    · refine ⟨?_, fun i d hd _ => ?_, fun i a h => (nomatch h), fun i a h => (nomatch h), List.nodup_nil, List.nodup_nil, fun x hx => (nomatch hx), fun b hb => ?_, fk, fun b hb => hb, Gr.refl H'⟩
      · rw [List.length_set, e0]
        simp [lawE]
      · unfold lawE at hd
        by_cases z : 1 = i
        · subst z
          rw [List.getElem?_set_self (by simpa using h1)] at hd
          cases hd
          exact ⟨.ref p, List.getElem?_set_self (by rw [e0]; exact h1), .tok rfl⟩
        · rw [List.getElem?_set_ne z] at hd
          have := List.mem_of_getElem? hd
          rw [List.mem_replicate] at this
          cases this.2
      · obtain ⟨m1, m2⟩ := Γ.fkm H' p c fk
        rcases List.mem_cons.mp hb with rfl | hb
        · exact m1
        · rw [List.mem_singleton.mp hb]
          exact m2
    · refine W.mono _ (fun fl hf => ?_) (fun _ z => z) hp
      obtain ⟨b, rfl, rfl⟩ := hf
      intro v H2 g f _ hv
      cases hv
      exact q H2
end
/-- nothing is promised -/
theorem ok_none {P : Program} {w : World} {K : PySem.W.Frag} {mg : Str → Option Value} {base : Heap} {Γ : Sig} {k : Nat} {f : Addr} {fd : FuncData} {ps : List Str} : FnOk P w K mg base CX0 k f fd ps (liF Γ fun _ => W.fail) :=
  ⟨fun vs H Q E h => by
    obtain ⟨_, _, _, _, _, _, _, _, _, q⟩ := h
    exact q.elim, fun A outer s H args us vs Q E hr e0 hb hv h => by
    obtain ⟨_, _, _, _, _, _, _, _, _, q⟩ := h
    exact q.elim⟩
section
variable {X : Cx} {Ξ : Ctx} {H0 : Hp} {O : List Nat} {o : Expr} {pa : Env → W D}
def upS (a : Str) : Str := ⟨a.cps.map up1⟩
def upperW (a : Str) : W D := (W.want (a.length ≤ 1000 ∧ ∀ c ∈ a.cps.toList, c < 128)).bind fun _ => W.ret (.str (upS a))
end
end LP
namespace LP
open PySem PySem.Spec PyProof.Rows L2 PK RZ
/-! ### by equations -/
namespace W
variable {α β : Type}
theorem want_bind {p : Prop} {f : Unit → W α} (h : p) : bind (want p) f = f () := by
  refine ext ?_
  funext Q E
  exact propext ⟨fun q => q.2, fun q => ⟨h, q⟩⟩
end W
theorem optW_some {α : Type} (x : α) : optW (some x) = W.ret x := rfl
theorem asB_bl (b : Bool) : asB (.bl b) = W.ret b := rfl
theorem asS_str (b : Str) : asS (.str b) = W.ret b := rfl
theorem small {n : Nat} (h : n ≤ 1000000) : n ≤ sizeLine := Nat.le_trans h (by decide)
theorem smallT {n : Nat} (h : n ≤ 1000000) : n < sizeLine := Nat.lt_of_le_of_lt h (by decide)
theorem eqW_sh {a b : D} (h1 : D.sh a) (h2 : D.sh b) : eqW a b = W.ret (.bl (D.eqv a b)) := by
  unfold eqW
  split
  · exact absurd h1.1 Bool.false_ne_true
  · exact W.want_bind ⟨h1, h2⟩
theorem neW_sh {a b : D} (h1 : D.sh a) (h2 : D.sh b) : neW a b = W.ret (.bl (!D.eqv a b)) := by
  unfold neW
  split
  · exact absurd h1.1 Bool.false_ne_true
  · exact W.want_bind ⟨h1, h2⟩
theorem sh_int (i : Int) : D.sh (.int i) := ⟨rfl, Nat.zero_le _⟩
theorem sh_str (i : Str) : D.sh (.str i) := ⟨rfl, Nat.zero_le _⟩
theorem eqW_int (i j : Int) : eqW (.int i) (.int j) = W.ret (.bl (i == j)) := eqW_sh (sh_int i) (sh_int j)
theorem eqW_str (i j : Str) : eqW (.str i) (.str j) = W.ret (.bl (i == j)) := eqW_sh (sh_str i) (sh_str j)
theorem neW_str (i j : Str) : neW (.str i) (.str j) = W.ret (.bl (!(i == j))) := neW_sh (sh_str i) (sh_str j)
theorem rp_eq (d e : D) : eqW (rp d) (rp e) = W.ret (.bl (decide (d.toP.shown = e.toP.shown))) := rfl
theorem rp_ne (d e : D) : neW (rp d) (rp e) = W.ret (.bl (!decide (d.toP.shown = e.toP.shown))) := rfl
theorem rp_self (d : D) : eqW (rp d) (rp d) = W.ret (.bl true) := by rw [rp_eq, decide_eq_true rfl]
theorem rp_same (d : D) : neW (rp d) (rp d) = W.ret (.bl false) := by rw [rp_ne, decide_eq_true rfl]; rfl
theorem reprD_eq {d : D} (h : Sz 1900 64 sizeLine d) : reprD [d] = W.ret (rp d) := W.want_bind h
/-! ### comprehensions, by equations -/
/-! ### what may come out, by what is wanted -/
theorem lcW_wp {g : D → Env → W Env} {t : Env → W Bool} {el : Env → W D} {env : Env} {E : Ex → Prop} (P : Nat → List D → Prop) : ∀ {ds : List D} {k : Nat} {acc : List D} {Q : List D → Prop}, P k acc →
    (∀ i d acc, ds[i]? = some d → P (k + i) acc → (g d env).wp (fun env' => (t env').wp (fun b => match b with
      | true => (el env').wp (fun y => acc.length < sizeLine ∧ P (k + i + 1) (acc ++ [y])) fun _ => False
      | false => P (k + i + 1) acc) fun _ => False) fun _ => False) →
    (∀ acc, P (k + ds.length) acc → Q acc) → (lcW g t el env ds acc).wp Q E
  | [], k, acc, Q, h0, _, hq => hq acc h0
  | d :: ds, k, acc, Q, h0, hs, hq => by
    have h := hs 0 d acc rfl h0
    refine W.mono (g d env) (fun env' h2 => ?_) (fun _ z => z) h
    refine W.mono (t env') (fun b h3 => ?_) (fun _ z => z) h2
    have ih : ∀ acc, P (k + 1) acc → (lcW g t el env ds acc).wp Q E := fun acc h1 => lcW_wp P (k := k + 1) h1 (fun i e acc he hp => by
      have := hs (i + 1) e acc (by simpa using he) (by rw [show k + (i + 1) = k + 1 + i by omega]; exact hp)
      rw [show k + (i + 1) + 1 = k + 1 + i + 1 by omega] at this
      exact this) (fun acc hp => hq acc (by rw [List.length_cons, show k + (ds.length + 1) = k + 1 + ds.length by omega]; exact hp))
    cases b with
    | false => exact ih acc h3
    | true => exact W.mono (el env') (fun y h4 => ⟨h4.1, ih _ h4.2⟩) (fun _ z => z) h3
/-- a for: an invariant by how many were gone through -/
theorem forW_wp {g : D → Env → W Env} {p : Env → W Fl} {E : Ex → Prop} {Q : Fl → Prop} (P : Nat → Env → Prop) : ∀ {ds : List D} {k : Nat} {env : Env}, P k env →
    (∀ i d env, ds[i]? = some d → P (k + i) env → (g d env).wp (fun env1 => (p env1).wp (fun f => match f with
      | .nx e => P (k + i + 1) e
      | .ct e => P (k + i + 1) e
      | .bk e => Q (.nx e)
      | .rt d => Q (.rt d)) E) E) →
    (∀ env, P (k + ds.length) env → Q (.nx env)) → (forW g p ds env).wp Q E
  | [], k, env, h0, _, hq => hq env h0
  | d :: ds, k, env, h0, hs, hq => by
    have h := hs 0 d env rfl h0
    refine W.mono (g d env) (fun env1 h2 => ?_) (fun _ z => z) h
    refine W.mono (p env1) (fun f h3 => ?_) (fun _ z => z) h2
    have ih : ∀ e, P (k + 1) e → (forW g p ds e).wp Q E := fun e h1 => forW_wp P (k := k + 1) h1 (fun i d e' he hp => by
      have := hs (i + 1) d e' (by simpa using he) (by rw [show k + (i + 1) = k + 1 + i by omega]; exact hp)
      rw [show k + (i + 1) + 1 = k + 1 + i + 1 by omega] at this
      exact this) (fun e' hp => hq e' (by rw [List.length_cons, show k + (ds.length + 1) = k + 1 + ds.length by omega]; exact hp))
    cases f with
    | nx e => exact ih e h3
    | ct e => exact ih e h3
    | bk e => exact h3
    | rt d => exact h3
theorem forW_wp0 {g : D → Env → W Env} {p : Env → W Fl} {E : Ex → Prop} {Q : Fl → Prop} {ds : List D} {env : Env} (P : Nat → Env → Prop) (h0 : P 0 env)
    (hs : ∀ i d env, ds[i]? = some d → P i env → (g d env).wp (fun env1 => (p env1).wp (fun f => match f with
      | .nx e => P (i + 1) e
      | .ct e => P (i + 1) e
      | .bk e => Q (.nx e)
      | .rt d => Q (.rt d)) E) E)
    (hq : ∀ env, P ds.length env → Q (.nx env)) : (forW g p ds env).wp Q E := by
  refine forW_wp P (k := 0) h0 (fun i d e hd hp => ?_) (fun e hp => hq e ?_)
  · rw [Nat.zero_add] at hp ⊢
    exact hs i d e hd hp
  · rw [Nat.zero_add] at hp
    exact hp
/-- a draw -/
theorem draw_wp {m : Int} {Q : D → Prop} {E : Ex → Prop} (h0 : 0 < m) (h1 : m ≤ 1000000) (h : ∀ r : Int, 0 ≤ r → r < m → Q (.int r)) : (drawW [.tok 0, .int m]).wp Q E := ⟨⟨h0, h1⟩, fun r hr => h r hr.1 hr.2⟩
/-! ### surely -/
/-- m gives r -/
def Ret {α : Type} (m : W α) (r : α) : Prop := ∀ Q E, Q r → m.wp Q E
theorem Ret.go {α : Type} {m : W α} {r : α} {Q : α → Prop} {E : Ex → Prop} (h : Ret m r) (q : Q r) : m.wp Q E := h Q E q
theorem Ret.ret {α : Type} (r : α) : Ret (W.ret r) r := fun _ _ q => q
theorem Ret.bind {α β : Type} {m : W α} {f : α → W β} {a : α} {b : β} (h1 : Ret m a) (h2 : Ret (f a) b) : Ret (W.bind m f) b := fun Q E q => h1 _ E (h2 Q E q)
theorem lc_ret {g : D → Env → W Env} {t : Env → W Bool} {el : Env → W D} {vs : List Nat} {pi : Env → W (List D)} {env : Env} {ds : List D} (tb : D → Bool) (f : D → D) (hi : Ret (pi env) ds) (hl : ds.length ≤ sizeLine)
    (h : ∀ d ∈ ds, (g d (wipeE env vs)).wp (fun env' => (t env').wp (fun b => b = tb d ∧ (b = true → (el env').wp (fun y => y = f d) fun _ => False)) fun _ => False) fun _ => False) : Ret (lcD g t el vs pi env) (.lst ((ds.filter tb).map f)) := by
  intro Q E q
  refine hi _ E ?_
  refine lcW_wp (k := 0) (fun i acc => acc = ((ds.take i).filter tb).map f) rfl (fun i d acc hd hp => ?_) (fun acc hp => ?_)
  · rw [Nat.zero_add] at hp ⊢
    have hi : i < ds.length := (List.getElem?_eq_some_iff.mp hd).1
    refine W.mono _ (fun env' h2 => ?_) (fun _ z => z) (h d (List.mem_of_getElem? hd))
    refine W.mono _ (fun b h3 => ?_) (fun _ z => z) h2
    obtain ⟨rfl, h3⟩ := h3
    cases e : tb d with
    | false =>
      show acc = _
      rw [hp, take_snoc hd, List.filter_append, List.filter_cons_of_neg (by rw [e]; exact Bool.false_ne_true), List.filter_nil, List.append_nil]
    | true =>
      refine W.mono _ (fun y h4 => ⟨?_, ?_⟩) (fun _ z => z) (h3 e)
      · rw [hp, List.length_map]
        have := List.length_filter_le tb (ds.take i)
        rw [List.length_take] at this
        omega
      · rw [hp, h4, take_snoc hd, List.filter_append, List.filter_cons_of_pos e, List.map_append]
        rfl
  · rw [Nat.zero_add, List.take_length] at hp
    rw [hp]
    exact q
theorem lc_map {g : D → Env → W Env} {el : Env → W D} {vs : List Nat} {pi : Env → W (List D)} {env : Env} {ds : List D} (f : D → D) (hi : Ret (pi env) ds) (hl : ds.length ≤ sizeLine)
    (h : ∀ d ∈ ds, (g d (wipeE env vs)).wp (fun env' => (el env').wp (fun y => y = f d) fun _ => False) fun _ => False) : Ret (lcD g (fun _ => W.ret true) el vs pi env) (.lst (ds.map f)) := by
  have := lc_ret (t := fun _ => W.ret true) (fun _ => true) f hi hl fun d hd => W.mono _ (fun env' h2 => ⟨rfl, fun _ => h2⟩) (fun _ z => z) (h d hd)
  rw [List.filter_eq_self.mpr (fun _ _ => rfl)] at this
  exact this
/-! ### to go through what a body asks -/
section
variable {α β : Type}
theorem s_ite {k : Bool} {x y : W α} {Q : α → Prop} {E : Ex → Prop} : (W.ite k x y).wp Q E ↔ (k = true → x.wp Q E) ∧ (k = false → y.wp Q E) := by
  cases k
  · exact ⟨fun h => ⟨fun z => (nomatch z), fun _ => h⟩, fun h => h.2 rfl⟩
  · exact ⟨fun h => ⟨fun _ => h, fun z => (nomatch z)⟩, fun h => h.1 rfl⟩
theorem s_get0 {d : D} {l : Env} : getW (some d :: l) 0 = W.ret d := rfl
theorem s_get {a : Option D} {l : Env} {i : Nat} : getW (a :: l) (i + 1) = getW l i := rfl
theorem s_then {m : W Fl} {q : Env → W Fl} {Q : Fl → Prop} {E : Ex → Prop} : (thenW m q).wp Q E ↔ m.wp (fun f => (match f with | .nx e => q e | f => W.ret f : W Fl).wp Q E) E := Iff.rfl
theorem s_end {m : W Fl} {Q : D → Prop} {E : Ex → Prop} : (endW m).wp Q E ↔ m.wp (fun f => (match f with | .rt d => W.ret d | .nx _ => W.ret .non | _ => W.fail : W D).wp Q E) E := Iff.rfl
theorem s_run {np nN : Nat} {b : Env → W Fl} {ds : List D} {Q : D → Prop} {E : Ex → Prop} : (runB np nN b ds).wp Q E ↔ ds.length = np ∧ (endW (b (startE nN ds))).wp Q E := Iff.rfl
theorem s_calm {m : W α} {Q : α → Prop} {E : Ex → Prop} : (W.calm m).wp Q E ↔ m.wp Q fun _ => False := Iff.rfl
theorem s_fail {Q : α → Prop} {E : Ex → Prop} : (W.fail : W α).wp Q E ↔ False := Iff.rfl
theorem s_start1 {n : Nat} {a : D} : startE n [a] = some a :: List.replicate (n - 1) none := rfl
theorem s_start2 {n : Nat} {a b : D} : startE n [a, b] = some a :: some b :: List.replicate (n - 2) none := rfl
theorem s_start3 {n : Nat} {a b c : D} : startE n [a, b, c] = some a :: some b :: some c :: List.replicate (n - 3) none := rfl
theorem s_start4 {n : Nat} {a b c d : D} : startE n [a, b, c, d] = some a :: some b :: some c :: some d :: List.replicate (n - 4) none := rfl
theorem s_start5 {n : Nat} {a b c d e : D} : startE n [a, b, c, d, e] = some a :: some b :: some c :: some d :: some e :: List.replicate (n - 5) none := rfl
end
theorem isi_non (T : String) : isiW T .non = W.ret (.bl ("NoneType" == T || ("NoneType" == "bool" && T == "int"))) := rfl
theorem isi_bl (T : String) (b : Bool) : isiW T (.bl b) = W.ret (.bl ("bool" == T || ("bool" == "bool" && T == "int"))) := rfl
theorem isi_int (T : String) (b : Int) : isiW T (.int b) = W.ret (.bl ("int" == T || ("int" == "bool" && T == "int"))) := rfl
theorem isi_str (T : String) (b : Str) : isiW T (.str b) = W.ret (.bl ("str" == T || ("str" == "bool" && T == "int"))) := rfl
theorem isi_tup (T : String) (b : List D) : isiW T (.tup b) = W.ret (.bl ("tuple" == T || ("tuple" == "bool" && T == "int"))) := rfl
theorem isi_lst (T : String) (b : List D) : isiW T (.lst b) = W.ret (.bl ("list" == T || ("list" == "bool" && T == "int"))) := rfl
theorem lcD_go {g : D → Env → W Env} {t : Env → W Bool} {el : Env → W D} {vs : List Nat} {pi : Env → W (List D)} {env : Env} {E : Ex → Prop} {Q : D → Prop} (h : (pi env).wp (fun ds => (lcW g t el (wipeE env vs) ds []).wp (fun l => Q (.lst l)) E) E) : (lcD g t el vs pi env).wp Q E := h
/-- .. with a test -/
theorem lcW_goT {g : D → Env → W Env} {t : Env → W Bool} {el : Env → W D} {env : Env} {E : Ex → Prop} {Q : List D → Prop} {ds : List D} (P : Nat → List D → Prop) (h0 : P 0 []) (hs : ∀ i d acc, ds[i]? = some d → P i acc → (g d env).wp (fun env' => (t env').wp (fun b => (b = true → (el env').wp (fun y => acc.length < sizeLine ∧ P (i + 1) (acc ++ [y])) fun _ => False) ∧ (b = false → P (i + 1) acc)) fun _ => False) fun _ => False)
    (hq : ∀ acc, P ds.length acc → Q acc) : (lcW g t el env ds []).wp Q E := by
  refine lcW_wp (k := 0) P h0 (fun i d acc hd hp => ?_) (fun acc hp => hq acc ?_)
  · rw [Nat.zero_add] at hp ⊢
    refine W.mono _ (fun env' h => W.mono _ (fun b h => ?_) (fun _ z => z) h) (fun _ z => z) (hs i d acc hd hp)
    cases b with
    | true => exact h.1 rfl
    | false => exact h.2 rfl
  · rw [Nat.zero_add] at hp
    exact hp
theorem Sz.i0 {m dp n : Nat} (h : 2 ≤ n) : Sz m dp n (.int 0) := Sz.int (by rw [show (0 : Int).natAbs.log2 = 0 by decide]; exact Nat.zero_le _) (by rw [show (0 : Int).natAbs.log2 = 0 by decide]; exact h)
theorem Sz.i1 {m dp n : Nat} (h : 2 ≤ n) : Sz m dp n (.int 1) := Sz.int (by rw [show (1 : Int).natAbs.log2 = 0 by decide]; exact Nat.zero_le _) (by rw [show (1 : Int).natAbs.log2 = 0 by decide]; exact h)
end LP
namespace LP
open PySem PySem.Spec PyProof.Rows L2 PK RZ
/-! ### a list and a list, owned -/
section
variable {X : Cx} {Ξ : Ctx} {H0 : Hp} {O : List Nat} {a b : Expr} {pos : Pos} {pa pb : Env → W D}
end
end LP
namespace LP
open PySem PySem.Spec PyProof.Rows L2 PK RZ
/-! ### the least of a list -/
section
variable {X : Cx} {Ξ : Ctx} {H0 : Hp} {O : List Nat} {e : Expr} {ps : Env → W (List D)}
end
end LP
namespace LP
open PySem PySem.Spec PyProof.Rows L2 PK RZ
/-! ### put into an owned list at a place; the last one out -/
def insW (ds : List D) (l : List D) : W (List D) := match ds with
  | [.int i, d] => (W.want (l.length < sizeLine ∧ 0 ≤ i ∧ i < 2 ^ 63)).bind fun _ => W.ret (l.take i.toNat ++ [d] ++ l.drop i.toNat)
  | _ => W.fail
section
variable {X : Cx} {Ξ : Ctx} {H0 : Hp} {O Ob : List Nat} {e : Expr} {es : List Expr} {ps : Env → W (List D)} {pos : Pos}
end
end LP
namespace LP
open PySem PySem.Spec PyProof.Rows L2 PK RZ
/-! ### a place of an owned list set; the last one taken out -/
def setLW (i d : D) (l : List D) : W (List D) := match i with
  | .int k => (optW (ixN l.length k)).bind fun j => W.ret (l.set j d)
  | _ => W.fail
section
variable {X : Cx} {Ξ : Ctx} {H0 : Hp} {O Ob : List Nat} {e ix : Expr} {pv' pi' : Env → W D} {pos : Pos}
end
end LP
namespace LP
open PySem PySem.Spec PyProof.Rows L2 PK RZ
/-! ### from a to b -/
section
variable {X : Cx} {Ξ : Ctx} {H0 : Hp} {O : List Nat} {tg : Expr}
end
end LP
namespace LP
open PySem PySem.Spec PyProof.Rows L2 PK RZ
/-! ### a list, with its places -/
section
variable {X : Cx} {Ξ : Ctx} {H0 : Hp} {O : List Nat} {e : Expr} {ps : Env → W (List D)}
end
end LP
namespace LP
open PySem PySem.Spec PyProof.Rows L2 PK RZ
/-! ### two clauses in one comprehension -/
section
variable {X : Cx} {Ξ : Ctx} {H0 : Hp} {O : List Nat}
end
end LP
namespace LP
open PySem PySem.Spec PyProof.Rows L2 PK RZ
end LP
/-! Heaps by value. -/
namespace LP
open PySem PySem.Spec PyProof.Rows L2 PK RZ
/-! ### rows, heaps as things -/
def rowT (r : PRow) : D := .tup [.str r.1, .str r.2.1, .int r.2.2]
def rowsT (L : List PRow) : D := .tup (L.map rowT)
def heapD (L : List PRow) : D := .obj 0 [rowsT L]
def rowOf : D → Option PRow
  | .tup [.str f, .str s, .int n] => some (f, s, n)
  | _ => none
def rowsOf1 : List D → Option (List PRow)
  | [] => some []
  | d :: l => (rowOf d).bind fun r => (rowsOf1 l).map fun L => r :: L
def rowsOf : D → Option (List PRow)
  | .tup l => rowsOf1 l
  | _ => none
def heapOf : D → Option (List PRow)
  | .obj 0 [d] => rowsOf d
  | _ => none
/-- texts that may stand -/
def RowS (L : List PRow) : Prop := ∀ r ∈ L, PyData.strOk r.1 = true ∧ PyData.strOk r.2.1 = true
theorem RowS.sub {L M : List PRow} (h : RowS L) (k : ∀ r ∈ M, ∃ q ∈ L, PK.pk r = PK.pk q) : RowS M := fun r hr => by
  obtain ⟨q, hq, e⟩ := k r hr
  have e1 : r.1 = q.1 := congrArg (fun k : PKey => k.1) e
  have e2 : r.2.1 = q.2.1 := congrArg (fun k : PKey => k.2) e
  rw [e1, e2]
  exact h q hq
theorem RowS.app {L M : List PRow} (h : RowS L) (k : RowS M) : RowS (L ++ M) := fun r hr => (List.mem_append.mp hr).elim (h r) (k r)
theorem sumR_keyIn {L : List PRow} {r : PRow} (h : r ∈ sumR L) : ∃ q ∈ L, PK.pk r = PK.pk q := by
  have : PK.pk r ∈ (sumR L).map PK.pk := List.mem_map.mpr ⟨r, h, rfl⟩
  rw [sumR_keys, mem_skeys] at this
  obtain ⟨q, hq, e⟩ := List.mem_map.mp this
  exact ⟨q, hq, e.symm⟩
theorem RowS.sum {L : List PRow} (h : RowS L) : RowS (sumR L) := h.sub fun _ hr => sumR_keyIn hr
theorem RowS.above {L M : List PRow} (h : RowS L) : RowS (aboveR L M) := h.sub fun r hr => by
  obtain ⟨q, hq, e, _⟩ := aboveR_mem hr
  exact ⟨q, hq, e⟩
section
variable {Ξ : Ctx} {H : Hp} {M : List Addr}
/-- the class of heaps is the first one -/
structure HSig (Γ : Sig) (C : Addr) : Prop where
  cl : Γ.cl 0 = some C
  fl : Γ.fl 0 = [("held" : Str)]
end
/-! ### what the methods tell -/
/-- the error that tells what lacks is the class 1 -/
def lessW : List D → W D
  | [h, g] => (optW (heapOf h)).bind fun L => (optW (heapOf g)).bind fun M => (W.want (∃ (n : Nat) (b : Int), RowsOk n b L ∧ RowsOk n b M ∧ n ≤ 900)).bind fun _ => (W.want (Rises (L.map fun r => pkD (PK.pk r)) ∧ Rises (M.map fun r => pkD (PK.pk r)))).bind fun _ =>
    W.ite (decide (aboveR M L = [])) (W.ret (heapD (aboveR L M))) (W.raise ⟨1, [heapD (aboveR M L)]⟩)
  | _ => W.fail
section
variable {Γ : Sig} {C : Addr}
/-- .. the error's class, its field -/
structure ESig (Γ : Sig) (CN : Addr) : Prop where
  cl : Γ.cl 1 = some CN
  fl : Γ.fl 1 = [("lacking" : Str)]
end
end LP
/-! Own objects by value: methods called, made, compared, shown. -/
namespace LP
open PySem PySem.Spec PyProof.Rows L2 PK RZ
/-- a method by value -/
structure MetV (Γ : Sig) (mg : Str → Option Value) (base : Heap) (k : Nat) (c : Nat) (C : Addr) (m : Str) (f : Addr) (fd : FuncData) (ps : List Str) (p : List D → W D) : Prop where
  ok : FnOk Γ.P Γ.w Γ.K mg base CX0 k f fd ps (liF Γ p)
  cls : Cls Γ.K C
  me : Meth Γ.K C m f
  b : Binds Γ.K fd ps []
  cl : Γ.cl c = some C
  nf : m ∉ Γ.fl c
section
variable {X : Cx} {Γ : Sig} {fe : Fd} {H0 : Hp} {O : List Nat} {k c : Nat} {C f : Addr} {fd : FuncData} {ps : List Str} {o e : Expr} {es : List Expr} {m : Str} {apos pos : Pos} {p : List D → W D} {po : Env → W D} {pa : Env → W (List D)} {mg : Str → Option Value} {base : Heap}
/-- a method with defaults: n are handed in (the object among them), the rest are none -/
structure MetN (Γ : Sig) (mg : Str → Option Value) (base : Heap) (k : Nat) (c : Nat) (C : Addr) (m : Str) (f : Addr) (fd : FuncData) (ps : List Str) (n : Nat) (gV : List V → List V) (p : List D → W D) : Prop where
  ok : FnOk Γ.P Γ.w Γ.K mg base CX0 k f fd ps (liF Γ p)
  cls : Cls Γ.K C
  me : Meth Γ.K C m f
  b : KB Γ.K fd ps n [] (fun vs _ => gV vs)
  cl : Γ.cl c = some C
  nf : m ∉ Γ.fl c
/-! ### made -/
variable {p0 : Pos} {pe : Env → W D} {kI : Nat} {fI : Addr} {fdI : FuncData}
/-! ### == of heaps, len -/
variable {a b : Expr} {pb : Env → W D} {kq : Nat} {fq : Addr} {fdq : FuncData}
/-! ### str of an own object -/
structure StrV (Γ : Sig) (mg : Str → Option Value) (base : Heap) (k : Nat) (c : Nat) (C f : Addr) (fd : FuncData) (p : List D → W D) : Prop where
  ok : FnOk Γ.P Γ.w Γ.K mg base CX0 k f fd ["self"] (liF Γ p)
  fi : PySem.W.findIn Γ.K (.ref C) "__str__" = some (some (.ref f))
  fn : PySem.W.isFn Γ.K (.ref f) = true
  b : Binds Γ.K fd ["self"] []
  cl : Γ.cl c = some C
/-! ### a field read -/
end
end LP
/-! Texts with things in them; a heap taken out of another, or what lacks. -/
namespace LP
open PySem PySem.Spec PyProof.Rows L2 PK RZ
/-! ### f'..' -/
section
variable {X : Cx} {Ξ : Ctx} {H0 : Hp} {O : List Nat} {e : Expr} {es : List Expr} {pos : Pos} {pa : Env → W D} {ps : List (Env → W D)}
inductive LJ (Ξ : Ctx) (H0 : Hp) (O : List Nat) (X : Cx) : List Expr → List (Env → W D) → Prop
  | nil : LJ Ξ H0 O X [] []
  | cons {e : Expr} {es : List Expr} {p : Env → W D} {ps : List (Env → W D)} : LE Ξ H0 O X e p → LJ Ξ H0 O X es ps → LJ Ξ H0 O X (e :: es) (p :: ps)
end
/-! ### a name without a thing may be set, and set free -/
/-! ### try: x = o.less(e) / except .. as n: x = n.lacking -/
structure LessV (Γ : Sig) (mg : Str → Option Value) (base : Heap) (k : Nat) (C CN f : Addr) (fd : FuncData) : Prop where
  ok : FnOk Γ.P Γ.w Γ.K mg base (L2.CX Γ.P Γ.w) k f fd ["self", "other"] (liF Γ lessW)
  cls : Cls Γ.K C
  me : Meth Γ.K C "less" f
  b : Binds Γ.K fd ["self", "other"] []
  s : HSig Γ C
  z : ESig Γ CN
/-- an error's class, as it is caught by x -/
structure ErrV (K : PySem.W.Frag) (mg : Str → Option Value) (CN : Addr) (x : Str) (CF : Addr) : Prop where
  g : mg x = some (.ref CF)
  te : PySem.W.exmOne K (.ref CN) (.ref CF) = some true
  xf : XfC K CN
  no : PySem.W.findIn K (.ref CN) "lacking" = some none
section
variable {X : Cx} {Γ : Sig} {fe : Fd} {H0 : Hp} {O Ob : List Nat} {k i j : Nat} {C CN CF f : Addr} {fd : FuncData} {o e : Expr} {po pe : Env → W D} {mg : Str → Option Value} {base : Heap} {x n cn : Str} {p1 p2 p3 p4 p5 apos cpos spos np pos pos' : Pos}
end
end LP
namespace LP
open PySem PySem.Spec PyProof.Rows L2 PK RZ
section
variable {X : Cx} {Ξ : Ctx} {H0 : Hp} {O Ob : List Nat} {b : Expr} {pos : Pos} {pb : Env → W D}
end
end LP
/-! len of a set of texts. -/
namespace LP
open PySem PySem.Spec PyProof.Rows L2 PK RZ
def rLenTx (P : Program) (w : World) : List V → Hp → VK → Prop := fun vs H Q => ∃ (a : Addr) (l : List Str), vs = [.ref a] ∧ H a = some (SetTO P w a l) ∧ l.length ≤ 1000000 ∧ Q (.int l.length) H
theorem call_lenTx {X : Cx} : CallR X (.builtin "len") (rLenTx X.prog X.w) := by
  intro pins s σ H vs us Q I r h
  obtain ⟨a, l, rfl, ha, hl, q⟩ := h
  rw [Vals.ref1 r]
  obtain ⟨D, hD, F, _, _⟩ := (I.hok a _ ha).1
  have hs : (D.1.size : Int) = l.length := by rw [F.sz]
  refine call_len_set hD ⟨rfl, rfl, rfl⟩ rfl F.fit (by omega) ⟨.int l.length, H, (I.tok _).tok _, ⟨_, by rw [hs]⟩, q⟩
def lenSW : List D → W D
  | [.set l] => (W.want (l.length ≤ 1000000)).bind fun _ => W.ret (.int l.length)
  | _ => W.fail
section
variable {X : Cx} {Ξ : Ctx} {H0 : Hp} {O : List Nat} {e : Expr} {ps : Env → W (List D)}
theorem lenS_ok : CallOk Ξ (rLenTx Ξ.P Ξ.w) lenSW := by
  intro M H xs ds Q E mu hf h q
  match ds, h, q with
  | [.set l], .cons h .nil, ⟨hl, q⟩ =>
    cases h.full with
    | set h1 n o => exact ⟨_, l, rfl, h1, hl, q _ H (Same.refl H) (.int _)⟩
theorem le_lenS {p pos : Pos} (hP : X.prog = Ξ.P) (hw : X.w = Ξ.w) (hg : Gl X "len") (hm : X.mg "len" = none) (ha : LAB Ξ H0 O X [e] ps) (he : starEach [e] X.env = [(false, eval e X.env)] := by rfl) : LE Ξ H0 O X (.Call (.Name "len" p) [e] [] pos) fun env => (ps env).bind lenSW :=
  le_callB (by rw [← hP, ← hw]; exact call_lenTx : CallR X _ (rLenTx Ξ.P Ξ.w)) lenS_ok hg hm (by decide +kernel) ha (by decide) (by decide) he rfl
end
end LP
namespace LP
open PySem PySem.Spec PyProof.Rows L2 PK RZ
end LP
/-! Dicts of texts, sets made by a comprehension, by value. -/
namespace LP
open PySem PySem.Spec PyProof.Rows L2 PK RZ
/-! ### dicts of texts -/
section
variable {X : Cx} {Ξ : Ctx} {H0 : Hp} {O : List Nat}
variable {elt kx tg iter : Expr} {ifs : List Expr} {scope : Scope} {own : List (Str × Nat)} {pi : Env → W (List D)} {gW : D → Env → W Env} {tW : Env → W Bool} {kW eW : Env → W D} {pos : Pos}
/-! ### d.get(k, x) -/
end
end LP
/-! A set of texts made by a comprehension; calls by names and with defaults; != of heaps. -/
namespace LP
open PySem PySem.Spec PyProof.Rows L2 PK RZ
section
variable {X : Cx} {Ξ : Ctx} {H0 : Hp} {O : List Nat}
variable {elt kx tg iter : Expr} {scope : Scope} {own : List (Str × Nat)} {pi : Env → W (List D)} {gW : D → Env → W Env} {eW : Env → W D} {pos : Pos}
end
/-! ### calls by names, with defaults that are none -/
def fillV (a b : Nat) (vs zs : List V) : List V := vs ++ (List.replicate a .non ++ (zs ++ List.replicate b .non))
def fillD (a b : Nat) (vs zs : List D) : List D := vs ++ (List.replicate a .non ++ (zs ++ List.replicate b .non))
structure CalN (Γ : Sig) (mg : Str → Option Value) (base : Heap) (k : Nat) (x : Str) (f : Addr) (fd : FuncData) (ps : List Str) (n : Nat) (ks : List Str) (a b : Nat) (p : List D → W D) : Prop where
  ok : FnOk Γ.P Γ.w Γ.K mg base CX0 k f fd ps (liF Γ p)
  g : mg x = some (.ref f)
  kp : PySem.W.keepIn Γ.K (.ref f) = true
  b : KB Γ.K fd ps n ks (fillV a b)
/-- so many by their places, so many by their names -/
def callN (n j a b : Nat) (p : List D → W D) (ds zs : List D) : W D := (W.want (ds.length = n ∧ zs.length = j)).bind fun _ => p (fillD a b ds zs)
section
variable {X : Cx} {Γ : Sig} {fe : Fd} {H0 : Hp} {O : List Nat} {k n a b : Nat} {f : Addr} {fd : FuncData} {ps ks : List Str} {e : Expr} {es : List Expr} {kws : List Keyword} {x : Str} {pp pos kpos : Pos} {p : List D → W D} {pa pk : Env → W (List D)} {pe : Env → W D} {mg : Str → Option Value} {base : Heap} {nm : Option Str}
abbrev LK (Ξ : Ctx) (H0 : Hp) (O : List Nat) (X : Cx) (kws : List Keyword) (p : Env → W (List D)) : Prop := PK X kws (liA Ξ H0 O p)
theorem wkK {t t' : TA} (h : PK X kws t) (w : ∀ σ H Q, t' σ H Q → t σ H Q) : PK X kws t' := ⟨fun pos pins s σ H Q I q => h.run pos pins s σ H Q I (w σ H Q q)⟩
theorem lk_nil {Ξ : Ctx} : LK Ξ H0 O X [] fun _ => W.ret [] := wkK pk_nil fun σ H Q ⟨S, A, G, env, E, hA, r, z⟩ => z [] H (Gr.refl H) r .nil
theorem lk_cons {Ξ : Ctx} (h : LE Ξ H0 O X e pe) (h2 : LK Ξ H0 O X kws pk) : LK Ξ H0 O X (⟨nm, e, kpos⟩ :: kws) fun env => (pe env).bind fun d => (pk env).bind fun ds => W.ret (d :: ds) :=
  wkK (pk_cons h h2) fun σ H Q ⟨S, A, G, env, E, hA, r, z⟩ => ⟨S, A, G, env, E, hA, r, (pe env).mono (fun d u v H1 g1 r1 hv => ⟨S, A, G, env, E, hA, r1, (pk env).mono (fun ds u vs H2 g2 r2 hvs =>
    u (v :: vs) H2 (g1.trans g2) r2 (.cons (hv.same (g2.ms r1.ffM)) hvs)) (fun _ z => z) u⟩) (fun _ z => z) z⟩
theorem le_callN (C : CalN Γ mg base k x f fd ps n ks a b p) (hP : X.prog = Γ.P) (hw : X.w = Γ.w) (hK : X.K = Γ.K) (hmg : X.mg = mg) (hbs : X.base = base) (hr : Room k X.A) (hg : Gl X x) (ha : LA ⟨Γ, fe⟩ H0 O X (e :: es) pa) (hkw : LK ⟨Γ, fe⟩ H0 O X kws pk)
    (hall : (backToKw pos (keywordEach kws X.env)).all (·.1.isSome) = true := by rfl) (hks : (backToKw pos (keywordEach kws X.env)).filterMap (·.1) = ks := by rfl)
    (hdb : (x == ("__debug__" : Str)) = false := by decide) (he : starEach (e :: es) X.env = (false, eval e X.env) :: starEach es X.env := by rfl)
    (hpl : ((backTo pos (starEach (e :: es) X.env)).any (·.1) || (backToKw pos (keywordEach kws X.env)).any (·.1.isNone)) = false := by rfl) :
    LE ⟨Γ, fe⟩ H0 O X (.Call (.Name x pp) (e :: es) kws pos) fun env => (pa env).bind fun ds => (pk env).bind fun zs => callN n ks.length a b p ds zs := by
  refine wkE (pe_kb (E := fun _ _ _ => True) (by rw [hP, hw, hK, hmg, hbs]; exact C.ok) hr hg (by rw [hmg]; exact C.g) (by rw [hK]; exact C.kp) (by rw [hK]; exact C.b) pass0 ha hkw hall hks hdb he hpl) fun σ H Q ⟨S, A, G, env, E, hA, r, q⟩ => ?_
  refine ⟨S, A, G, env, E, hA, r, (pa env).mono (fun ds k1 vs H1 g1 r1 hv => ?_) (fun _ z => z) q⟩
  refine ⟨S, A, G, env, E, hA, r1, (pk env).mono (fun es' k2 zs H2 g2 r2 hz => ?_) (fun _ z => z) k1⟩
  obtain ⟨⟨l1, l2⟩, k2⟩ := k2
  refine ⟨by rw [hv.len]; exact l1, by rw [hz.len]; exact l2, fe, S ++ A.map (·.2), fillD a b ds es', E, r2.muA, r2.ffM, r2.fi, ?_, fun _ _ _ _ _ _ _ _ _ => trivial, (p _).mono (fun d k v H3 g3 f3 hv3 => k v H3 ((g1.trans g2).trans g3) (r2.grow g3 f3) hv3) (fun _ z => z) k2⟩
  exact (hv.same (g2.ms r1.ffM)).app ((RpAll.rep .non a).app (hz.app (RpAll.rep .non b)))
/-! ### != of heaps -/
variable {C : Addr} {l rr : Expr} {po pb : Env → W D} {kq : Nat} {fq : Addr} {fdq : FuncData}
end
end LP
namespace LP
open PySem PySem.Spec PyProof.Rows L2 PK RZ
def intW : List D → W D
  | [.bl b] => W.ret (.int (if b then 1 else 0))
  | [.int i] => W.ret (.int i)
  | _ => W.fail
section
variable {X : Cx} {Ξ : Ctx} {H0 : Hp} {O : List Nat} {e : Expr} {ps : Env → W (List D)}
theorem int_ok : CallOk Ξ (fun xs H Q => (∃ i, xs = [.int i] ∧ Q (.int i) H) ∨ ∃ k, xs = [.bl k] ∧ Q (.int (if k then 1 else 0)) H) intW := by
  intro M H xs ds Q E mu hf h q
  match ds, h, q with
  | [.bl b], .cons h .nil, q => exact .inr ⟨b, by rw [h.blE], at_int _ q⟩
  | [.int b], .cons h .nil, q => exact .inl ⟨b, by rw [h.intE], at_int _ q⟩
theorem le_intOf {p pos : Pos} (hg : Gl X "int") (hm : X.mg "int" = none) (ha : LAB Ξ H0 O X [e] ps) (he : starEach [e] X.env = [(false, eval e X.env)] := by rfl) : LE Ξ H0 O X (.Call (.Name "int" p) [e] [] pos) fun env => (ps env).bind intW :=
  le_callTy call_int1 int_ok hg hm (by decide +kernel) ha (by decide) (by decide) he rfl
end
end LP
namespace LP
open PySem PySem.Spec PyProof.Rows L2 PK RZ
section
variable {Γ : Sig} {mg : Str → Option Value} {base : Heap}
/-- a def with defaults, by value -/
theorem ok_runD {x qual : Str} {st : Stmt} {dvs : List V} {f : Addr} {fd : FuncData} {N ps : List Str} {k np nN : Nat} {pb : Env → W Fl} (F : FunD Γ.K x qual (defArgs st) (defBody st) (defScope st) dvs [] f fd) (Sc : FnScope N ps (defScope st)) (h1 : ps.length = np) (h2 : N.length = nN)
    (hbody : ∀ (fe : Fd) (cdv : Value) (A : Around) (outer : List PySem.Env) (s : Shared) (H : Hp) (E : XK), Room k (A.deeper (envOfC qual (defScope st) s.heap.objs.size f cdv)) →
      LSs ⟨Γ, fe⟩ H [] [] [] (cxOf CX0 Γ.P Γ.w Γ.K mg base N qual (defScope st) f cdv A outer s H E).nox (defBody st) pb) : FnOk Γ.P Γ.w Γ.K mg base CX0 (k + 1) f fd ps (liF Γ (runB np nN pb)) := by
  subst h1 h2
  refine F.ok (CX := CX0) Sc (fun vs H Q E ⟨fe, S, ds, EE, mu, hf, fi, hv, hE, q⟩ => ?_) (fun cdv A outer s H vs Q E hr ⟨fe, S, ds, EE, mu, hf, fi, hv, hE, q⟩ => ?_)
  · rw [hv.len]
    exact q.1
  · refine ⟨_, (hbody fe cdv A outer s H E hr).nox, S, [], [], startE N.length ds, EE, rfl, Rel.start mu hf fi hv, ?_⟩
    refine W.mono _ (fun fl' k => ?_) (fun _ z => z) q.2
    cases fl' with
    | nx e => exact fun A' σ' H' hA' r' => k .non H' r'.gr r'.fi .non
    | rt d => exact fun v H' g f _ hv => k v H' g f hv
    | bk e => exact k.elim
    | ct e => exact k.elim
end
end LP
/-! Dicts whose keys are tuples within tuples, at the hands' level. -/
namespace PK
open PySem PySem.Spec PyProof.Rows L2
mutual
/-- data that may stand in a key -/
def nkP : PyData → Option NestedKey
  | .none => some .none
  | .int i => some (.num i)
  | .str x => some (.text x)
  | .tuple ds => (nkPs ds).map .tup
  | _ => none
def nkPs : List PyData → Option (List NestedKey)
  | [] => some []
  | d :: ds => (nkP d).bind fun k => (nkPs ds).map (k :: ·)
end
section
variable {X : Cx} {pins : List (Addr × Obj)} {σ : L2.St} {H : Hp} {s : Shared}
mutual
theorem nk_is (I : Inv X pins σ H s) : ∀ {d : PyData} {v : V} {k : NestedKey} {u : Value}, Dp X.K H v d → nkP d = some k → RelV v u → NestedIs s.heap k u
  | .none, _, _, _, .non, e, r => by
    cases e
    cases r
    exact .none
  | .int i, _, _, _, .int _, e, r => by
    cases e
    obtain ⟨t, rfl⟩ := r
    exact .int _ _
  | .str y, _, _, _, .str _, e, r => by
    cases e
    obtain ⟨t, rfl⟩ := r
    exact .text _ _
  | .bool _, _, _, _, _, e, _ => by simp [nkP] at e
  | .list _, _, _, _, _, e, _ => by simp [nkP] at e
  | .dict _, _, _, _, h, _, _ => by cases h
  | .tuple ds, _, _, _, .tup hs ha, e, r => by
    rw [nkP] at e
    obtain ⟨ks, e1, rfl⟩ := Option.map_eq_some_iff.mp e
    cases r
    obtain ⟨its, rv, ⟨o, ho, hc, n, hd⟩, _⟩ := I.tuple hs
    exact .tup ho hc hd (by simpa using nks_is I ha e1 rv)
theorem nks_is (I : Inv X pins σ H s) : ∀ {ds : List PyData} {vs : List V} {ks : List NestedKey} {us : List Value}, DpAll X.K H vs ds → nkPs ds = some ks → Vals vs us → NestedAll s.heap ks us
  | [], _, _, _, .nil, e, r => by
    cases e
    cases r
    exact .nil
  | d :: ds, _, _, _, .cons h1 h2, e, r => by
    rw [nkPs] at e
    obtain ⟨k, e1, e⟩ := Option.bind_eq_some_iff.mp e
    obtain ⟨ks, e2, rfl⟩ := Option.map_eq_some_iff.mp e
    cases r with
    | cons r1 r2 => exact .cons (nk_is I h1 e1 r1) (nks_is I h2 e2 r2)
end
end
/-- v is the tuple that is the key k -/
def KAt (K : PySem.W.Frag) (H : Hp) (v : V) (k : NestedKey) : Prop := ∃ b d, v = .ref b ∧ Dp K H v d ∧ nkP d = some k ∧ k.depth ≤ 8
abbrev NKV := NestedKey × V × V
abbrev KN : List NKV → List (NestedKey × Addr × Value) → Prop := Paired fun p q => p.1 = q.1 ∧ p.2.1 = V.ref q.2.1 ∧ RelV p.2.2 q.2.2
def nget (kvs : List NKV) (k : NestedKey) : Option V := (kvs.find? fun p => decide (p.1 = k)).map fun p => p.2.2
def nput (kvs : List NKV) (k : NestedKey) (y v : V) : List NKV := if (nget kvs k).isSome then kvs.map (fun p => if p.1 = k then (p.1, p.2.1, v) else p) else kvs ++ [(k, y, v)]
theorem nget_pos {p : NKV} {kvs : List NKV} {k : NestedKey} (e : p.1 = k) : nget (p :: kvs) k = some p.2.2 := by simp [nget, List.find?_cons, e]
theorem nget_neg {p : NKV} {kvs : List NKV} {k : NestedKey} (e : ¬ p.1 = k) : nget (p :: kvs) k = nget kvs k := by simp [nget, List.find?_cons, e]
theorem KN.val {kvs : List NKV} {xs : List (NestedKey × Addr × Value)} (r : KN kvs xs) (k : NestedKey) : RelO (nget kvs k) ((atKey xs k).map (·.2)) := by
  induction r with
  | nil => exact True.intro
  | @cons p q ps qs h t ih =>
    obtain ⟨h1, _, h2⟩ := h
    by_cases e : p.1 = k
    · have e' : q.1 = k := h1.symm.trans e
      have b : atKey (q :: qs) k = some q.2 := by simp [atKey, List.find?_cons, e']
      rw [nget_pos e, b]; exact h2
    · have e' : ¬ q.1 = k := fun z => e (h1.trans z)
      have b : atKey (q :: qs) k = atKey qs k := by simp [atKey, List.find?_cons, e']
      rw [nget_neg e, b]; exact ih
theorem KN.repl {kvs : List NKV} {xs : List (NestedKey × Addr × Value)} (r : KN kvs xs) (k : NestedKey) {y : V} {u : Value} (ry : RelV y u) :
    KN (kvs.map fun p => if p.1 = k then (p.1, p.2.1, y) else p) (xs.map (putAt k u)) := by
  induction r with
  | nil => exact .nil
  | @cons p q ps qs h t ih =>
    rw [List.map_cons, List.map_cons]
    refine .cons ?_ ih
    obtain ⟨h1, h2, h3⟩ := h
    unfold putAt
    by_cases e : p.1 = k
    · rw [if_pos e, if_pos (h1.symm.trans e)]; exact ⟨h1, h2, ry⟩
    · rw [if_neg e, if_neg (fun z => e (h1.trans z))]; exact ⟨h1, h2, h3⟩
theorem KN.put {kvs : List NKV} {xs : List (NestedKey × Addr × Value)} (r : KN kvs xs) (k : NestedKey) {b : Addr} {y : V} {u : Value} (ry : RelV y u) : KN (nput kvs k (.ref b) y) (storedH xs k b u) := by
  have e : (nget kvs k).isSome = (atKey xs k).isSome := by rw [(r.val k).isSome_eq, Option.isSome_map]
  unfold nput storedH
  rw [e]
  by_cases q : (atKey xs k).isSome = true
  · rw [if_pos q, if_pos q]; exact r.repl k ry
  · rw [if_neg q, if_neg q]; exact Paired.snoc r ⟨rfl, rfl, ry⟩
section
variable (P : Program) (w : World) (a : Addr) (kvs : List NKV)
def dnOk (h : Heap) : Prop := kvs.length ≤ sizeLine ∧ (a == sysModules) = false ∧ ∃ xs : List (NestedKey × Addr × Value), KN kvs xs ∧
  ∃ o es ep, h.get? a = some o ∧ o.ExactDict ∧ o.data = .dict es ep ∧ es.toList = xs.map (entryOfKey (nestedKind P w)) ∧ (xs.map (·.1)).Nodup
/-- the dict at a -/
def DNO : HO := .ext (dnOk P w a kvs)
end
section
variable {X : Cx} {pins : List (Addr × Obj)} {σ : L2.St} {H : Hp} {s : Shared} {a : Addr} {kvs : List NKV} {y v d : V} {u r : Value} {k : NestedKey} {A : Around} {E : Value → Shared → Prop}
theorem KAt.is (I : Inv X pins σ H s) (h : KAt X.K H y k) (ry : RelV y u) : ∃ b, u = .ref b ∧ y = .ref b ∧ (nestedKind X.prog X.w).is s.heap k b := by
  obtain ⟨b, d, rfl, hd, e, dep⟩ := h
  cases ry
  exact ⟨b, rfl, rfl, nk_is I hd e rfl, dep⟩
end
/-! ### readings and rules -/
def NRd (X : Cx) (H : Hp) (a : Addr) (kvs : List NKV) : Prop := Rd H a (DNO X.prog X.w a kvs) ∧ ∀ p ∈ kvs, KAt X.K H p.2.1 p.1
section
variable {X : Cx} {o i e f value : Expr} {pos pos' apos cpos : Pos} {td ty tv tx : TE}
end
end PK
/-! Things that change, by value: computations over a store. -/
namespace LP.LM
open PySem PySem.Spec PyProof.Rows L2 PK
abbrev Sto := List D
structure M (α : Type) where
  wp : (α → Sto → Prop) → (Ex → Sto → Prop) → Sto → Prop
  mono : ∀ {Q Q' : α → Sto → Prop} {E E' : Ex → Sto → Prop} {s : Sto}, (∀ a s, Q a s → Q' a s) → (∀ e s, E e s → E' e s) → wp Q E s → wp Q' E' s
namespace M
variable {α β γ : Type}
def ret (a : α) : M α := ⟨fun Q _ s => Q a s, fun h _ q => h _ _ q⟩
def bind (m : M α) (f : α → M β) : M β := ⟨fun Q E s => m.wp (fun a s' => (f a).wp Q E s') E s, fun h1 h2 q => m.mono (fun a s' => (f a).mono h1 h2) h2 q⟩
/-- a computation that looks at no store -/
def lift (m : W α) : M α := ⟨fun Q E s => m.wp (fun a => Q a s) fun e => E e s, fun h1 h2 q => m.mono (fun a => h1 a _) (fun e => h2 e _) q⟩
def want (p : Prop) : M Unit := ⟨fun Q _ s => p ∧ Q () s, fun h _ q => ⟨q.1, h _ _ q.2⟩⟩
def fail : M α := ⟨fun _ _ _ => False, fun _ _ q => q⟩
def raise (e : Ex) : M α := ⟨fun _ E s => E e s, fun _ h q => h _ _ q⟩
def any (P : α → Prop) : M α := ⟨fun Q _ s => ∀ a, P a → Q a s, fun h _ q a p => h _ _ (q a p)⟩
def calm (m : M α) : M α := ⟨fun Q _ s => m.wp Q (fun _ _ => False) s, fun h _ q => m.mono h (fun _ _ z => z) q⟩
def ite (b : Bool) (x y : M α) : M α := match b with | true => x | false => y
theorem ret_wp {a : α} {Q : α → Sto → Prop} {E : Ex → Sto → Prop} {s : Sto} : (ret a).wp Q E s ↔ Q a s := Iff.rfl
theorem bind_wp {m : M α} {f : α → M β} {Q : β → Sto → Prop} {E : Ex → Sto → Prop} {s : Sto} : (bind m f).wp Q E s ↔ m.wp (fun a s' => (f a).wp Q E s') E s := Iff.rfl
theorem lift_wp {m : W α} {Q : α → Sto → Prop} {E : Ex → Sto → Prop} {s : Sto} : (lift m).wp Q E s ↔ m.wp (fun a => Q a s) fun e => E e s := Iff.rfl
theorem want_wp {p : Prop} {Q : Unit → Sto → Prop} {E : Ex → Sto → Prop} {s : Sto} : (want p).wp Q E s ↔ p ∧ Q () s := Iff.rfl
theorem any_wp {P : α → Prop} {Q : α → Sto → Prop} {E : Ex → Sto → Prop} {s : Sto} : (any P).wp Q E s ↔ ∀ a, P a → Q a s := Iff.rfl
end M
/-! ### where one stands -/
abbrev Ca (Γ : Sig) (al : List Addr) : Ctx := ⟨Γ, .al al⟩
/-- data that may stand in a key -/
def nD (d : D) : Option NestedKey := if d.plain then nkP d.toP else none
/-- a dict whose keys are tuples -/
abbrev dicN (ks ds : List D) : D := .tup [.lst ks, .lst ds]
/-- a thing that is walked: it can't be written -/
abbrev lockD (d : D) : D := .tup [.non, d]
/-- a thing of the store: its object, its value, what stands in it -/
inductive Sh (Γ : Sig) (a : Addr) : HO → D → List V → List D → Prop
  | lst {us : List V} {ds : List D} : Sh Γ a (.lst us) (.lst ds) us ds
  | dN {kvs : List NKV} {ks ds : List D} : ks.map nD = kvs.map (fun p => some p.1) → (∀ p ∈ kvs, p.1.depth ≤ 8 ∧ ∃ l, p.1 = .tup l) → (kvs.map (·.1)).Nodup → ds.length = ks.length → Sh Γ a (DNO Γ.P Γ.w a kvs) (dicN ks ds) (kvs.map (·.2.1) ++ kvs.map (·.2.2)) (ks ++ ds)
  | dK {ps : List (Key × V)} {ks ds : List D} : ks = ps.map (fun p => match p.1 with | .inl i => D.int i | .inr y => D.str y) → (∀ p ∈ ps, ∀ y, p.1 = .inr y → PyData.strOk y = true) → (ps.Pairwise fun a b => a.1 ≠ b.1) → Sh Γ a (.dK ps) (.dct ks ds) (ps.map (·.2)) ds
  | ins {C dx : Addr} {c : Nat} {xs : List V} {ds : List D} : Γ.cl c = some C → xs.length ≤ (Γ.fl c).length → Sh Γ a (.ins C dx ((Γ.fl c).zip xs)) (.obj c ds) xs ds
  | fz {o : HO} {d : D} {us : List V} {ds : List D} {od : PySem.Obj} : Sh Γ a o d us ds → Sh Γ a (.frz od o) (lockD d) us ds
theorem Sh.mt {Γ : Sig} {a : Addr} {o : HO} {d : D} {us : List V} {ds : List D} (h : Sh Γ a o d us ds) : Mt o := by
  cases h with
  | fz h => cases h <;> trivial
  | _ => trivial
def Obj (Γ : Sig) (al : List Addr) (a : Addr) (Hm : Hp) (o : HO) (d : D) : Prop := ∃ us ds, Sh Γ a o d us ds ∧ RpAll (Ca Γ al) Hm us ds
/-- the store stands: M is what is kept out -/
structure Stands (Γ : Sig) (al : List Addr) (s : Sto) (M : List Addr) (H : Hp) : Prop where
  nd : al.Nodup
  len : s.length = al.length
  ob : ∀ (i : Nat) (a : Addr) (d : D), al[i]? = some a → (s : List D)[i]? = some d → ∃ o, H a = some o ∧ Obj Γ al a (ms M H) o d
/-- later: more things in the store, all else as it was -/
structure Later (al : List Addr) (H : Hp) (al' : List Addr) (H' : Hp) : Prop where
  ex : ∃ be, al' = al ++ be ∧ ∀ b ∈ be, H b = none ∧ b ∉ al
  gr : ∀ b o, b ∉ al → H b = some o → H' b = some o
  fz : ∀ b o u, H b = some (.frz o u) → H' b = some (.frz o u)
theorem Later.refl (al : List Addr) (H : Hp) : Later al H al H := ⟨⟨[], (List.append_nil _).symm, fun _ h => (nomatch h)⟩, fun _ _ _ h => h, fun _ _ _ h => h⟩
theorem Later.of {al : List Addr} {H H' : Hp} (s : Same H H') : Later al H al H' := ⟨⟨[], (List.append_nil _).symm, fun _ h => (nomatch h)⟩, fun b o _ h => s b o h, fun b _ _ h => s b _ h⟩
theorem Later.grof {Γ : Sig} {al : List Addr} {H H' : Hp} (s : Gr (Ca Γ al) H H') : Same H H' := fun b o h => s b o (fun z => (nomatch z)) h
theorem Later.trans {a0 a1 a2 : List Addr} {H0 H1 H2 : Hp} (x : Later a0 H0 a1 H1) (y : Later a1 H1 a2 H2) : Later a0 H0 a2 H2 := by
  obtain ⟨b1, rfl, n1⟩ := x.ex
  obtain ⟨b2, rfl, n2⟩ := y.ex
  refine ⟨⟨b1 ++ b2, by rw [List.append_assoc], fun b hb => ?_⟩, fun b o n h => y.gr b o ?_ (x.gr b o n h), fun b o u h => y.fz b o u (x.fz b o u h)⟩
  · rcases List.mem_append.mp hb with h | h
    · exact n1 b h
    · have n0 : b ∉ a0 := fun z => (n2 b h).2 (List.mem_append_left _ z)
      refine ⟨?_, n0⟩
      cases q : H0 b with
      | none => rfl
      | some o =>
        have := x.gr b o n0 q
        rw [(n2 b h).1] at this
        cases this
  · intro z
    rcases List.mem_append.mp z with z | z
    · exact n z
    · rw [(n1 b z).1] at h
      cases h
theorem Later.in_ {al al' : List Addr} {H H' : Hp} (x : Later al H al' H') {b : Addr} (h : b ∈ al) : b ∈ al' := by
  obtain ⟨be, rfl, _⟩ := x.ex
  exact List.mem_append_left _ h
theorem Later.at_ {al al' : List Addr} {H H' : Hp} (x : Later al H al' H') {i : Nat} {a : Addr} (h : al[i]? = some a) : al'[i]? = some a := by
  obtain ⟨be, rfl, _⟩ := x.ex
  have hl := (List.getElem?_eq_some_iff.mp h).1
  rw [List.getElem?_append_left hl]
  exact h
/-- what is kept out grows by new things alone -/
theorem Later.ms {al al' : List Addr} {H H' : Hp} (x : Later al H al' H') {M M' : List Addr} (h : ∀ b ∈ al, b ∈ M) (hm : ∀ b ∈ M', b ∈ M ∨ b ∈ al') : Same (ms M H) (ms M' H') := fun b o e => by
  obtain ⟨h1, h2⟩ := ms_some e
  have n : b ∉ al := fun z => h2 (h b z)
  refine ms_at (x.gr b o n h1) fun z => ?_
  rcases hm b z with z | z
  · exact h2 z
  · obtain ⟨be, rfl, nb⟩ := x.ex
    rcases List.mem_append.mp z with z | z
    · exact n z
    · rw [(nb b z).1] at h1
      cases h1
section
variable {Γ : Sig} {al al' : List Addr} {H H' : Hp}
mutual
theorem _root_.LP.Rp.alm (p : ∀ (i : Nat) (a : Addr), al[i]? = some a → al'[i]? = some a) (x : Same H H') : ∀ {d : D} {v : V}, Rp (Ca Γ al) H v d → Rp (Ca Γ al') H' v d
  | .non, _, .non => .non
  | .bl _, _, .bl b => .bl b
  | .int _, _, .int i => .int i
  | .str _, _, .str y h => .str y h
  | .tup _, _, .tup hs ha => .tup (sqT_same x hs) (LP.RpAll.alm p x ha)
  | .lst _, _, .lst hs ha => .lst (x _ _ hs) (LP.RpAll.alm p x ha)
  | .obj _ _, _, .obj h1 h2 ha => .obj (x _ _ h1) h2 (LP.RpAll.alm p x ha)
  | .tok n, _, .tok h => .tok (by
    cases n with
    | zero => cases h
    | succ n =>
      obtain ⟨a, h1, rfl⟩ := Option.map_eq_some_iff.mp (show al[n]?.map V.ref = some _ from h)
      show al'[n]?.map V.ref = _
      rw [p n a h1]
      rfl)
  | .set _, _, .set h n o => .set (x _ _ h) n o
  | .txt _, _, .txt s => .txt s
  | .dct _ _, _, .dct h o e1 e2 => .dct (x _ _ h) o e1 e2
theorem _root_.LP.RpAll.alm (p : ∀ (i : Nat) (a : Addr), al[i]? = some a → al'[i]? = some a) (x : Same H H') : ∀ {ds : List D} {vs : List V}, RpAll (Ca Γ al) H vs ds → RpAll (Ca Γ al') H' vs ds
  | [], _, .nil => .nil
  | _ :: _, _, .cons h1 h2 => .cons (LP.Rp.alm p x h1) (LP.RpAll.alm p x h2)
end
end
theorem Obj.alm {Γ : Sig} {al al' : List Addr} {a : Addr} {H H' : Hp} {o : HO} {d : D} (p : ∀ (i : Nat) (a : Addr), al[i]? = some a → al'[i]? = some a) (x : Same H H') (h : Obj Γ al a H o d) : Obj Γ al' a H' o d := by
  obtain ⟨us, ds, h1, h2⟩ := h
  exact ⟨us, ds, h1, h2.alm p x⟩
/-- where one stands: al0 and H0 at the def's start; al the store's places, s what is in it -/
structure RelM (Γ : Sig) (al0 : List Addr) (H0 : Hp) (al : List Addr) (s : Sto) (S : List Addr) (A : List (Nat × Addr)) (G : List (V × D)) (σ : L2.St) (H : Hp) (env : LP.Env) : Prop where
  r : Rel (Ca Γ al) (PK.ms al H0) (S ++ al) A G σ H env
  st : Stands Γ al s ((S ++ al) ++ A.map (·.2)) H
  ex : ∃ be, al = al0 ++ be ∧ ∀ b ∈ be, H0 b = none ∧ b ∉ al0
  fz : ∀ b o u, H0 b = some (.frz o u) → H b = some (.frz o u)
section
variable {Γ : Sig} {al0 al al' : List Addr} {s s' : Sto} {H0 H H' H1 : Hp} {S : List Addr} {A : List (Nat × Addr)} {G : List (V × D)} {σ : L2.St} {env : LP.Env}
abbrev msk (S al : List Addr) (A : List (Nat × Addr)) : List Addr := (S ++ al) ++ A.map (·.2)
theorem mk_al {b : Addr} (h : b ∈ al) : b ∈ msk S al A := List.mem_append_left _ (List.mem_append_right _ h)
theorem mk_later (x : Later al H al' H') {b : Addr} (h : b ∈ msk S al' A) : b ∈ msk S al A ∨ b ∈ al' := by
  rcases List.mem_append.mp h with h | h
  · rcases List.mem_append.mp h with h | h
    · exact .inl (List.mem_append_left _ (List.mem_append_left _ h))
    · exact .inr h
  · exact .inl (List.mem_append_right _ h)
theorem Later.mks (x : Later al H al' H') : Same (PK.ms (msk S al A) H) (PK.ms (msk S al' A) H') := x.ms (fun _ h => mk_al h) fun _ h => mk_later x h
theorem _root_.LP.Rp.later {v : V} {d : D} (h : Rp (Ca Γ al) (PK.ms (msk S al A) H) v d) (x : Later al H al' H') : Rp (Ca Γ al') (PK.ms (msk S al' A) H') v d := h.alm (fun _ _ h => x.at_ h) x.mks
theorem _root_.LP.RpAll.later {v : List V} {d : List D} (h : RpAll (Ca Γ al) (PK.ms (msk S al A) H) v d) (x : Later al H al' H') : RpAll (Ca Γ al') (PK.ms (msk S al' A) H') v d := h.alm (fun _ _ h => x.at_ h) x.mks
theorem Stands.same (h : Stands Γ al s (msk S al A) H) (x : Same H H') : Stands Γ al s (msk S al A) H' := ⟨h.nd, h.len, fun i a d h1 h2 => by
  obtain ⟨o, e, ho⟩ := h.ob i a d h1 h2
  exact ⟨o, x _ _ e, ho.alm (fun _ _ h => h) (same_ms x)⟩⟩
/-- all stands on, nothing of the store changed -/
theorem RelM.of {σ' : L2.St} {env' : LP.Env} (r : RelM Γ al0 H0 al s S A G σ H env) (x : Same H H') (r' : Rel (Ca Γ al) (PK.ms al H0) (S ++ al) A G σ' H' env') : RelM Γ al0 H0 al s S A G σ' H' env' := ⟨r', r.st.same x, r.ex, fun b o u h => x _ _ (r.fz b o u h)⟩
theorem RelM.same (r : RelM Γ al0 H0 al s S A G σ H env) (x : Same H H') : RelM Γ al0 H0 al s S A G σ H' env := r.of x (r.r.same x)
end
end LP.LM
namespace LP.LM
open PySem PySem.Spec PyProof.Rows L2 PK
section
variable {Γ : Sig} {al0 al al' : List Addr} {s s' : Sto} {H0 H H' H1 : Hp} {S : List Addr} {A : List (Nat × Addr)} {G : List (V × D)} {σ : L2.St} {env : LP.Env}
theorem Stands.mt (h : Stands Γ al s (msk S al A) H) {b : Addr} (hb : b ∈ al) : ∃ o, H b = some o ∧ Mt o := by
  obtain ⟨i, hi, e⟩ := List.mem_iff_getElem.mp hb
  have h1 : al[i]? = some b := by rw [List.getElem?_eq_getElem hi, e]
  have h2 : i < (s : List D).length := by rw [h.len]; exact hi
  obtain ⟨o, ho, us, ds, sh, _⟩ := h.ob i b _ h1 (List.getElem?_eq_getElem h2)
  exact ⟨o, ho, sh.mt⟩
/-- things of the store have changed, or come to it -/
theorem RelM.later (r : RelM Γ al0 H0 al s S A G σ H env) (x : Later al H al' H') (st : Stands Γ al' s' (msk S al' A) H') : RelM Γ al0 H0 al' s' S A G σ H' env := by
  have mem := r.r
  obtain ⟨be, eb, nb⟩ := x.ex
  have nA : ∀ {i a}, (i, a) ∈ A → a ∉ al := fun h z => (mem.old _ _ h).2 (List.mem_append_right _ z)
  have eA : ∀ {i a}, (i, a) ∈ A → ∃ o, H a = some o ∧ H' a = some o := fun {i a} h => by
    obtain ⟨d, _, _, h3⟩ := mem.ow i a h
    generalize ho : H a = o at h3
    cases h3 with
    | lst _ => exact ⟨_, rfl, x.gr a _ (nA h) ho⟩
  have nA' : ∀ {i a}, (i, a) ∈ A → a ∉ al' := fun {i a} h z => by
    rw [eb] at z
    rcases List.mem_append.mp z with z | z
    · exact nA h z
    · obtain ⟨o, e, _⟩ := eA h
      rw [(nb a z).1] at e
      cases e
  refine ⟨⟨mem.len, fun i d h n => ?_, fun i a h => ?_, fun i a h => ⟨?_, fun z => ?_⟩, mem.nd, mem.ndk, fun y hy => (mem.gh y hy).later x, fun b hb => ?_, trivial, fun b hb => (nomatch hb), fun b o _ e => ?_⟩, st, ?_, fun b o u h => x.fz b o u (r.fz b o u h)⟩
  · obtain ⟨v, h1, h2⟩ := mem.fr i d h n
    exact ⟨v, h1, h2.later x⟩
  · obtain ⟨d, h1, h2, h3⟩ := mem.ow i a h
    refine ⟨d, h1, h2, ?_⟩
    obtain ⟨o, e, e'⟩ := eA h
    rw [e] at h3
    rw [e']
    cases h3 with
    | lst h3 => exact .lst (h3.later x)
  · have h0 := (mem.old i a h).1
    cases q : PK.ms al' H0 a with
    | none => rfl
    | some o =>
      obtain ⟨q1, _⟩ := ms_some q
      rw [ms_at q1 (nA h)] at h0
      cases h0
  · rcases List.mem_append.mp z with z | z
    · exact (mem.old i a h).2 (List.mem_append_left _ z)
    · exact nA' h z
  · by_cases z : b ∈ al'
    · exact st.mt z
    · rcases List.mem_append.mp hb with hb | hb
      · obtain ⟨o, e, m⟩ := mem.mu b (List.mem_append_left _ hb)
        exact ⟨o, x.gr b o (fun w => z (x.in_ w)) e, m⟩
      · exact absurd hb z
  · obtain ⟨e1, e2⟩ := ms_some e
    have n : b ∉ al := fun w => e2 (x.in_ w)
    exact x.gr b o n (mem.gr b o (fun z => (nomatch z)) (ms_at e1 n))
  · obtain ⟨b0, rfl, n0⟩ := r.ex
    refine ⟨b0 ++ be, by rw [eb, List.append_assoc], fun b hb => ?_⟩
    rcases List.mem_append.mp hb with h | h
    · exact n0 b h
    · have n1 : b ∉ al0 := fun z => (nb b h).2 (List.mem_append_left _ z)
      refine ⟨?_, n1⟩
      cases q : H0 b with
      | none => rfl
      | some o =>
        have := mem.gr b o (fun z => (nomatch z)) (ms_at q (nb b h).2)
        rw [(nb b h).1] at this
        cases this
end
/-- read: frozen, or an owned list with frozen things in it -/
inductive BpM (Γ : Sig) (al : List Addr) (M : List Addr) (H : Hp) : V → D → Prop
  | rp {v : V} {d : D} : Rp (Ca Γ al) (PK.ms M H) v d → BpM Γ al M H v d
  | lst {a : Addr} {us : List V} {ds : List D} : a ∉ al → H a = some (.lst us) → RpAll (Ca Γ al) (PK.ms M H) us ds → BpM Γ al M H (.ref a) (.lst ds)
theorem BpM.bp {Γ : Sig} {al M : List Addr} {H : Hp} {v : V} {d : D} (h : BpM Γ al M H v d) : Bp (Ca Γ al) M H v d := by
  cases h with
  | rp h => exact .rp h
  | lst n h1 h2 => exact .lst (fun z => (nomatch z)) h1 h2
theorem BpM.later {Γ : Sig} {al al' S : List Addr} {A : List (Nat × Addr)} {H H' : Hp} {v : V} {d : D} (h : BpM Γ al (msk S al A) H v d) (x : Later al H al' H') : BpM Γ al' (msk S al' A) H' v d := by
  cases h with
  | rp h => exact .rp (h.later x)
  | lst n h1 h2 =>
    refine .lst (fun z => ?_) (x.gr _ _ n h1) (h2.later x)
    obtain ⟨be, rfl, nb⟩ := x.ex
    rcases List.mem_append.mp z with z | z
    · exact n z
    · rw [(nb _ z).1] at h1
      cases h1
inductive BpMAll (Γ : Sig) (al : List Addr) (M : List Addr) (H : Hp) : List V → List D → Prop
  | nil : BpMAll Γ al M H [] []
  | cons {v : V} {vs : List V} {d : D} {ds : List D} : BpM Γ al M H v d → BpMAll Γ al M H vs ds → BpMAll Γ al M H (v :: vs) (d :: ds)
theorem BpMAll.bp {Γ : Sig} {al M : List Addr} {H : Hp} : ∀ {v : List V} {d : List D}, BpMAll Γ al M H v d → BpAll (Ca Γ al) M H v d
  | _, _, .nil => .nil
  | _, _, .cons h1 h2 => .cons h1.bp (BpMAll.bp h2)
/-! ### the readings by value -/
section
variable (Γ : Sig) (al0 : List Addr) (H0 : Hp) (O : List Nat)
/-- what is wanted of a value -/
def kE (al : List Addr) (H : Hp) (S : List Addr) (A : List (Nat × Addr)) (Q : VK) : D → Sto → Prop := fun d s' => ∀ v H' al', Later al H al' H' → Stands Γ al' s' (msk S al' A) H' → Rp (Ca Γ al') (PK.ms (msk S al' A) H') v d → Q v H'
def kB (al : List Addr) (H : Hp) (S : List Addr) (A : List (Nat × Addr)) (Q : VK) : D → Sto → Prop := fun d s' => ∀ v H' al', Later al H al' H' → Stands Γ al' s' (msk S al' A) H' → BpM Γ al' (msk S al' A) H' v d → Q v H'
def kA (al : List Addr) (H : Hp) (S : List Addr) (A : List (Nat × Addr)) (Q : List V → Hp → Prop) : List D → Sto → Prop := fun d s' => ∀ v H' al', Later al H al' H' → Stands Γ al' s' (msk S al' A) H' → RpAll (Ca Γ al') (PK.ms (msk S al' A) H') v d → Q v H'
def kAB (al : List Addr) (H : Hp) (S : List Addr) (A : List (Nat × Addr)) (Q : List V → Hp → Prop) : List D → Sto → Prop := fun d s' => ∀ v H' al', Later al H al' H' → Stands Γ al' s' (msk S al' A) H' → BpMAll Γ al' (msk S al' A) H' v d → Q v H'
def kT {α : Type} (al : List Addr) (H : Hp) (S : List Addr) (A : List (Nat × Addr)) (Q : α → Hp → Prop) : α → Sto → Prop := fun d s' => ∀ H' al', Later al H al' H' → Stands Γ al' s' (msk S al' A) H' → Q d H'
def liE (p : LP.Env → M D) : TE := fun σ H Q => ∃ S A G env E al s, A.map (·.1) = O ∧ RelM Γ al0 H0 al s S A G σ H env ∧ (p env).wp (kE Γ al H S A Q) E s
def liB (p : LP.Env → M D) : TE := fun σ H Q => ∃ S A G env E al s, A.map (·.1) = O ∧ RelM Γ al0 H0 al s S A G σ H env ∧ (p env).wp (kB Γ al H S A Q) E s
def liA (p : LP.Env → M (List D)) : TA := fun σ H Q => ∃ S A G env E al s, A.map (·.1) = O ∧ RelM Γ al0 H0 al s S A G σ H env ∧ (p env).wp (kA Γ al H S A Q) E s
def liAB (p : LP.Env → M (List D)) : TA := fun σ H Q => ∃ S A G env E al s, A.map (·.1) = O ∧ RelM Γ al0 H0 al s S A G σ H env ∧ (p env).wp (kAB Γ al H S A Q) E s
def liT (p : LP.Env → M Bool) : TT := fun σ H Q => ∃ S A G env E al s, A.map (·.1) = O ∧ RelM Γ al0 H0 al s S A G σ H env ∧ (p env).wp (kT Γ al H S A Q) E s
end
section
variable {X : Cx} {Γ : Sig} {al0 : List Addr} {H0 : Hp} {O : List Nat} {e a b c : Expr} {es : List Expr} {pos : Pos}
abbrev LE (Γ : Sig) (al0 : List Addr) (H0 : Hp) (O : List Nat) (X : Cx) (e : Expr) (p : LP.Env → M D) : Prop := PE X e (liE Γ al0 H0 O p)
abbrev LB (Γ : Sig) (al0 : List Addr) (H0 : Hp) (O : List Nat) (X : Cx) (e : Expr) (p : LP.Env → M D) : Prop := PE X e (liB Γ al0 H0 O p)
abbrev LT (Γ : Sig) (al0 : List Addr) (H0 : Hp) (O : List Nat) (X : Cx) (e : Expr) (p : LP.Env → M Bool) : Prop := PT X e (liT Γ al0 H0 O p)
abbrev LW (Γ : Sig) (al0 : List Addr) (H0 : Hp) (O : List Nat) (X : Cx) (e : Expr) (p : LP.Env → M Bool) : Prop := PW X e (liT Γ al0 H0 O p)
abbrev LA (Γ : Sig) (al0 : List Addr) (H0 : Hp) (O : List Nat) (X : Cx) (es : List Expr) (p : LP.Env → M (List D)) : Prop := PA X es (liA Γ al0 H0 O p)
abbrev LAB (Γ : Sig) (al0 : List Addr) (H0 : Hp) (O : List Nat) (X : Cx) (es : List Expr) (p : LP.Env → M (List D)) : Prop := PA X es (liAB Γ al0 H0 O p)
/-! ### what looks at no store -/
/-- the old readings, for any places and any start -/
abbrev FE (Γ : Sig) (O : List Nat) (X : Cx) (e : Expr) (p : LP.Env → W D) : Prop := ∀ (al : List Addr) (H0 : Hp), LP.LE (Ca Γ al) H0 O X e p
abbrev FT (Γ : Sig) (O : List Nat) (X : Cx) (e : Expr) (p : LP.Env → W Bool) : Prop := ∀ (al : List Addr) (H0 : Hp), LP.LT (Ca Γ al) H0 O X e p
theorem fr {p : LP.Env → W D} (h : FE Γ O X e p) : LE Γ al0 H0 O X e fun env => M.lift (p env) :=
  ⟨fun pins st σ H Q I ⟨S, A, G, env, E, al, s, hA, r, q⟩ => (h al (PK.ms al H0)).run pins st σ H Q I ⟨S ++ al, A, G, env, fun e => E e s, hA, r.r, (p env).mono (fun d k v H' g r' hv => k v H' al (Later.of (Later.grof g)) (r.st.same (Later.grof g)) hv) (fun _ z => z) q⟩⟩
theorem frT {p : LP.Env → W Bool} (h : FT Γ O X e p) : LT Γ al0 H0 O X e fun env => M.lift (p env) :=
  ⟨fun pins st σ H Q I ⟨S, A, G, env, E, al, s, hA, r, q⟩ => (h al (PK.ms al H0)).run pins st σ H Q I ⟨S ++ al, A, G, env, fun e => E e s, hA, r.r, (p env).mono (fun d k H' g r' => k H' al (Later.of (Later.grof g)) (r.st.same (Later.grof g))) (fun _ z => z) q⟩⟩
theorem lb {p : LP.Env → M D} (h : LE Γ al0 H0 O X e p) : LB Γ al0 H0 O X e p := wkE h fun σ H Q ⟨S, A, G, env, E, al, s, hA, r, q⟩ =>
  ⟨S, A, G, env, E, al, s, hA, r, (p env).mono (fun d s' k v H' al' x st h' => k v H' al' x st (.rp h')) (fun _ _ z => z) q⟩
theorem lb_var (i : Nat) (h : PE X e (tVar i)) : LB Γ al0 H0 O X e fun env => M.lift (getW env i) := wkE h fun σ H Q ⟨S, A, G, env, E, al, s, hA, r, q⟩ => by
  obtain ⟨d, he, q⟩ := getW_wp q
  by_cases z : ∃ a, (i, a) ∈ A
  · obtain ⟨a, ha⟩ := z
    obtain ⟨d', h1, h2, h3⟩ := r.r.ow i a ha
    rw [he] at h1
    cases h1
    refine ⟨.ref a, h2, q _ H al (Later.refl al H) r.st ?_⟩
    generalize ho : H a = o at h3
    cases h3 with
    | lst h3 => exact .lst (fun z => (r.r.old i a ha).2 (List.mem_append_right _ z)) ho h3
  · obtain ⟨v, h1, h2⟩ := r.r.fr i d he fun a ha => z ⟨a, ha⟩
    exact ⟨v, h1, q v H al (Later.refl al H) r.st (.rp h2)⟩
/-! ### two parts, one behind the other -/
theorem two {pa pb : LP.Env → M D} {ta tb : TE} {f : D → D → W D} {r : R2} (hf : ∀ al, OpOk (Ca Γ al) r f) (ha : ∀ σ H Q, liB Γ al0 H0 O pa σ H Q → ta σ H Q) (hb : ∀ σ H Q, liB Γ al0 H0 O pb σ H Q → tb σ H Q) :
    ∀ σ H Q, liE Γ al0 H0 O (fun env => (pa env).bind fun x => (pb env).bind fun y => M.lift (f x y)) σ H Q → ta σ H fun x H1 => tb σ H1 fun y H2 => r x y H2 Q := by
  rintro σ H Q ⟨S, A, G, env, E, al, s, hA, rl, q⟩
  refine ha σ H _ ⟨S, A, G, env, E, al, s, hA, rl, (pa env).mono (fun d1 s1 k x H1 al1 x1 st1 b1 => ?_) (fun _ _ z => z) q⟩
  have r1 := rl.later x1 st1
  refine hb σ H1 _ ⟨S, A, G, env, E, al1, s1, hA, r1, (pb env).mono (fun d2 s2 k y H2 al2 x2 st2 b2 => ?_) (fun _ _ z => z) k⟩
  have r2 := r1.later x2 st2
  refine hf al2 _ H2 x y d1 d2 Q (fun e => E e s2) r2.r.muA r2.r.ffM (b1.later x2).bp b2.bp ((f d1 d2).mono (fun d k v H3 s3 rv => ?_) (fun _ z => z) k)
  exact k v H3 al2 ((x1.trans x2).trans (Later.of s3)) (st2.same s3) rv
theorem le_op {op : Operator} {r : R2} {f : D → D → W D} {pa pb : LP.Env → M D} (ho : OpR X (binaryOp op) r) (hf : ∀ al, OpOk (Ca Γ al) r f) (ha : LB Γ al0 H0 O X a pa) (hb : LB Γ al0 H0 O X b pb) :
    LE Γ al0 H0 O X (.BinOp a op b pos) fun env => (pa env).bind fun x => (pb env).bind fun y => M.lift (f x y) :=
  wkE (pe_op ho ha hb) (two hf (fun _ _ _ h => h) fun _ _ _ h => h)
theorem le_cmp {op : CmpOp} {r : R2} {f : D → D → W D} {pa pb : LP.Env → M D} (ho : OpR X (compareOp op) r) (hf : ∀ al, OpOk (Ca Γ al) r f) (hm : behindInMarks op b = false) (ha : LB Γ al0 H0 O X a pa) (hb : LB Γ al0 H0 O X b pb) :
    LE Γ al0 H0 O X (.Compare a [op] [b] pos) fun env => (pa env).bind fun x => (pb env).bind fun y => M.lift (f x y) :=
  wkE (pe_cmpR ho ha hb hm) (two hf (fun _ _ _ h => h) fun _ _ _ h => h)
theorem le_ix {r : R2} {f : D → D → W D} {pa pb : LP.Env → M D} (ho : IxR X r) (hf : ∀ al, OpOk (Ca Γ al) r f) (hs : PlainIx b) (ha : LB Γ al0 H0 O X a pa) (hb : LB Γ al0 H0 O X b pb) :
    LE Γ al0 H0 O X (.Subscript a b pos) fun env => (pa env).bind fun x => (pb env).bind fun y => M.lift (f x y) :=
  wkE (pe_ix ho ha hb hs) (two hf (fun _ _ _ h => h) fun _ _ _ h => h)
/-! ### tests -/
def asBM (d : D) : M Bool := M.lift (asB d)
theorem asBM_wp {d : D} {Q : Bool → Sto → Prop} {E : Ex → Sto → Prop} {s : Sto} (h : (asBM d).wp Q E s) : ∃ b, d = .bl b ∧ Q b s := asB_wp h
theorem lt_val {p : LP.Env → M D} (h : LE Γ al0 H0 O X e p) (he : ∀ whole, isTrue e X.env whole = (do let v ← whole; standAt e.pos; holding [v] (truthy v)) := by intro _; rfl) : LT Γ al0 H0 O X e fun env => (p env).bind asBM :=
  wkT (pt_val h he) fun σ H Q ⟨S, A, G, env, E, al, s, hA, r, q⟩ => ⟨S, A, G, env, E, al, s, hA, r, (p env).mono (fun d s' k v H' al' x st hv => by
    obtain ⟨b, rfl, k⟩ := asBM_wp k
    cases hv
    exact ⟨b, rfl, k H' al' x st⟩) (fun _ _ z => z) q⟩
theorem lt_cmp {op : CmpOp} {r : R2} {f : D → D → W D} {pa pb : LP.Env → M D} (ho : OpR X (compareOp op) r) (hf : ∀ al, OpOk (Ca Γ al) r f) (hm : behindInMarks op b = false) (ha : LB Γ al0 H0 O X a pa) (hb : LB Γ al0 H0 O X b pb) :
    LT Γ al0 H0 O X (.Compare a [op] [b] pos) fun env => ((pa env).bind fun x => (pb env).bind fun y => M.lift (f x y)).bind asBM := by
  refine wkT (pt_cmpR ho ha hb hm) fun σ H Q h => ?_
  have key : liE Γ al0 H0 O (fun env => (pa env).bind fun x => (pb env).bind fun y => M.lift (f x y)) σ H (fun v H' => ∃ k, v = .bl k ∧ Q k H') := by
    obtain ⟨S, A, G, env, E, al, s, hA, r', q⟩ := h
    refine ⟨S, A, G, env, E, al, s, hA, r', M.mono _ (fun d s' k v H' al' x st hv => ?_) (fun _ _ z => z) q⟩
    obtain ⟨b, rfl, k⟩ := asBM_wp k
    cases hv
    exact ⟨b, rfl, k H' al' x st⟩
  exact two hf (fun _ _ _ h => h) (fun _ _ _ h => h) σ H _ key
theorem lt_not {p : LP.Env → M Bool} (h : LT Γ al0 H0 O X a p) : LT Γ al0 H0 O X (.UnaryOp .Not a pos) fun env => (p env).bind fun k => M.ret !k :=
  wkT (pt_not h) fun σ H Q ⟨S, A, G, env, E, al, s, hA, r, q⟩ => ⟨S, A, G, env, E, al, s, hA, r, (p env).mono (fun d s' k H' al' x st => k H' al' x st) (fun _ _ z => z) q⟩
variable {rest : List Expr} {p q : LP.Env → M Bool}
theorem lw_and1 (h : LT Γ al0 H0 O X a p) : LW Γ al0 H0 O X (.BoolOp .And [a] pos) p := pw_and1 h
theorem lw_or1 (h : LT Γ al0 H0 O X a p) : LW Γ al0 H0 O X (.BoolOp .Or [a] pos) p := pw_or1 h
theorem lw_and (h : LT Γ al0 H0 O X a p) (h2 : LW Γ al0 H0 O X (.BoolOp .And (b :: rest) pos) q) : LW Γ al0 H0 O X (.BoolOp .And (a :: b :: rest) pos) fun env => (p env).bind fun k => M.ite k (q env) (M.ret false) :=
  wkW (pw_and h h2) fun σ H Q ⟨S, A, G, env, E, al, s, hA, r, z⟩ => ⟨S, A, G, env, E, al, s, hA, r, (p env).mono (fun k s' u H' al' x st => by
    cases k with
    | true => exact iteT ⟨S, A, G, env, E, al', s', hA, r.later x st, (q env).mono (fun k s2 u H2 al2 x2 st2 => u H2 al2 (x.trans x2) st2) (fun _ _ z => z) u⟩
    | false => exact iteF (u H' al' x st)) (fun _ _ z => z) z⟩
theorem lw_or (h : LT Γ al0 H0 O X a p) (h2 : LW Γ al0 H0 O X (.BoolOp .Or (b :: rest) pos) q) : LW Γ al0 H0 O X (.BoolOp .Or (a :: b :: rest) pos) fun env => (p env).bind fun k => M.ite k (M.ret true) (q env) :=
  wkW (pw_or h h2) fun σ H Q ⟨S, A, G, env, E, al, s, hA, r, z⟩ => ⟨S, A, G, env, E, al, s, hA, r, (p env).mono (fun k s' u H' al' x st => by
    cases k with
    | true => exact iteT (u H' al' x st)
    | false => exact iteF ⟨S, A, G, env, E, al', s', hA, r.later x st, (q env).mono (fun k s2 u H2 al2 x2 st2 => u H2 al2 (x.trans x2) st2) (fun _ _ z => z) u⟩) (fun _ _ z => z) z⟩
/-! ### and, or, not, if as values -/
variable {pa pb : LP.Env → M D}
theorem le_one {op} (h : LE Γ al0 H0 O X a pa) : LE Γ al0 H0 O X (.BoolOp op [a] pos) pa := pe_one h
theorem le_or (h : LE Γ al0 H0 O X a pa) (h2 : LE Γ al0 H0 O X (.BoolOp .Or (b :: rest) pos) pb) : LE Γ al0 H0 O X (.BoolOp .Or (a :: b :: rest) pos) fun env => (pa env).bind fun d => (asBM d).bind fun k => M.ite k (M.ret (.bl true)) (pb env) :=
  wkE (pe_or h h2) fun σ H Q ⟨S, A, G, env, E, al, s, hA, r, z⟩ => ⟨S, A, G, env, E, al, s, hA, r, (pa env).mono (fun d s' u v H' al' x st hv => by
    obtain ⟨k, rfl, u⟩ := asBM_wp u
    cases hv
    refine ⟨k, rfl, ?_⟩
    cases k with
    | true => exact iteT (u _ H' al' x st (.bl true))
    | false => exact iteF ⟨S, A, G, env, E, al', s', hA, r.later x st, (pb env).mono (fun k s2 u v H2 al2 x2 st2 => u v H2 al2 (x.trans x2) st2) (fun _ _ z => z) u⟩) (fun _ _ z => z) z⟩
theorem le_if (hc : LT Γ al0 H0 O X c p) (h : LE Γ al0 H0 O X a pa) (h2 : LE Γ al0 H0 O X b pb) : LE Γ al0 H0 O X (.IfExp c a b pos) fun env => (p env).bind fun k => M.ite k (pa env) (pb env) :=
  wkE (pe_ifExp hc h h2) fun σ H Q ⟨S, A, G, env, E, al, s, hA, r, z⟩ => ⟨S, A, G, env, E, al, s, hA, r, (p env).mono (fun k s' u H' al' x st => by
    cases k with
    | true => exact iteT ⟨S, A, G, env, E, al', s', hA, r.later x st, (pa env).mono (fun d s2 u v H2 al2 x2 st2 => u v H2 al2 (x.trans x2) st2) (fun _ _ z => z) u⟩
    | false => exact iteF ⟨S, A, G, env, E, al', s', hA, r.later x st, (pb env).mono (fun d s2 u v H2 al2 x2 st2 => u v H2 al2 (x.trans x2) st2) (fun _ _ z => z) u⟩) (fun _ _ z => z) z⟩
/-! ### arguments, displays -/
theorem la_nil : LA Γ al0 H0 O X [] fun _ => M.ret [] := wkA pa_nil fun σ H Q ⟨S, A, G, env, E, al, s, hA, r, z⟩ => z [] H al (Later.refl al H) r.st .nil
theorem lab_nil : LAB Γ al0 H0 O X [] fun _ => M.ret [] := wkA pa_nil fun σ H Q ⟨S, A, G, env, E, al, s, hA, r, z⟩ => z [] H al (Later.refl al H) r.st .nil
variable {ps : LP.Env → M (List D)}
theorem la_cons (h : LE Γ al0 H0 O X e pa) (h2 : LA Γ al0 H0 O X es ps) (hs : starEach (e :: es) X.env = (false, eval e X.env) :: starEach es X.env := by rfl) : LA Γ al0 H0 O X (e :: es) fun env => (pa env).bind fun d => (ps env).bind fun ds => M.ret (d :: ds) :=
  wkA (pa_cons h h2 hs) fun σ H Q ⟨S, A, G, env, E, al, s, hA, r, z⟩ => ⟨S, A, G, env, E, al, s, hA, r, (pa env).mono (fun d s1 u v H1 al1 x1 st1 hv => ⟨S, A, G, env, E, al1, s1, hA, r.later x1 st1, (ps env).mono (fun ds s2 u vs H2 al2 x2 st2 hvs =>
    u (v :: vs) H2 al2 (x1.trans x2) st2 (.cons (hv.later x2) hvs)) (fun _ _ z => z) u⟩) (fun _ _ z => z) z⟩
theorem lab_cons (h : LB Γ al0 H0 O X e pa) (h2 : LAB Γ al0 H0 O X es ps) (hs : starEach (e :: es) X.env = (false, eval e X.env) :: starEach es X.env := by rfl) : LAB Γ al0 H0 O X (e :: es) fun env => (pa env).bind fun d => (ps env).bind fun ds => M.ret (d :: ds) :=
  wkA (pa_cons h h2 hs) fun σ H Q ⟨S, A, G, env, E, al, s, hA, r, z⟩ => ⟨S, A, G, env, E, al, s, hA, r, (pa env).mono (fun d s1 u v H1 al1 x1 st1 hv => ⟨S, A, G, env, E, al1, s1, hA, r.later x1 st1, (ps env).mono (fun ds s2 u vs H2 al2 x2 st2 hvs =>
    u (v :: vs) H2 al2 (x1.trans x2) st2 (.cons (hv.later x2) hvs)) (fun _ _ z => z) u⟩) (fun _ _ z => z) z⟩
theorem le_tup {x1} (h : LA Γ al0 H0 O X es ps) : LE Γ al0 H0 O X (.Tuple es x1 pos) fun env => (ps env).bind fun ds => M.lift (tupW ds) :=
  wkE (pe_tup h) fun σ H Q ⟨S, A, G, env, E, al, s, hA, r, z⟩ => ⟨S, A, G, env, E, al, s, hA, r, (ps env).mono (fun ds s' u vs H1 al1 x1 st1 hv => ⟨by rw [hv.len]; exact u.1, fun p np => by
    have sm : Same H1 (upd H1 p (.tup vs)) := same_new (Same.refl H1) np
    have r2 := (r.later x1 st1).same sm
    exact u.2 (.ref p) _ al1 (x1.trans (Later.of sm)) r2.st (.tup (sqT_mu (SqT.of upd_same) r2.r.muA) (hv.later (Later.of sm)))⟩) (fun _ _ z => z) z⟩
theorem le_lst (h : LA Γ al0 H0 O X es ps) : LE Γ al0 H0 O X (.List es pos) fun env => (ps env).bind fun ds => M.lift (lstW ds) :=
  wkE (pe_lst h) fun σ H Q ⟨S, A, G, env, E, al, s, hA, r, z⟩ => ⟨S, A, G, env, E, al, s, hA, r, (ps env).mono (fun ds s' u vs H1 al1 x1 st1 hv => ⟨by rw [hv.len]; exact u.1, fun p np => by
    have sm : Same H1 (upd H1 p (.lst vs)) := same_new (Same.refl H1) np
    have r1 := r.later x1 st1
    have r2 := r1.same sm
    exact u.2 (.ref p) _ al1 (x1.trans (Later.of sm)) r2.st (.lst (ms_at upd_same (r1.r.muA.out np)) (hv.later (Later.of sm)))⟩) (fun _ _ z => z) z⟩
/-! ### built-in calls -/
theorem le_args {r : List V → Hp → VK → Prop} {f : List D → W D} (hf : ∀ al, CallOk (Ca Γ al) r f) : ∀ σ H Q, liE Γ al0 H0 O (fun env => (ps env).bind fun ds => M.lift (f ds)) σ H Q → liAB Γ al0 H0 O ps σ H fun xs H1 => r xs H1 Q := by
  rintro σ H Q ⟨S, A, G, env, E, al, s, hA, rl, q⟩
  refine ⟨S, A, G, env, E, al, s, hA, rl, (ps env).mono (fun ds s1 k xs H1 al1 x1 st1 b1 => ?_) (fun _ _ z => z) q⟩
  have r1 := rl.later x1 st1
  refine hf al1 _ H1 xs ds Q (fun e => E e s1) r1.r.muA r1.r.ffM b1.bp ((f ds).mono (fun d k v H3 s3 rv => ?_) (fun _ z => z) k)
  exact k v H3 al1 (x1.trans (Later.of s3)) (st1.same s3) rv
theorem le_callB {id : String} {x : Str} {r : List V → Hp → VK → Prop} {f : List D → W D} {p pos : Pos} (hc : CallR X (.builtin id) r) (hf : ∀ al, CallOk (Ca Γ al) r f) (hg : Gl X x) (hm : X.mg x = none) (hv : bootBuiltins x = some (.builtin id)) (ha : LAB Γ al0 H0 O X (e :: es) ps) (hn : x ≠ "__name__" := by decide) (hdb : (x == ("__debug__" : Str)) = false := by decide)
    (he : starEach (e :: es) X.env = (false, eval e X.env) :: starEach es X.env := by rfl) (hpl : (backTo pos (starEach es X.env)).any (·.1) = false := by rfl) :
    LE Γ al0 H0 O X (.Call (.Name x p) (e :: es) [] pos) fun env => (ps env).bind fun ds => M.lift (f ds) := wkE (pe_callB hc hg hm hv ha hn hdb he hpl) (le_args hf)
theorem le_callTy {T : String} {x : Str} {r : List V → Hp → VK → Prop} {f : List D → W D} {p pos : Pos} (hc : CallR X (.type T) r) (hf : ∀ al, CallOk (Ca Γ al) r f) (hg : Gl X x) (hm : X.mg x = none) (hv : bootBuiltins x = some (.type T)) (ha : LAB Γ al0 H0 O X (e :: es) ps) (hn : x ≠ "__name__" := by decide) (hdb : (x == ("__debug__" : Str)) = false := by decide)
    (he : starEach (e :: es) X.env = (false, eval e X.env) :: starEach es X.env := by rfl) (hpl : (backTo pos (starEach es X.env)).any (·.1) = false := by rfl) :
    LE Γ al0 H0 O X (.Call (.Name x p) (e :: es) [] pos) fun env => (ps env).bind fun ds => M.lift (f ds) := wkE (pe_callTy hc hg hm hv ha hn hdb he hpl) (le_args hf)
end
end LP.LM
namespace LP.LM
open PySem PySem.Spec PyProof.Rows L2 PK RZ
section
variable {X : Cx} {Γ : Sig} {al0 : List Addr} {H0 : Hp} {O : List Nat} {e a b c : Expr} {es : List Expr} {pos : Pos} {pa pb pc : LP.Env → M D} {ps : LP.Env → M (List D)}
/-! ### operators -/
theorem le_add (hK : X.K = Γ.K) (ha : LB Γ al0 H0 O X a pa) (hb : LB Γ al0 H0 O X b pb) : LE Γ al0 H0 O X (.BinOp a .Add b pos) fun env => (pa env).bind fun x => (pb env).bind fun y => M.lift (addW x y) :=
  le_op (((op_addW.or op_add_str).or (ko_catB Γ.K hK)).or op_cat) (fun _ => add_ok) ha hb
theorem le_sub (ha : LB Γ al0 H0 O X a pa) (hb : LB Γ al0 H0 O X b pb) : LE Γ al0 H0 O X (.BinOp a .Sub b pos) fun env => (pa env).bind fun x => (pb env).bind fun y => M.lift (subW x y) := le_op op_subW (fun _ => sub_ok) ha hb
theorem le_mul (hK : X.K = Γ.K) (ha : LB Γ al0 H0 O X a pa) (hb : LB Γ al0 H0 O X b pb) : LE Γ al0 H0 O X (.BinOp a .Mult b pos) fun env => (pa env).bind fun x => (pb env).bind fun y => M.lift (mulW x y) := le_op ((op_mul.or (ko_repA Γ.K hK)).or op_rep) (fun _ => mul_ok) ha hb
theorem le_mod (ha : LB Γ al0 H0 O X a pa) (hb : LB Γ al0 H0 O X b pb) : LE Γ al0 H0 O X (.BinOp a .Mod b pos) fun env => (pa env).bind fun x => (pb env).bind fun y => M.lift (modW x y) := le_op op_mod (fun _ => intOp_ok) ha hb
theorem le_fdiv (ha : LB Γ al0 H0 O X a pa) (hb : LB Γ al0 H0 O X b pb) : LE Γ al0 H0 O X (.BinOp a .FloorDiv b pos) fun env => (pa env).bind fun x => (pb env).bind fun y => M.lift (fdivW x y) := le_op op_fdiv (fun _ => intOp_ok) ha hb
theorem le_pow (ha : LB Γ al0 H0 O X a pa) (hb : LB Γ al0 H0 O X b pb) : LE Γ al0 H0 O X (.BinOp a .Pow b pos) fun env => (pa env).bind fun x => (pb env).bind fun y => M.lift (powW x y) := le_op op_pow (fun _ => intOp_ok) ha hb
theorem le_item (hK : X.K = Γ.K) (hs : PlainIx b) (ha : LB Γ al0 H0 O X a pa) (hb : LB Γ al0 H0 O X b pb) : LE Γ al0 H0 O X (.Subscript a b pos) fun env => (pa env).bind fun x => (pb env).bind fun y => M.lift (ixW x y) :=
  le_ix (r := rIx Γ.K) (by rw [← hK]; exact ix_seq) (fun _ => ix_ok) hs ha hb
section
variable {k : Nat}
theorem le_eq (hr : Room k X.A) (hK : X.K = Γ.K) (ha : LB Γ al0 H0 O X a pa) (hb : LB Γ al0 H0 O X b pb) : LE Γ al0 H0 O X (.Compare a [.Eq] [b] pos) fun env => (pa env).bind fun x => (pb env).bind fun y => M.lift (eqW x y) := le_cmp (op_eq.or (ko_eqD Γ.K hr hK)) (fun _ => eq_ok) (nomark _) ha hb
theorem lt_eq (hr : Room k X.A) (hK : X.K = Γ.K) (ha : LB Γ al0 H0 O X a pa) (hb : LB Γ al0 H0 O X b pb) : LT Γ al0 H0 O X (.Compare a [.Eq] [b] pos) fun env => ((pa env).bind fun x => (pb env).bind fun y => M.lift (eqW x y)).bind asBM := lt_cmp (op_eq.or (ko_eqD Γ.K hr hK)) (fun _ => eq_ok) (nomark _) ha hb
theorem lt_ne (hr : Room k X.A) (hK : X.K = Γ.K) (ha : LB Γ al0 H0 O X a pa) (hb : LB Γ al0 H0 O X b pb) : LT Γ al0 H0 O X (.Compare a [.NotEq] [b] pos) fun env => ((pa env).bind fun x => (pb env).bind fun y => M.lift (neW x y)).bind asBM := lt_cmp (op_ne.or (ko_neD Γ.K hr hK)) (fun _ => ne_ok) (nomark _) ha hb
end
theorem lt_lt (ha : LB Γ al0 H0 O X a pa) (hb : LB Γ al0 H0 O X b pb) : LT Γ al0 H0 O X (.Compare a [.Lt] [b] pos) fun env => ((pa env).bind fun x => (pb env).bind fun y => M.lift (ltW x y)).bind asBM := lt_cmp (op_lt.or op_lt_str) (fun _ => ord_ok) (nomark _) ha hb
theorem lt_le (ha : LB Γ al0 H0 O X a pa) (hb : LB Γ al0 H0 O X b pb) : LT Γ al0 H0 O X (.Compare a [.LtE] [b] pos) fun env => ((pa env).bind fun x => (pb env).bind fun y => M.lift (leW x y)).bind asBM := lt_cmp (op_le.or op_le_str) (fun _ => ord_ok) (nomark _) ha hb
theorem lt_gt (ha : LB Γ al0 H0 O X a pa) (hb : LB Γ al0 H0 O X b pb) : LT Γ al0 H0 O X (.Compare a [.Gt] [b] pos) fun env => ((pa env).bind fun x => (pb env).bind fun y => M.lift (gtW x y)).bind asBM := lt_cmp (op_gt.or op_gt_str) (fun _ => ord_ok) (nomark _) ha hb
theorem lt_ge (ha : LB Γ al0 H0 O X a pa) (hb : LB Γ al0 H0 O X b pb) : LT Γ al0 H0 O X (.Compare a [.GtE] [b] pos) fun env => ((pa env).bind fun x => (pb env).bind fun y => M.lift (geW x y)).bind asBM := lt_cmp (op_ge.or op_ge_str) (fun _ => ord_ok) (nomark _) ha hb
/-! ### xs[a:b] -/
theorem le_len {p pos : Pos} (hK : X.K = Γ.K) (hg : Gl X "len") (hm : X.mg "len" = none) (ha : LAB Γ al0 H0 O X [e] ps) (he : starEach [e] X.env = [(false, eval e X.env)] := by rfl) : LE Γ al0 H0 O X (.Call (.Name "len" p) [e] [] pos) fun env => (ps env).bind fun ds => M.lift (lenW ds) := le_callB ((k_len Γ.K hK).or call_len_str) (fun _ => len_ok) hg hm PySem.boot_len ha (by decide) (by decide) he rfl
theorem le_tuple {p pos : Pos} (hK : X.K = Γ.K) (hg : Gl X "tuple") (hm : X.mg "tuple" = none) (ha : LAB Γ al0 H0 O X [e] ps) (he : starEach [e] X.env = [(false, eval e X.env)] := by rfl) : LE Γ al0 H0 O X (.Call (.Name "tuple" p) [e] [] pos) fun env => (ps env).bind fun ds => M.lift (tupleW ds) := le_callTy (k_tup Γ.K hK) (fun _ => tuple_ok) hg hm (by decide +kernel) ha (by decide) (by decide) he rfl
theorem le_list {p pos : Pos} (hK : X.K = Γ.K) (hg : Gl X "list") (hm : X.mg "list" = none) (ha : LAB Γ al0 H0 O X [e] ps) (he : starEach [e] X.env = [(false, eval e X.env)] := by rfl) : LE Γ al0 H0 O X (.Call (.Name "list" p) [e] [] pos) fun env => (ps env).bind fun ds => M.lift (listW ds) := le_callTy (k_list Γ.K hK) (fun _ => list_ok) hg hm (by decide +kernel) ha (by decide) (by decide) he rfl
theorem le_repr {k : Nat} {p pos : Pos} (hgd : X.A.guards = some []) (hr : Room k X.A) (hK : X.K = Γ.K) (hg : Gl X "repr") (hm : X.mg "repr" = none) (ha : LAB Γ al0 H0 O X [e] ps) (he : starEach [e] X.env = [(false, eval e X.env)] := by rfl) : LE Γ al0 H0 O X (.Call (.Name "repr" p) [e] [] pos) fun env => (ps env).bind fun ds => M.lift (reprD ds) := le_callB (call_reprV Γ.K hgd hr hK) (fun _ => repr_ok) hg hm (by decide +kernel) ha (by decide) (by decide) he rfl
theorem le_max2 {e2 : Expr} {p pos : Pos} (hc : X.calm = true) (hg : Gl X "max") (hm : X.mg "max" = none) (ha : LAB Γ al0 H0 O X [e, e2] ps) (he : starEach [e, e2] X.env = (false, eval e X.env) :: starEach [e2] X.env := by rfl) (hpl : (backTo pos (starEach [e2] X.env)).any (·.1) = false := by rfl) : LE Γ al0 H0 O X (.Call (.Name "max" p) [e, e2] [] pos) fun env => (ps env).bind fun ds => M.lift (max2W ds) := le_callB (call_max2 hc) (fun _ => max2_ok) hg hm (by decide +kernel) ha (by decide) (by decide) he hpl
theorem le_intOf {p pos : Pos} (hg : Gl X "int") (hm : X.mg "int" = none) (ha : LAB Γ al0 H0 O X [e] ps) (he : starEach [e] X.env = [(false, eval e X.env)] := by rfl) : LE Γ al0 H0 O X (.Call (.Name "int" p) [e] [] pos) fun env => (ps env).bind fun ds => M.lift (intW ds) := le_callTy call_int1 (fun _ => int_ok) hg hm (by decide +kernel) ha (by decide) (by decide) he rfl
end
/-! ### targets: they look at no store -/
def liG (Γ : Sig) (al0 : List Addr) (H0 : Hp) (O vs : List Nat) (g : D → LP.Env → W LP.Env) : TG := fun v σ H Q => ∃ S A G env d E al s, A.map (·.1) = O ∧ RelM Γ al0 H0 al s S A G σ H env ∧ Rp (Ca Γ al) (PK.ms (msk S al A) H) v d ∧
  (g d env).wp (fun env' => ∀ σ', σ'.length = σ.length → (∀ j, j ∉ vs → σ'[j]? = σ[j]?) → RelM Γ al0 H0 al s S A G σ' H env' → Q σ' H) E
section
variable {X : Cx} {Γ : Sig} {al0 : List Addr} {H0 : Hp} {O vs : List Nat} {tg e : Expr} {es : List Expr} {pos : Pos} {pa : LP.Env → M D} {ps : LP.Env → M (List D)}
abbrev LG (Γ : Sig) (al0 : List Addr) (H0 : Hp) (O vs : List Nat) (X : Cx) (e : Expr) (g : D → LP.Env → W LP.Env) : Prop := PG X e (liG Γ al0 H0 O vs g)
theorem frG {g : D → LP.Env → W LP.Env} (h : ∀ (al : List Addr) (H0 : Hp), LP.LG (Ca Γ al) H0 O vs X e g) : LG Γ al0 H0 O vs X e g :=
  ⟨fun pins st σ H x u Q I rv ⟨S, A, G, env, d, E, al, s, hA, r, hd, q⟩ => (h al (PK.ms al H0)).run pins st σ H x u Q I rv ⟨S ++ al, A, G, env, d, E, hA, r.r, hd, (g d env).mono (fun env' k σ' h1 h2 r' => k σ' h1 h2 (r.of (Same.refl H) r')) (fun _ z => z) q⟩⟩
/-! ### what is walked -/
def kI (Γ : Sig) (al : List Addr) (H : Hp) (S : List Addr) (A : List (Nat × Addr)) (R : It → Hp → Prop) : List D → Sto → Prop := fun ds s' => ∀ J H' al' g, Later al H al' H' → Stands Γ al' s' (msk S al' A) H' → (∀ x ∈ g, Rp (Ca Γ al') (PK.ms (msk S al' A) H') x.1 x.2) → (∀ al2, Wk (Ca Γ al2) J g ds) → R J H'
def liI (Γ : Sig) (al0 : List Addr) (H0 : Hp) (O : List Nat) (p : LP.Env → M (List D)) : TI := fun σ H R => ∃ S A G env E al s, A.map (·.1) = O ∧ RelM Γ al0 H0 al s S A G σ H env ∧ (p env).wp (kI Γ al H S A R) E s
abbrev LI (Γ : Sig) (al0 : List Addr) (H0 : Hp) (O : List Nat) (X : Cx) (tg e : Expr) (p : LP.Env → M (List D)) : Prop := PI X tg e (liI Γ al0 H0 O p)
theorem li_list (h : LE Γ al0 H0 O X e pa) (hK : X.K = Γ.K) : LI Γ al0 H0 O X tg e fun env => (pa env).bind fun d => M.lift (walkLW d) :=
  wkI (pi_list h) fun σ H R ⟨S, A, G, env, E, al, s, hA, r, q⟩ => ⟨S, A, G, env, E, al, s, hA, r, (pa env).mono (fun d s' k v H' al' x st hv => by
    cases d with
    | lst ds =>
      have hv' := hv
      obtain ⟨b, xs, rfl, h1, h2⟩ := hv'.lstE
      exact ⟨b, rfl, ⟨xs, SqL.of (ms_sub _ _ h1)⟩, k _ H' al' [(.ref b, .lst ds)] x st (fun x hx => by rw [List.mem_singleton.mp hx]; exact hv) (fun _ => wk_list hK)⟩
    | _ => exact k.elim) (fun _ _ z => z) q⟩
theorem li_tup (h : LE Γ al0 H0 O X e pa) (hK : X.K = Γ.K) : LI Γ al0 H0 O X tg e fun env => (pa env).bind fun d => M.lift (walkTW d) :=
  wkI (pi_tup h) fun σ H R ⟨S, A, G, env, E, al, s, hA, r, q⟩ => ⟨S, A, G, env, E, al, s, hA, r, (pa env).mono (fun d s' k v H' al' x st hv => by
    cases d with
    | tup ds =>
      have hv' := hv
      obtain ⟨b, xs, rfl, h1, h2⟩ := hv'.tupE
      exact ⟨b, rfl, ⟨xs, by rw [hK]; exact sqT_same ms_sub h1⟩, k _ H' al' [(.ref b, .tup ds)] x st (fun x hx => by rw [List.mem_singleton.mp hx]; exact hv) (fun _ => wk_tup hK)⟩
    | _ => exact k.elim) (fun _ _ z => z) q⟩
theorem li_range {a : Expr} {pp pos : Pos} (hg : Gl X "range") (hm : X.mg "range" = none) (ha : LA Γ al0 H0 O X [a] ps) (hs : starEach [a] X.env = [(false, eval a X.env)] := by rfl) :
    LI Γ al0 H0 O X tg (.Call (.Name "range" pp) [a] [] pos) fun env => (ps env).bind fun ds => M.lift (range1W ds) :=
  wkI (pi_range1 hg hm ha hs) fun σ H R ⟨S, A, G, env, E, al, s, hA, r, q⟩ => ⟨S, A, G, env, E, al, s, hA, r, (ps env).mono (fun ds s' k vs H' al' x st hv => by
    match ds, k, hv with
    | [.int n], k, .cons (.int _) .nil => exact ⟨n, rfl, k.1.1, k.1.2, k.2 _ H' al' [] x st (fun _ hx => (nomatch hx)) (fun _ => wk_range)⟩) (fun _ _ z => z) q⟩
end
end LP.LM
namespace LP.LM
open PySem PySem.Spec PyProof.Rows L2 PK RZ
/-! ### comprehensions -/
def lcM (g : D → LP.Env → W LP.Env) (t : LP.Env → M Bool) (el : LP.Env → M D) (env : LP.Env) : List D → List D → M (List D)
  | [], acc => M.ret acc
  | d :: ds, acc => (M.lift (W.calm (g d env))).bind fun env' => (M.calm (t env')).bind fun b => M.ite b
    ((M.calm (el env')).bind fun y => (M.want (acc.length < sizeLine)).bind fun _ => lcM g t el env ds (acc ++ [y])) (lcM g t el env ds acc)
/-- the new list -/
def kN (Γ : Sig) (al : List Addr) (H : Hp) (S : List Addr) (A : List (Nat × Addr)) (Q : VK) : D → Sto → Prop := fun d s' => ∀ (l : Addr) H' al', Later al H al' H' → Stands Γ al' s' (msk (l :: S) al' A) H' → H l = none → l ∉ al' → Ow (Ca Γ al') (PK.ms (msk (l :: S) al' A) H') (H' l) d → Q (.ref l) H'
def liN (Γ : Sig) (al0 : List Addr) (H0 : Hp) (O : List Nat) (p : LP.Env → M D) : TE := fun σ H Q => ∃ S A G env E al s, A.map (·.1) = O ∧ RelM Γ al0 H0 al s S A G σ H env ∧ (p env).wp (kN Γ al H S A Q) E s
section
variable {Γ : Sig} {al0 al al' : List Addr} {s s' : Sto} {H0 H H' : Hp} {S : List Addr} {A : List (Nat × Addr)} {G : List (V × D)} {σ : L2.St} {env : LP.Env}
/-- fewer things are kept out -/
theorem Stands.sub {M M' : List Addr} (h : Stands Γ al s M H) (hm : ∀ b ∈ M', b ∈ M) : Stands Γ al s M' H := ⟨h.nd, h.len, fun i a d h1 h2 => by
  obtain ⟨o, e, ho⟩ := h.ob i a d h1 h2
  exact ⟨o, e, ho.alm (fun _ _ h => h) (ms_mono hm)⟩⟩
/-- one more new object is kept out -/
theorem Stands.mask {p : Addr} {o : HO} (h : Stands Γ al s (msk S al A) H) (np : H p = none) : Stands Γ al s (msk (p :: S) al A) (upd H p o) := ⟨h.nd, h.len, fun i a d h1 h2 => by
  obtain ⟨u, e, ho⟩ := h.ob i a d h1 h2
  refine ⟨u, by rw [upd_ne (ne_of_none e np)]; exact e, ho.alm (fun _ _ h => h) fun b w z => ?_⟩
  obtain ⟨z1, z2⟩ := ms_some z
  have n := ne_of_none z1 np
  exact ms_at (by rw [upd_ne n]; exact z1) fun q => (List.mem_cons.mp q).elim n z2⟩
theorem RelM.mask {p : Addr} {o : HO} (r : RelM Γ al0 H0 al s S A G σ H env) (np : H p = none) (m : Mt o) : RelM Γ al0 H0 al s (p :: S) A G σ (upd H p o) env :=
  ⟨r.r.mask np m, r.st.mask np, r.ex, fun b o u h => by have e := r.fz b o u h; rw [upd_ne (ne_of_none e np)]; exact e⟩
theorem RelM.outN (r : RelM Γ al0 H0 al s S A G σ H env) {p : Addr} (np : H p = none) : p ∉ al := fun z => r.r.muA.out np (mk_al' z)
  where mk_al' {b : Addr} (h : b ∈ al) : b ∈ msk S al A := mk_al h
end
section
variable {X : Cx} {Γ : Sig} {al0 : List Addr} {H0 : Hp} {O : List Nat}
theorem le_new {e : Expr} {p : LP.Env → M D} (h : PE X e (liN Γ al0 H0 O p)) : LE Γ al0 H0 O X e p := wkE h fun σ H Q ⟨S, A, G, env, E, al, s, hA, r, q⟩ =>
  ⟨S, A, G, env, E, al, s, hA, r, (p env).mono (fun d s' k l H' al' x st nl nal ho => by
    have hm : ∀ b ∈ msk S al' A, b ∈ msk (l :: S) al' A := fun b hb => List.mem_cons_of_mem _ hb
    have st' : Stands Γ al' s' (msk S al' A) H' := st.sub hm
    refine k (.ref l) H' al' x st' ?_
    have nM : l ∉ msk S al' A := fun z => by
      rcases mk_later x z with z | z
      · exact r.r.muA.out nl z
      · exact nal z
    generalize hq : H' l = o at ho
    cases ho with
    | lst ho => exact .lst (ms_at hq nM) (ho.same (ms_mono hm))) (fun _ _ z => z) q⟩
theorem lc_reads {wi : TI} {g : TG} {tt : TT} {te : TE} {vs : List Nat} {p : LP.Env → M (List D)} {gW : D → LP.Env → W LP.Env} {tW : LP.Env → M Bool} {eW : LP.Env → M D} (hvs : ∀ i ∈ vs, i ∉ O)
    (hi : ∀ σ H R, liI Γ al0 H0 O p σ H R → wi σ H R) (hg : ∀ v σ H Q, liG Γ al0 H0 O vs gW v σ H Q → g v σ H Q) (ht : ∀ σ H Q, liT Γ al0 H0 O tW σ H Q → tt σ H Q) (he : ∀ σ H Q, liE Γ al0 H0 O eW σ H Q → te σ H Q) :
    ∀ σ H Q, liN Γ al0 H0 O (fun env => (p env).bind fun ds => (lcM gW tW eW (wipeE env vs) ds []).bind fun l => M.ret (.lst l)) σ H Q → tLc wi g tt te vs σ H Q := by
  rintro σ H Q ⟨S, A, G, env, E, al, s, hA, r, q⟩
  refine hi σ H _ ⟨S, A, G, env, E, al, s, hA, r, (p env).mono (fun ds s1 k J H1 al1 gh x1 st1 hgh w D nD => ?_) (fun _ _ z => z) q⟩
  have r1 := r.later x1 st1
  have nDal : D ∉ al1 := r1.outN nD
  have hwp : ∀ i ∈ vs, i ∉ A.map (·.1) := fun i hi => by rw [hA]; exact hvs i hi
  have nDH : H D = none := by
    cases q : H D with
    | none => rfl
    | some o =>
      have := x1.gr D o (fun z => nDal (x1.in_ z)) q
      rw [nD] at this
      cases this
  have r1g : RelM Γ al0 H0 al1 s1 S A (gh ++ G) σ H1 env := ⟨r1.r.ghost hgh, r1.st, r1.ex, r1.fz⟩
  -- the state of the turns
  let Pv : Nat → Hp → Prop := fun i H2 => ∃ us acc al2 s2, Later al1 H1 al2 H2 ∧ RelM Γ al0 H0 al2 s2 (D :: S) A (gh ++ G) σ H2 env ∧ H2 D = some (.lst us) ∧ D ∉ al2 ∧ RpAll (Ca Γ al2) (PK.ms (msk (D :: S) al2 A) H2) us acc ∧
    (lcM gW tW eW (wipeE env vs) (ds.drop i) acc).wp (fun l s' => ∀ (l' : Addr) H' al', Later al H al' H' → Stands Γ al' s' (msk (l' :: S) al' A) H' → H l' = none → l' ∉ al' → Ow (Ca Γ al') (PK.ms (msk (l' :: S) al' A) H') (H' l') (.lst l) → Q (.ref l') H') E s2
  refine ⟨fun i m H2 => m = ds.length - i ∧ i ≤ ds.length ∧ Pv i H2, ⟨ds.length, rfl, Nat.zero_le _, [], [], al1, s1, ?_⟩, ?_⟩
  · exact ⟨Later.of (same_new (Same.refl H1) nD), r1g.mask nD trivial, upd_same, nDal, .nil, k⟩
  · rintro i m H2 ⟨rfl, hi2, us, acc, al2, s2, x2, r2, eD, nD2, ha, k2⟩
    have gh2 : ∀ x ∈ gh, Rp (Ca Γ al2) (PK.ms (msk (D :: S) al2 A) H2) x.1 x.2 := fun x hx => r2.r.gh x (List.mem_append_left _ hx)
    by_cases hlt : i < ds.length
    · refine .inr ⟨(w al2).goes _ H2 i r2.r.muA gh2 hlt, Pv (i + 1), fun H' p' => ⟨ds.length - (i + 1), by omega, rfl, hlt, p'⟩, fun x H3 y => ?_⟩
      obtain ⟨s3, d, hd, rx⟩ := (w al2).yields _ H2 i x H3 r2.r.muA gh2 hlt y
      have r3 := r2.same s3
      have eD3 := s3 _ _ eD
      have ha3 := ha.later (Later.of s3)
      rw [List.drop_eq_getElem_cons hlt] at k2
      have ed : ds[i] = d := by
        rw [List.getElem?_eq_getElem hlt] at hd
        exact Option.some.inj hd
      rw [ed] at k2
      have r3w : RelM Γ al0 H0 al2 s2 (D :: S) A (gh ++ G) (wipe σ vs) H3 (wipeE env vs) := ⟨r3.r.wipe hwp, r3.st, r3.ex, r3.fz⟩
      refine hg x _ H3 _ ⟨D :: S, A, gh ++ G, wipeE env vs, d, fun _ => False, al2, s2, hA, r3w, rx, W.mono _ (fun env' k3 σ' l' k' r4 => ?_) (fun _ z => z) k2⟩
      refine ⟨(wipe_eq l' k').trans wipe_wipe, ht σ' H3 _ ⟨D :: S, A, gh ++ G, env', fun _ _ => False, al2, s2, hA, r4, M.mono _ (fun b s4 k4 H4 al4 x4 st4 => ?_) (fun _ _ z => z) k3⟩⟩
      have eD4 := x4.gr _ _ nD2 eD3
      have nD4 : D ∉ al4 := fun z => by
        obtain ⟨be, rfl, nb⟩ := x4.ex
        rcases List.mem_append.mp z with z | z
        · exact nD2 z
        · rw [(nb _ z).1] at eD3
          cases eD3
      have ha4 := ha3.later x4
      cases b with
      | false => exact iteF ⟨us, acc, al4, s4, (x2.trans (Later.of s3)).trans x4, r3.later x4 st4, eD4, nD4, ha4, k4⟩
      | true =>
        have r5 := r4.later x4 st4
        refine iteT (he σ' H4 _ ⟨D :: S, A, gh ++ G, env', fun _ _ => False, al4, s4, hA, r5, M.mono _ (fun y s5 k5 v H5 al5 x5 st5 hv => ?_) (fun _ _ z => z) k4⟩)
        have eD5 := x5.gr _ _ nD4 eD4
        have nD5 : D ∉ al5 := fun z => by
          obtain ⟨be, rfl, nb⟩ := x5.ex
          rcases List.mem_append.mp z with z | z
          · exact nD4 z
          · rw [(nb _ z).1] at eD4
            cases eD4
        have ha5 := ha4.later x5
        have r7 := r3.later (x4.trans x5) st5
        have hD : D ∈ msk (D :: S) al5 A := List.mem_cons_self
        refine ⟨us, eD5, by rw [ha5.len]; exact k5.1, us ++ [v], acc ++ [y], al5, s5, ⟨?_, fun b o n e => ?_, fun b o u e => ?_⟩, ⟨?_, ⟨r7.st.nd, r7.st.len, fun i a d h1 h2 => ?_⟩, r7.ex, fun b o u e => ?_⟩, upd_same, nD5, ?_, k5.2⟩
        · exact ((x2.trans (Later.of s3)).trans (x4.trans x5)).ex
        · rw [upd_ne (ne_of_none e nD)]
          exact ((x2.trans (Later.of s3)).trans (x4.trans x5)).gr b o n e
        · rw [upd_ne (ne_of_none e nD)]
          exact ((x2.trans (Later.of s3)).trans (x4.trans x5)).fz b o u e
        · have q7 := r7.r
          refine ⟨q7.len, fun j z h n => ?_, fun j a h => ?_, q7.old, q7.nd, q7.ndk, fun x hx => ?_, q7.mu.upd trivial, trivial, fun b hb => (nomatch hb), fun b o n e => ?_⟩
          · rw [ms_upd hD]
            exact q7.fr j z h n
          · have na : a ≠ D := fun z => (q7.old j a h).2 (by rw [z]; exact List.mem_cons_self)
            rw [ms_upd hD, upd_ne na]
            exact q7.ow j a h
          · rw [ms_upd hD]
            exact q7.gh x hx
          · have nb : b ≠ D := fun z => by
              obtain ⟨e1, e2⟩ := ms_some e
              rw [z] at e1 e2
              have := r1.r.gr D o (fun z => (nomatch z)) (ms_at e1 nDal)
              rw [nD] at this
              cases this
            rw [upd_ne nb]
            exact q7.gr b o n e
        · obtain ⟨o, e, ho⟩ := r7.st.ob i a d h1 h2
          have na : a ≠ D := fun z => nD5 (by rw [← z]; exact List.mem_of_getElem? h1)
          refine ⟨o, by rw [upd_ne na]; exact e, ?_⟩
          rw [ms_upd hD]
          exact ho
        · have e1 := r7.fz b o u e
          rw [upd_ne fun z => by rw [z, eD5] at e1; cases e1]
          exact e1
        · rw [ms_upd hD]
          exact ha5.snoc hv
    · have e : i = ds.length := by omega
      subst e
      refine .inl ⟨(w al2).stops _ H2 r2.r.muA gh2, ?_⟩
      rw [List.drop_length] at k2
      refine k2 D H2 al2 (x1.trans x2) r2.st nDH nD2 ?_
      rw [eD]
      exact .lst ha
abbrev LTs (Γ : Sig) (al0 : List Addr) (H0 : Hp) (O : List Nat) (X : Cx) (ifs : List Expr) (p : LP.Env → M Bool) : Prop := PTs X ifs (liT Γ al0 H0 O p)
theorem lts_nil : LTs Γ al0 H0 O X [] fun _ => M.ret true := ⟨fun pins s σ H Q I h => pts_nil.run pins s σ H Q I (by
  obtain ⟨S, A, G, env, E, al, s, hA, r, q⟩ := h
  exact q H al (Later.refl al H) r.st)⟩
theorem lts_one {c : Expr} {p : LP.Env → M Bool} (h : LT Γ al0 H0 O X c p) : LTs Γ al0 H0 O X [c] p := pts_one h
def lcDM (gW : D → LP.Env → W LP.Env) (tW : LP.Env → M Bool) (eW : LP.Env → M D) (vs : List Nat) (pi : LP.Env → M (List D)) (env : LP.Env) : M D :=
  (pi env).bind fun ds => (lcM gW tW eW (wipeE env vs) ds []).bind fun l => M.ret (.lst l)
section
variable {pos : Pos} {elt tg iter : Expr} {ifs : List Expr} {scope : Scope} {own : List (Str × Nat)} {pi : LP.Env → M (List D)} {gW : D → LP.Env → W LP.Env} {tW : LP.Env → M Bool} {eW : LP.Env → M D}
theorem ln_lc (hc : X.calm = true) (hN : X.N.Nodup) (hi : LI Γ al0 H0 O X tg iter pi) (ok : BlkOk X.N X.env.scope scope own) (hvs : ∀ i ∈ own.map (·.2), i ∉ O)
    (hg : ∀ (s : Shared) (H : Hp) (C : Addr) (cl : List (Str × Addr)) (fp : List Addr), LG Γ al0 H0 O (own.map (·.2)) (X.blk s H scope (compEnvC scope cl C X.env) fp) tg gW)
    (ht : ∀ (s : Shared) (H : Hp) (C : Addr) (cl : List (Str × Addr)) (fp : List Addr), LTs Γ al0 H0 O (X.blk s H scope (compEnvC scope cl C X.env) fp) ifs tW)
    (he : ∀ (s : Shared) (H : Hp) (C : Addr) (cl : List (Str × Addr)) (fp : List Addr), LE Γ al0 H0 O (X.blk s H scope (compEnvC scope cl C X.env) fp) elt eW) (hs : ∀ x, foldedSetIterable iter X.env x = pure x := by intro _; rfl) :
    PE X (.ListComp elt [⟨tg, iter, ifs, 0⟩] scope pos) (liN Γ al0 H0 O (lcDM gW tW eW (own.map (·.2)) pi)) :=
  wkE (pe_lc hc hN hi ok hg ht he hs) (lc_reads hvs (fun _ _ _ h => h) (fun _ _ _ _ h => h) (fun _ _ _ h => h) fun _ _ _ h => h)
end
end
end LP.LM
namespace LP.LM
open PySem PySem.Spec PyProof.Rows L2 PK RZ
/-! ### statements -/
/-- what is wanted behind -/
def FQ (Γ : Sig) (al0 : List Addr) (H0 : Hp) (S : List Addr) (G : List (V × D)) (O' Ob : List Nat) (De : Ends) : Fl → Sto → Prop
  | .nx env, s => ∀ A σ H al, A.map (·.1) = O' → RelM Γ al0 H0 al s S A G σ H env → De.nx σ H
  | .rt d, s => ∀ v H al, Later al0 H0 al H → Stands Γ al s (msk S al []) H → Rp (Ca Γ al) (PK.ms (msk S al []) H) v d → De.rt v H
  | .bk env, s => ∀ A σ H al, A.map (·.1) = Ob → RelM Γ al0 H0 al s S A G σ H env → De.bk σ H
  | .ct env, s => ∀ A σ H al, A.map (·.1) = Ob → RelM Γ al0 H0 al s S A G σ H env → De.ct σ H
def liS (Γ : Sig) (al0 : List Addr) (H0 : Hp) (O O' Ob : List Nat) (p : LP.Env → M Fl) : TS := fun De σ H => ∃ S A G env E al s, A.map (·.1) = O ∧ RelM Γ al0 H0 al s S A G σ H env ∧ (p env).wp (FQ Γ al0 H0 S G O' Ob De) E s
def thenM (m : M Fl) (q : LP.Env → M Fl) : M Fl := m.bind fun f => match f with
  | .nx e => q e
  | f => M.ret f
section
variable {Γ : Sig} {al0 al al' : List Addr} {s s' : Sto} {H0 H H' : Hp} {S : List Addr} {A : List (Nat × Addr)} {G : List (V × D)} {σ : L2.St} {env : LP.Env}
theorem RelM.sub (k : Nat → Bool) (r : RelM Γ al0 H0 al s S A G σ H env) : RelM Γ al0 H0 al s S (A.filter fun x => k x.1) G σ H env :=
  ⟨r.r.sub k, r.st.sub fun b hb => by
    rcases List.mem_append.mp hb with h | h
    · exact List.mem_append_left _ h
    · obtain ⟨x, hx, rfl⟩ := List.mem_map.mp h
      exact List.mem_append_right _ (List.mem_map.mpr ⟨x, (List.mem_filter.mp hx).1, rfl⟩), r.ex, r.fz⟩
theorem RelM.set {v : V} {d : D} {i : Nat} (r : RelM Γ al0 H0 al s S A G σ H env) (n : ∀ a, (i, a) ∉ A) (hv : Rp (Ca Γ al) (PK.ms (msk S al A) H) v d) : RelM Γ al0 H0 al s S A G (σ.set i (some v)) H (env.set i (some d)) :=
  ⟨r.r.set n hv, r.st, r.ex, r.fz⟩
theorem RelM.lat (r : RelM Γ al0 H0 al s S A G σ H env) : Later al0 H0 al H := by
  obtain ⟨be, rfl, nb⟩ := r.ex
  refine ⟨⟨be, rfl, nb⟩, fun b o n e => r.r.gr b o (fun z => (nomatch z)) (ms_at e fun z => ?_), r.fz⟩
  rcases List.mem_append.mp z with z | z
  · exact n z
  · rw [(nb b z).1] at e
    cases e
theorem Stands.bare (h : Stands Γ al s (msk S al A) H) : Stands Γ al s (msk S al []) H := h.sub fun b hb => by
  rcases List.mem_append.mp hb with h | h
  · exact List.mem_append_left _ h
  · cases h
/-- a new list comes to be owned -/
theorem RelM.own {p : Addr} {d : D} {i : Nat} (r : RelM Γ al0 H0 al s S A G σ H env) (n : ∀ a, (i, a) ∉ A) (hi : i < env.length) (np : H p = none) (x : Later al H al' H') (st : Stands Γ al' s' (msk (p :: S) al' A) H') (npal : p ∉ al') (ho : Ow (Ca Γ al') (PK.ms (msk (p :: S) al' A) H') (H' p) d) :
    RelM Γ al0 H0 al' s' S ((i, p) :: A) G (σ.set i (some (.ref p))) H' (env.set i (some d)) := by
  have hm : ∀ b ∈ msk S al' A, b ∈ msk (p :: S) al' A := fun b hb => List.mem_cons_of_mem _ hb
  have r1 : RelM Γ al0 H0 al' s' S A G σ H' env := r.later x (st.sub hm)
  have q := r1.r
  have hM : ∀ b : Addr, b ∈ msk S al' ((i, p) :: A) → b ∈ msk (p :: S) al' A := fun b h => by
    rcases List.mem_append.mp h with h | h
    · exact List.mem_cons_of_mem _ (List.mem_append_left _ h)
    · rcases List.mem_cons.mp h with h | h
      · rw [h]
        exact List.mem_cons_self
      · exact List.mem_cons_of_mem _ (List.mem_append_right _ h)
  -- what was known is known still with p kept out
  have s1 : Same (PK.ms (msk S al A) H) (PK.ms (msk S al' ((i, p) :: A)) H') := fun b o e => by
    have e2 := (x.mks (S := S) (A := A)) b o e
    obtain ⟨z1, z2⟩ := ms_some e2
    obtain ⟨w1, w2⟩ := ms_some e
    refine ms_at z1 fun z => ?_
    rcases List.mem_cons.mp (hM b z) with z | z
    · exact ne_of_none w1 np z
    · exact z2 z
  have at' : ∀ (j : Nat) (a : Addr), al[j]? = some a → al'[j]? = some a := fun _ _ h => x.at_ h
  have nA : ∀ {j a}, (j, a) ∈ A → a ∉ al := fun h z => (r.r.old _ _ h).2 (List.mem_append_right _ z)
  have hp : p ∉ msk S al A := r.r.muA.out np
  have s2 : Same (PK.ms (msk (p :: S) al' A) H') (PK.ms (msk S al' ((i, p) :: A)) H') := ms_mono hM
  refine ⟨⟨by rw [List.length_set, List.length_set]; exact q.len, fun j e h nj => ?_, fun j a h => ?_, fun j a h => ?_, ?_, ?_, fun y hy => (r.r.gh y hy).alm at' s1, q.mu, trivial, fun b hb => (nomatch hb), q.gr⟩, ⟨st.nd, st.len, fun j a e h1 h2 => ?_⟩, r1.ex, r1.fz⟩
  · have z : i ≠ j := fun z => nj p (z ▸ List.mem_cons_self)
    rw [List.getElem?_set_ne z] at h
    obtain ⟨w, h1, h2⟩ := r.r.fr j e h fun a ha => nj a (List.mem_cons_of_mem _ ha)
    exact ⟨w, by rw [List.getElem?_set_ne z]; exact h1, h2.alm at' s1⟩
  · rcases List.mem_cons.mp h with e | h
    · cases e
      exact ⟨d, List.getElem?_set_self hi, List.getElem?_set_self (by rw [q.len]; exact hi), ho.same s2⟩
    · have z : i ≠ j := fun z => n a (z ▸ h)
      obtain ⟨e, h1, h2, h3⟩ := r.r.ow j a h
      refine ⟨e, by rw [List.getElem?_set_ne z]; exact h1, by rw [List.getElem?_set_ne z]; exact h2, ?_⟩
      generalize hq : H a = o at h3
      cases h3 with
      | lst h3 =>
        rw [x.gr a _ (nA h) hq]
        exact .lst (h3.alm at' s1)
  · rcases List.mem_cons.mp h with e | h
    · cases e
      refine ⟨?_, fun z => ?_⟩
      · cases q0 : PK.ms al' H0 p with
        | none => rfl
        | some o =>
          obtain ⟨q1, q2⟩ := ms_some q0
          have := r.r.gr p o (fun z => (nomatch z)) (ms_at q1 fun z => q2 (x.in_ z))
          rw [np] at this
          cases this
      · rcases List.mem_append.mp z with z | z
        · exact hp (List.mem_append_left _ (List.mem_append_left _ z))
        · exact npal z
    · exact q.old j a h
  · rw [List.map_cons, List.nodup_cons]
    exact ⟨fun z => hp (List.mem_append_right _ z), q.nd⟩
  · rw [List.map_cons, List.nodup_cons]
    refine ⟨fun z => ?_, q.ndk⟩
    obtain ⟨⟨j, a⟩, hx, e⟩ := List.mem_map.mp z
    have e : j = i := e
    subst e
    exact n a hx
  · obtain ⟨o, e1, ho'⟩ := st.ob j a e h1 h2
    exact ⟨o, e1, ho'.alm (fun _ _ h => h) s2⟩
/-- an owned list changes -/
theorem RelM.put {a : Addr} {d : D} {i : Nat} {o : HO} (r : RelM Γ al0 H0 al s S A G σ H env) (h : (i, a) ∈ A) (ho : Ow (Ca Γ al) (PK.ms (msk S al A) H) (some o) d) : RelM Γ al0 H0 al s S A G σ (upd H a o) (env.set i (some d)) := by
  have ha : a ∈ msk S al A := List.mem_append_right _ (List.mem_map.mpr ⟨(i, a), h, rfl⟩)
  refine ⟨r.r.put h ho, ⟨r.st.nd, r.st.len, fun j b e h1 h2 => ?_⟩, r.ex, fun b o' u e => by
    have e1 := r.fz b o' u e
    by_cases z : b = a
    · obtain ⟨d', _, _, w⟩ := r.r.ow i a h
      rw [← z, e1] at w
      cases w
    · rw [upd_ne z]
      exact e1⟩
  obtain ⟨u, e1, hu⟩ := r.st.ob j b e h1 h2
  have nb : b ≠ a := fun z => (r.r.old i a h).2 (List.mem_append_right _ (by rw [← z]; exact List.mem_of_getElem? h1))
  refine ⟨u, by rw [upd_ne nb]; exact e1, ?_⟩
  rw [ms_upd ha]
  exact hu
/-- the store's things, one by one -/
theorem ghosts {M : List Addr} : ∀ (l : List (Addr × D)), (∀ p ∈ l, ∃ o, H p.1 = some o ∧ Obj Γ al p.1 (PK.ms M H) o p.2) → ∃ g : List (V × D), (∀ x ∈ g, Rp (Ca Γ al) (PK.ms M H) x.1 x.2) ∧
    ∀ (M' : List Addr) (H' : Hp), (∀ x ∈ g, Rp (Ca Γ al) (PK.ms M' H') x.1 x.2) → (∀ p ∈ l, H' p.1 = H p.1) → ∀ p ∈ l, ∃ o, H' p.1 = some o ∧ Obj Γ al p.1 (PK.ms M' H') o p.2
  | [], _ => ⟨[], fun _ h => (nomatch h), fun _ _ _ _ _ h => (nomatch h)⟩
  | q :: l, h => by
    obtain ⟨g, h1, h2⟩ := ghosts l fun p hp => h p (List.mem_cons_of_mem _ hp)
    obtain ⟨o, e, us, ds, sh, ha⟩ := h q List.mem_cons_self
    refine ⟨us.zip ds ++ g, fun x hx => (List.mem_append.mp hx).elim (ha.zipM x) (h1 x), fun M' H' hg hs p hp => ?_⟩
    rcases List.mem_cons.mp hp with rfl | hp
    · refine ⟨o, by rw [hs p List.mem_cons_self]; exact e, us, ds, sh, ?_⟩
      have len : us.length = ds.length := ha.len
      have k : ∀ x ∈ us.zip ds, Rp (Ca Γ al) (PK.ms M' H') x.1 x.2 := fun x hx => hg x (List.mem_append_left _ hx)
      have := RpAll.ofPairs k
      rw [List.map_fst_zip (by omega), List.map_snd_zip (by omega)] at this
      exact this
    · exact h2 M' H' (fun x hx => hg x (List.mem_append_right _ hx)) (fun p hp => hs p (List.mem_cons_of_mem _ hp)) p hp
end
section
variable {X : Cx} {Γ : Sig} {al0 : List Addr} {H0 : Hp} {O O1 O2 O' Ob : List Nat} {st : Stmt} {sts a b : List Stmt} {e c : Expr} {es : List Expr} {pos : Pos} {p q : LP.Env → M Fl}
abbrev LS (Γ : Sig) (al0 : List Addr) (H0 : Hp) (O O' Ob : List Nat) (X : Cx) (st : Stmt) (p : LP.Env → M Fl) : Prop := PS X st (liS Γ al0 H0 O O' Ob p)
abbrev LSs (Γ : Sig) (al0 : List Addr) (H0 : Hp) (O O' Ob : List Nat) (X : Cx) (st : List Stmt) (p : LP.Env → M Fl) : Prop := PSs X st (liS Γ al0 H0 O O' Ob p)
/-- a statement that looks at no store -/
theorem frS {p : LP.Env → W Fl} (h : ∀ (al : List Addr) (H0 : Hp), LP.LS (Ca Γ al) H0 O O' Ob X st p) : LS Γ al0 H0 O O' Ob X st fun env => M.lift (p env) := ⟨fun pins sh σ H De I ⟨S, A, G, env, E, al, s, hA, r, q⟩ => by
  let Hx : Hp := fun b => if b ∈ al then H b else H0 b
  have hx1 : ∀ {b}, b ∈ al → Hx b = H b := fun h => if_pos h
  have hx2 : ∀ {b}, b ∉ al → Hx b = H0 b := fun h => if_neg h
  obtain ⟨g, hg1, hg2⟩ := ghosts (Γ := Γ) (al := al) (H := H) (M := msk S al A) (al.zip s) (fun p hp => by
    obtain ⟨i, hi, e⟩ := List.mem_iff_getElem.mp hp
    have hi1 : i < al.length := by
      rw [List.length_zip] at hi
      omega
    have hi2 : i < (s : List D).length := by
      rw [List.length_zip] at hi
      omega
    rw [List.getElem_zip] at e
    subst e
    exact r.st.ob i _ _ (List.getElem?_eq_getElem hi1) (List.getElem?_eq_getElem hi2))
  have q0 := r.r
  have r0 : Rel (Ca Γ al) Hx (S ++ al) A (g ++ G) σ H env := by
    refine (⟨q0.len, q0.fr, q0.ow, fun i a h => ⟨?_, (q0.old i a h).2⟩, q0.nd, q0.ndk, q0.gh, q0.mu, q0.fi, q0.ffs, fun b o _ e => ?_⟩ : Rel (Ca Γ al) Hx (S ++ al) A G σ H env).ghost hg1
    · have na : a ∉ al := fun z => (q0.old i a h).2 (List.mem_append_right _ z)
      rw [hx2 na]
      cases q1 : H0 a with
      | none => rfl
      | some o =>
        have := (q0.old i a h).1
        rw [ms_at q1 na] at this
        cases this
    · by_cases z : b ∈ al
      · rw [hx1 z] at e
        exact e
      · rw [hx2 z] at e
        exact q0.gr b o (fun z => (nomatch z)) (ms_at e z)
  -- behind
  have back : ∀ {A' : List (Nat × Addr)} {σ' : L2.St} {H' : Hp} {env' : LP.Env}, Rel (Ca Γ al) Hx (S ++ al) A' (g ++ G) σ' H' env' → RelM Γ al0 H0 al s S A' G σ' H' env' := fun {A' σ' H' env'} r' => by
    have same : ∀ b ∈ al, H' b = H b := fun b hb => by
      obtain ⟨o, e, _⟩ := r.st.mt hb
      rw [e]
      exact r'.gr b o (fun z => (nomatch z)) (by rw [hx1 hb]; exact e)
    refine ⟨?_, ⟨r.st.nd, r.st.len, fun i a d h1 h2 => ?_⟩, r.ex, fun b o u e => by
      by_cases z : b ∈ al
      · rw [same b z]
        exact r.fz b o u e
      · exact r'.gr b _ (fun z => (nomatch z)) (by rw [hx2 z]; exact e)⟩
    · have w := r'.unghost
      refine ⟨w.len, w.fr, w.ow, fun i a h => ⟨?_, (w.old i a h).2⟩, w.nd, w.ndk, w.gh, w.mu, w.fi, w.ffs, fun b o n e => ?_⟩
      · have h0 := (w.old i a h).1
        have na : a ∉ al := fun z => (w.old i a h).2 (List.mem_append_right _ z)
        rw [hx2 na] at h0
        cases q1 : PK.ms al H0 a with
        | none => rfl
        | some o =>
          rw [(ms_some q1).1] at h0
          cases h0
      · obtain ⟨e1, e2⟩ := ms_some e
        exact w.gr b o n (by rw [hx2 e2]; exact e1)
    · have m : (a, d) ∈ al.zip s := by
        have l1 := (List.getElem?_eq_some_iff.mp h1)
        have l2 := (List.getElem?_eq_some_iff.mp h2)
        obtain ⟨l1, e1⟩ := l1
        obtain ⟨l2, e2⟩ := l2
        rw [List.mem_iff_getElem]
        refine ⟨i, by rw [List.length_zip]; omega, ?_⟩
        rw [List.getElem_zip, e1, e2]
      exact hg2 (msk S al A') H' (fun x hx => r'.gh x (List.mem_append_left _ hx)) (fun p hp => same p.1 (List.of_mem_zip hp).1) (a, d) m
  refine (h al Hx).run pins sh σ H De I ⟨S ++ al, A, g ++ G, env, fun e => E e s, hA, r0, (p env).mono (fun f k => ?_) (fun _ z => z) q⟩
  cases f with
  | nx env' => exact fun A' σ' H' hA' r' => k A' σ' H' al hA' (back r')
  | bk env' => exact fun A' σ' H' hA' r' => k A' σ' H' al hA' (back r')
  | ct env' => exact fun A' σ' H' hA' r' => k A' σ' H' al hA' (back r')
  | rt d =>
    exact fun v H' g f gg hv => by
      have same : ∀ b ∈ al, H' b = H b := fun b hb => by
        obtain ⟨o, e, _⟩ := r.st.mt hb
        rw [e]
        exact g b o (fun z => (nomatch z)) (by rw [hx1 hb]; exact e)
      obtain ⟨be, eb, nb⟩ := r.ex
      have lt : Later al0 H0 al H' := ⟨⟨be, eb, nb⟩, fun b o n e => by
        have n2 : b ∉ al := fun z => by
          rw [eb] at z
          rcases List.mem_append.mp z with z | z
          · exact n z
          · rw [(nb b z).1] at e
            cases e
        exact g b o (fun z => (nomatch z)) (by rw [hx2 n2]; exact e), fun b o u e => by
        by_cases z : b ∈ al
        · rw [same b z]
          exact r.fz b o u e
        · exact g b _ (fun z => (nomatch z)) (by rw [hx2 z]; exact e)⟩
      have em : ∀ b ∈ msk S al [], b ∈ S ++ al := fun b hb => by
        rcases List.mem_append.mp hb with h | h
        · exact h
        · cases h
      refine k v H' al lt ⟨r.st.nd, r.st.len, fun i a d h1 h2 => ?_⟩ (hv.same (ms_mono em))
      have m : (a, d) ∈ al.zip s := by
        have l1 := (List.getElem?_eq_some_iff.mp h1)
        have l2 := (List.getElem?_eq_some_iff.mp h2)
        obtain ⟨l1, e1⟩ := l1
        obtain ⟨l2, e2⟩ := l2
        rw [List.mem_iff_getElem]
        refine ⟨i, by rw [List.length_zip]; omega, ?_⟩
        rw [List.getElem_zip, e1, e2]
      exact hg2 (msk S al []) H' (fun x hx => (gg x (List.mem_append_left _ hx)).same (ms_mono em)) (fun p hp => same p.1 (List.of_mem_zip hp).1) (a, d) m⟩
theorem lss_nil : LSs Γ al0 H0 O O Ob X [] fun env => M.ret (.nx env) := wkSs pss_nil fun De σ H ⟨S, A, G, env, E, al, s, hA, r, k⟩ => k A σ H al hA r
theorem lss_cons (h1 : LS Γ al0 H0 O O1 Ob X st p) (h2 : LSs Γ al0 H0 O2 O' Ob X sts q) (hs : O1.filter (fun i => decide (i ∈ O2)) = O2 := by decide) : LSs Γ al0 H0 O O' Ob X (st :: sts) fun env => thenM (p env) q :=
  wkSs (pss_cons h1 h2) fun De σ H ⟨S, A, G, env, E, al, s, hA, r, k⟩ => ⟨S, A, G, env, E, al, s, hA, r, (p env).mono (fun f s' k => by
    cases f with
    | nx env' => exact fun A' σ' H' al' hA' r' => ⟨S, _, G, env', E, al', s', keys_filter hA' hs, r'.sub fun i => decide (i ∈ O2), k⟩
    | rt d => exact k
    | bk env' => exact k
    | ct env' => exact k) (fun _ _ z => z) k⟩
theorem lss_one (h1 : LS Γ al0 H0 O O' Ob X st p) : LSs Γ al0 H0 O O' Ob X [st] p := pss_one h1
theorem lss_last (h1 : LS Γ al0 H0 O O1 Ob X st p) (hs : O1.filter (fun i => decide (i ∈ O')) = O' := by decide) : LSs Γ al0 H0 O O' Ob X [st] p := by
  refine wkSs (pss_one h1) fun De σ H ⟨S, A, G, env, E, al, s, hA, r, k⟩ => ⟨S, A, G, env, E, al, s, hA, r, (p env).mono (fun f s' k => ?_) (fun _ _ z => z) k⟩
  cases f with
  | nx env' => exact fun A' σ' H' al' hA' r' => k _ σ' H' al' (keys_filter hA' hs) (r'.sub fun i => decide (i ∈ O'))
  | rt d => exact k
  | bk env' => exact k
  | ct env' => exact k
theorem Rp_bare {al : List Addr} {S : List Addr} {A : List (Nat × Addr)} {H : Hp} {v : V} {d : D} (h : Rp (Ca Γ al) (PK.ms (msk S al A) H) v d) : Rp (Ca Γ al) (PK.ms (msk S al []) H) v d := h.same (ms_mono fun b hb => by
  rcases List.mem_append.mp hb with h | h
  · exact List.mem_append_left _ h
  · cases h)
theorem ls_ret {pe : LP.Env → M D} (h : LE Γ al0 H0 O X e pe) : LS Γ al0 H0 O O' Ob X (.Return (some e) pos) fun env => (pe env).bind fun d => M.ret (.rt d) :=
  wkS (ps_ret h) fun De σ H ⟨S, A, G, env, E, al, s, hA, r, k⟩ => ⟨S, A, G, env, E, al, s, hA, r, (pe env).mono (fun d s' k v H' al' x st hv => by
    have r' := r.later x st
    exact k v H' al' r'.lat st.bare (Rp_bare hv)) (fun _ _ z => z) k⟩
theorem ls_if {pt : LP.Env → M Bool} (hc : LT Γ al0 H0 O X c pt) (ha : LSs Γ al0 H0 O O' Ob X a p) (hb : LSs Γ al0 H0 O O' Ob X b q) : LS Γ al0 H0 O O' Ob X (.If c a b pos) fun env => (pt env).bind fun k => M.ite k (p env) (q env) :=
  wkS (ps_if hc ha hb) fun De σ H ⟨S, A, G, env, E, al, s, hA, r, k⟩ => ⟨S, A, G, env, E, al, s, hA, r, (pt env).mono (fun b s' k H' al' x st => by
    cases b with
    | true => exact iteT ⟨S, A, G, env, E, al', s', hA, r.later x st, k⟩
    | false => exact iteF ⟨S, A, G, env, E, al', s', hA, r.later x st, k⟩) (fun _ _ z => z) k⟩
theorem ls_expr {pe : LP.Env → M D} (h : LE Γ al0 H0 O X e pe) (hs : swapsWith e none pos.line X.env = pure false := by rfl) : LS Γ al0 H0 O O Ob X (.Expr e pos) fun env => (pe env).bind fun _ => M.ret (.nx env) :=
  wkS (ps_expr h hs) fun De σ H ⟨S, A, G, env, E, al, s, hA, r, k⟩ => ⟨S, A, G, env, E, al, s, hA, r, (pe env).mono (fun d s' k v H' al' x st hv => k A σ H' al' hA (r.later x st)) (fun _ _ z => z) k⟩
/-- x = e -/
theorem asg_reads {te : TE} {pe : LP.Env → M D} {i : Nat} (hO : O.filter (fun j => decide (j ∈ O')) = O') (hi : i ∉ O') (h : ∀ σ H Q, liE Γ al0 H0 O pe σ H Q → te σ H Q) :
    ∀ De σ H, liS Γ al0 H0 O O' Ob (fun env => (pe env).bind fun d => M.ret (.nx (env.set i (some d)))) De σ H → tAsg te (gName i) De σ H := by
  rintro De σ H ⟨S, A, G, env, E, al, s, hA, r, k⟩
  refine h σ H _ ⟨S, A, G, env, E, al, s, hA, r, (pe env).mono (fun d s' k v H' al' x st hv => ?_) (fun _ _ z => z) k⟩
  refine k _ _ H' al' (keys_filter hA hO) (((r.later x st).sub fun j => decide (j ∈ O')).set (fun a ha => hi ?_) (hv.same (ms_mono fun b hb => ?_)))
  · exact of_decide_eq_true (List.mem_filter.mp ha).2
  · rcases List.mem_append.mp hb with hb | hb
    · exact List.mem_append_left _ hb
    · obtain ⟨x, hx, rfl⟩ := List.mem_map.mp hb
      exact List.mem_append_right _ (List.mem_map.mpr ⟨x, (List.mem_filter.mp hx).1, rfl⟩)
theorem ls_set {pe : LP.Env → M D} {i : Nat} {x : Str} {pos' : Pos} (hN : X.N.Nodup) (hi : X.N[i]? = some x) (hx : Loc X.env.scope x) (he : LE Γ al0 H0 O X e pe) (hO : O.filter (fun j => decide (j ∈ O')) = O' := by decide) (hi2 : i ∉ O' := by decide)
    (hs : swapsWith e (some (.Name x pos')) pos.line X.env = pure false := by rfl) (hf : X.fn x = true ∨ X.env.scope.names.lookup x = some .local := by first | exact .inl rfl | exact .inr rfl | assumption) :
    LS Γ al0 H0 O O' Ob X (.Assign [.Name x pos'] e pos) fun env => (pe env).bind fun d => M.ret (.nx (env.set i (some d))) :=
  wkS (ps_set hN hi hx he hs hf) (asg_reads hO hi2 fun _ _ _ h => h)
/-- x = a new list, owned -/
theorem own_reads {te : TE} {pe : LP.Env → M D} {i : Nat} (hO : O.filter (fun j => decide (j ∈ O')) = O') (hi : i ∉ O') (h : ∀ σ H Q, liN Γ al0 H0 O pe σ H Q → te σ H Q) :
    ∀ De σ H, liS Γ al0 H0 O (i :: O') Ob (fun env => (pe env).bind fun d => (M.want (i < env.length)).bind fun _ => M.ret (.nx (env.set i (some d)))) De σ H → tAsg te (gName i) De σ H := by
  rintro De σ H ⟨S, A, G, env, E, al, s, hA, r, k⟩
  let A' := A.filter fun x => decide (x.1 ∈ O')
  have hm : ∀ {l al' b}, b ∈ msk (l :: S) al' A' → b ∈ msk (l :: S) al' A := fun {l al' b} hb => by
    rcases List.mem_append.mp hb with hb | hb
    · exact List.mem_append_left _ hb
    · obtain ⟨x, hx, rfl⟩ := List.mem_map.mp hb
      exact List.mem_append_right _ (List.mem_map.mpr ⟨x, (List.mem_filter.mp hx).1, rfl⟩)
  refine h σ H _ ⟨S, A, G, env, E, al, s, hA, r, (pe env).mono (fun d s' k l H' al' x st nl nal ho => ?_) (fun _ _ z => z) k⟩
  refine k.2 _ _ H' al' (by rw [List.map_cons, keys_filter hA hO]) ((r.sub fun j => decide (j ∈ O')).own (fun a ha => hi ?_) k.1 nl x (st.sub fun b hb => hm hb) nal (ho.same (ms_mono fun b hb => hm hb)))
  exact of_decide_eq_true (List.mem_filter.mp ha).2
theorem ls_own {pe : LP.Env → M D} {i : Nat} {x : Str} {pos' : Pos} (hN : X.N.Nodup) (hi : X.N[i]? = some x) (hx : Loc X.env.scope x) (he : PE X e (liN Γ al0 H0 O pe)) (hO : O.filter (fun j => decide (j ∈ O')) = O' := by decide) (hi2 : i ∉ O' := by decide)
    (hs : swapsWith e (some (.Name x pos')) pos.line X.env = pure false := by rfl) (hf : X.fn x = true ∨ X.env.scope.names.lookup x = some .local := by first | exact .inl rfl | exact .inr rfl | assumption) :
    LS Γ al0 H0 O (i :: O') Ob X (.Assign [.Name x pos'] e pos) fun env => (pe env).bind fun d => (M.want (i < env.length)).bind fun _ => M.ret (.nx (env.set i (some d))) :=
  wkS (ps_set hN hi hx he hs hf) (own_reads hO hi2 fun _ _ _ h => h)
def par2M (i j : Nat) (env : LP.Env) : List D → M Fl
  | [d, e] => M.ret (.nx ((env.set i (some d)).set j (some e)))
  | _ => M.fail
theorem ls_par {ps : LP.Env → M (List D)} {a b : Expr} {i j : Nat} {x y : Str} {px py pt : Pos} {kt k2 pt2} (hc : X.calm = true) (hN : X.N.Nodup) (hi : X.N[i]? = some x) (hj : X.N[j]? = some y) (hij : i ≠ j) (hx : X.env.scope.names.lookup x = some .local) (hy : X.env.scope.names.lookup y = some .local)
    (ha : LA Γ al0 H0 O X [a, b] ps) (hw : swappedStores [.Tuple [.Name x px, .Name y py] kt pt] (.Tuple [a, b] k2 pt2) X.env = pure (some [x, y])) (hiO : i ∉ O) (hjO : j ∉ O)
    (hs : swapsWithSole [.Tuple [.Name x px, .Name y py] kt pt] (.Tuple [a, b] k2 pt2) pos.line X.env = pure false := by rfl) :
    LS Γ al0 H0 O O Ob X (.Assign [.Tuple [.Name x px, .Name y py] kt pt] (.Tuple [a, b] k2 pt2) pos) fun env => (ps env).bind (par2M i j env) := by
  refine wkS (ps_par hc hN hi hj hij hx hy ha hw hs) fun De σ H ⟨S, A, G, env, E, al, s, hA, r, k⟩ => ⟨S, A, G, env, E, al, s, hA, r, (ps env).mono (fun ds s' k vs H1 al1 x1 st1 hv => ?_) (fun _ _ z => z) k⟩
  match ds, hv, k with
  | [d, e], .cons h1 (.cons h2 .nil), k =>
    have n : ∀ {i : Nat}, i ∉ O → ∀ a, (i, a) ∉ A := fun h a ha => h (by rw [← hA]; exact List.mem_map.mpr ⟨_, ha, rfl⟩)
    exact ⟨_, _, rfl, k A _ H1 al1 hA (((r.later x1 st1).set (n hiO) h1).set (n hjO) h2)⟩
/-! ### loops -/
def forM' (g : D → LP.Env → W LP.Env) (p : LP.Env → M Fl) : List D → LP.Env → M Fl
  | [], env => M.ret (.nx env)
  | d :: ds, env => (M.lift (g d env)).bind fun env1 => (p env1).bind fun f => match f with
    | .nx e => forM' g p ds e
    | .ct e => forM' g p ds e
    | .bk e => M.ret (.nx e)
    | .rt d => M.ret (.rt d)
theorem ls_for {tg iter : Expr} {body : List Stmt} {pi : LP.Env → M (List D)} {gW : D → LP.Env → W LP.Env} {vs : List Nat} (hp : PassesOwn (model X.prog X.w) X.A X.env X.xe) (hc : X.calm = true) (hi : LI Γ al0 H0 O X tg iter pi) (hg : LG Γ al0 H0 O vs X tg gW) (hb : LSs Γ al0 H0 O O O X body p)
    (hs : ∀ x, foldedSetIterable iter X.env x = pure x := by intro _; rfl) : LS Γ al0 H0 O O Ob X (.For tg iter body [] pos) fun env => (pi env).bind fun ds => forM' gW p ds env := by
  refine wkS (ps_for hp hc hi hg hb hs) fun De σ H ⟨S, A, G, env, E, al, s, hA, r, k⟩ => ⟨S, A, G, env, E, al, s, hA, r, (pi env).mono (fun ds s1 k J H1 al1 gh x1 st1 hgh w => ?_) (fun _ _ z => z) k⟩
  have r1 := r.later x1 st1
  refine ⟨fun i m σ' H' => m = ds.length - i ∧ i ≤ ds.length ∧ ∃ A' env' al' s', A'.map (·.1) = O ∧ RelM Γ al0 H0 al' s' S A' (gh ++ G) σ' H' env' ∧ (forM' gW p (ds.drop i) env').wp (FQ Γ al0 H0 S G O Ob De) E s', ⟨ds.length, rfl, Nat.zero_le _, A, env, al1, s1, hA, ⟨r1.r.ghost hgh, r1.st, r1.ex, r1.fz⟩, k⟩, ?_⟩
  rintro i m σ2 H2 ⟨rfl, hi2, A2, env2, al2, s2, hA2, r2, k2⟩
  have gh2 : ∀ x ∈ gh, Rp (Ca Γ al2) (PK.ms (msk S al2 A2) H2) x.1 x.2 := fun x hx => r2.r.gh x (List.mem_append_left _ hx)
  by_cases hlt : i < ds.length
  · refine .inr ⟨(w al2).goes _ H2 i r2.r.muA gh2 hlt, fun σ' H' => ∃ A' env' al' s', A'.map (·.1) = O ∧ RelM Γ al0 H0 al' s' S A' (gh ++ G) σ' H' env' ∧ (forM' gW p (ds.drop (i + 1)) env').wp (FQ Γ al0 H0 S G O Ob De) E s', fun σ' H' p' => ⟨ds.length - (i + 1), by omega, rfl, hlt, p'⟩, fun x H3 y => ?_⟩
    obtain ⟨s3, d, hd, rx⟩ := (w al2).yields _ H2 i x H3 r2.r.muA gh2 hlt y
    rw [List.drop_eq_getElem_cons hlt] at k2
    have ed : ds[i] = d := by
      rw [List.getElem?_eq_getElem hlt] at hd
      exact Option.some.inj hd
    rw [ed] at k2
    refine ⟨S, A2, gh ++ G, env2, d, fun e => E e s2, al2, s2, hA2, r2.same s3, rx, W.mono _ (fun env3 k3 σ3 _ _ r3 => ?_) (fun _ z => z) k2⟩
    refine ⟨S, A2, gh ++ G, env3, E, al2, s2, hA2, r3, (p env3).mono (fun f s4 k4 => ?_) (fun _ _ z => z) k3⟩
    cases f with
    | nx e => exact fun A' σ' H' al' hA' r' => ⟨A', e, al', s4, hA', r', k4⟩
    | ct e => exact fun A' σ' H' al' hA' r' => ⟨A', e, al', s4, hA', r', k4⟩
    | bk e => exact fun A' σ' H' al' hA' r' => k4 A' σ' H' al' hA' ⟨r'.r.unghost, r'.st, r'.ex, r'.fz⟩
    | rt d => exact k4
  · have e : i = ds.length := by omega
    subst e
    rw [List.drop_length] at k2
    exact .inl ⟨(w al2).stops _ H2 r2.r.muA gh2, k2 A2 σ2 H2 al2 hA2 ⟨r2.r.unghost, r2.st, r2.ex, r2.fz⟩⟩
def whileN (t : LP.Env → M Bool) (p : LP.Env → M Fl) : Nat → LP.Env → M Fl
  | 0, _ => M.fail
  | n + 1, env => (t env).bind fun b => M.ite b ((p env).bind fun f => match f with
    | .nx e => whileN t p n e
    | .ct e => whileN t p n e
    | .bk e => M.ret (.nx e)
    | .rt d => M.ret (.rt d)) (M.ret (.nx env))
def whileM (t : LP.Env → M Bool) (p : LP.Env → M Fl) (env : LP.Env) : M Fl := ⟨fun Q E s => ∃ n, (whileN t p n env).wp Q E s, fun h1 h2 ⟨n, q⟩ => ⟨n, M.mono _ h1 h2 q⟩⟩
theorem ls_while {body : List Stmt} {pt : LP.Env → M Bool} (hp : PassesOwn (model X.prog X.w) X.A X.env X.xe) (hc : LT Γ al0 H0 O X c pt) (hb : LSs Γ al0 H0 O O O X body p) : LS Γ al0 H0 O O Ob X (.While c body [] pos) fun env => whileM pt p env := by
  refine wkS (ps_while hp hc hb) fun De σ H ⟨S, A, G, env, E, al, s, hA, r, n, k⟩ => ?_
  refine ⟨fun m σ' H' => ∃ A' env' al' s', A'.map (·.1) = O ∧ RelM Γ al0 H0 al' s' S A' G σ' H' env' ∧ (whileN pt p m env').wp (FQ Γ al0 H0 S G O Ob De) E s', ⟨n, A, env, al, s, hA, r, k⟩, ?_⟩
  rintro m σ2 H2 ⟨A2, env2, al2, s2, hA2, r2, k2⟩
  cases m with
  | zero => exact k2.elim
  | succ m =>
    refine ⟨S, A2, G, env2, E, al2, s2, hA2, r2, (pt env2).mono (fun b s3 k3 H3 al3 x3 st3 => ?_) (fun _ _ z => z) k2⟩
    have r3 := r2.later x3 st3
    cases b with
    | false => exact iteF (k3 A2 σ2 H3 al3 hA2 r3)
    | true =>
      refine iteT ⟨fun σ' H' => ∃ A' env' al' s', A'.map (·.1) = O ∧ RelM Γ al0 H0 al' s' S A' G σ' H' env' ∧ (whileN pt p m env').wp (FQ Γ al0 H0 S G O Ob De) E s', fun σ' H' p' => ⟨m, by omega, p'⟩, ?_⟩
      refine ⟨S, A2, G, env2, E, al3, s3, hA2, r3, (p env2).mono (fun f s4 k4 => ?_) (fun _ _ z => z) k3⟩
      cases f with
      | nx e => exact fun A' σ' H' al' hA' r' => ⟨A', e, al', s4, hA', r', k4⟩
      | ct e => exact fun A' σ' H' al' hA' r' => ⟨A', e, al', s4, hA', r', k4⟩
      | bk e => exact fun A' σ' H' al' hA' r' => k4 A' σ' H' al' hA' r'
      | rt d => exact k4
end
end LP.LM
namespace LP.LM
open PySem PySem.Spec PyProof.Rows L2 PK RZ
section
variable {X : Cx} {Γ : Sig} {al0 : List Addr} {H0 : Hp} {O O' Ob : List Nat} {e ix : Expr} {es : List Expr} {pos : Pos} {pa pi' : LP.Env → M D} {ps : LP.Env → M (List D)}
/-! ### owned lists -/
theorem ln_lst (h : LA Γ al0 H0 O X es ps) : PE X (.List es pos) (liN Γ al0 H0 O fun env => (ps env).bind fun ds => M.lift (lstW ds)) :=
  wkE (pe_lst h) fun σ H Q ⟨S, A, G, env, E, al, s, hA, r, z⟩ => ⟨S, A, G, env, E, al, s, hA, r, (ps env).mono (fun ds s' u vs H1 al1 x1 st1 hv => ⟨by rw [hv.len]; exact u.1, fun p np => by
    have sm : Same H1 (upd H1 p (.lst vs)) := same_new (Same.refl H1) np
    have r1 := r.later x1 st1
    have npal := r1.outN np
    have n0 : H p = none := by
      cases q : H p with
      | none => rfl
      | some o =>
        have := x1.gr p o (fun z => npal (x1.in_ z)) q
        rw [np] at this
        cases this
    refine u.2 p _ al1 (x1.trans (Later.of sm)) (r1.st.mask np) n0 npal ?_
    rw [upd_same]
    refine .lst (hv.same fun b o e => ?_)
    obtain ⟨h1, h2⟩ := ms_some e
    exact ms_at (sm _ _ h1) fun z => (List.mem_cons.mp z).elim (ne_of_none h1 np) h2⟩) (fun _ _ z => z) z⟩
def putM (env : LP.Env) (i : Nat) (f : List D → W (List D)) : M Fl := M.lift (putW env i f)
theorem owned {al : List Addr} {s : Sto} {S : List Addr} {A : List (Nat × Addr)} {G : List (V × D)} {σ : L2.St} {H : Hp} {env : LP.Env} {i : Nat} (hA : A.map (·.1) = O) (hO : i ∈ O) (r : RelM Γ al0 H0 al s S A G σ H env) :
    ∃ a us ds, (i, a) ∈ A ∧ env[i]? = some (some (.lst ds)) ∧ σ[i]? = some (some (.ref a)) ∧ H a = some (.lst us) ∧ RpAll (Ca Γ al) (PK.ms (msk S al A) H) us ds ∧ a ∉ al := by
  rw [← hA] at hO
  obtain ⟨⟨j, a⟩, ha, e1⟩ := List.mem_map.mp hO
  have e1 : j = i := e1
  subst e1
  obtain ⟨d0, h1, h2, h3⟩ := r.r.ow j a ha
  generalize hq : H a = o at h3
  cases h3 with
  | lst h => exact ⟨a, _, _, ha, h1, h2, hq, h, fun z => (r.r.old j a ha).2 (List.mem_append_right _ z)⟩
theorem ls_append {i : Nat} {x : Str} {pn pa' pc' : Pos} (hO : i ∈ O)
    (hm : PE X (.Call (.Attribute (.Name x pn) "append" pa') [e] [] pc') (tBM X.K "list" rAppend (tVar i) (tCons (liE Γ al0 H0 O pa) tNil)))
    (hs : swapsWith (.Call (.Attribute (.Name x pn) "append" pa') [e] [] pc') none pos.line X.env = pure false := by rfl) :
    LS Γ al0 H0 O O Ob X (.Expr (.Call (.Attribute (.Name x pn) "append" pa') [e] [] pc') pos) fun env => (pa env).bind fun d => putM env i (appW d) := by
  refine wkS (ps_expr hm hs) fun De σ H ⟨S, A, G, env, E, al, s, hA, r, q⟩ => ?_
  obtain ⟨a, us, ds, ha, h1, h2, ea, _, nal⟩ := owned hA hO r
  refine ⟨.ref a, h2, .inl ⟨rfl, us, SqL.of ea⟩, S, A, G, env, E, al, s, hA, r, (pa env).mono (fun d s1 k v H1 al1 x1 st1 hv1 => ?_) (fun _ _ z => z) q⟩
  obtain ⟨l, el, k⟩ := putW_wp k
  have r1 := r.later x1 st1
  obtain ⟨d1, i1, i2, i3⟩ := r1.r.ow i a ha
  rw [el] at i1
  cases i1
  have ea1 : H1 a = some (.lst us) := x1.gr a _ nal ea
  rw [ea1] at i3
  cases i3 with
  | lst i3 => exact ⟨a, us, v, rfl, rfl, ea1, by rw [i3.len]; exact k.1, k.2 A σ _ al1 hA (r1.put ha (.lst (i3.snoc hv1)))⟩
section
variable {elt tg iter : Expr} {ifs : List Expr} {scope : Scope} {own : List (Str × Nat)} {pi : LP.Env → M (List D)} {gW : D → LP.Env → W LP.Env} {tW : LP.Env → M Bool} {eW : LP.Env → M D}
/-- the same, frozen at once -/
theorem ls_lcF {i : Nat} {y : Str} {py spos : Pos} (hc : X.calm = true) (hN : X.N.Nodup) (hy : X.N[i]? = some y) (hyl : X.env.scope.names.lookup y = some .local)
    (hsw : swapsWith (.ListComp elt [⟨tg, iter, ifs, 0⟩] scope pos) (some (.Name y py)) spos.line X.env = pure true) (hi : LI Γ al0 H0 O X tg iter pi) (ok : BlkOk X.N X.env.scope scope own) (hvs : ∀ i ∈ own.map (·.2), i ∉ O)
    (hg : ∀ (s : Shared) (H : Hp) (C : Addr) (cl : List (Str × Addr)) (fp : List Addr), LG Γ al0 H0 O (own.map (·.2)) (X.blk s H scope (compEnvC scope cl C X.env) fp) tg gW)
    (ht : ∀ (s : Shared) (H : Hp) (C : Addr) (cl : List (Str × Addr)) (fp : List Addr), LTs Γ al0 H0 O (X.blk s H scope (compEnvC scope cl C X.env) fp) ifs tW)
    (he : ∀ (s : Shared) (H : Hp) (C : Addr) (cl : List (Str × Addr)) (fp : List Addr), LE Γ al0 H0 O (X.blk s H scope (compEnvC scope cl C X.env) fp) elt eW) (hO : O.filter (fun j => decide (j ∈ O')) = O' := by decide) (hi2 : i ∉ O' := by decide) (hs : ∀ x, foldedSetIterable iter X.env x = pure x := by intro _; rfl) :
    LS Γ al0 H0 O O' Ob X (.Assign [.Name y py] (.ListComp elt [⟨tg, iter, ifs, 0⟩] scope pos) spos) fun env => (lcDM gW tW eW (own.map (·.2)) pi env).bind fun d => M.ret (.nx (env.set i (some d))) :=
  wkS (ps_setLc hc hN hy hyl hsw hi ok hg ht he hs) (asg_reads hO hi2 fun σ H Q h => lc_reads hvs (fun _ _ _ h => h) (fun _ _ _ _ h => h) (fun _ _ _ h => h) (fun _ _ _ h => h) σ H Q (by
    obtain ⟨S, A, G, env, E, al, s, hA, r, q⟩ := h
    refine ⟨S, A, G, env, E, al, s, hA, r, M.mono _ (fun d s' k l H' al' x st nl nal ho => ?_) (fun _ _ z => z) q⟩
    have hm : ∀ b ∈ msk S al' A, b ∈ msk (l :: S) al' A := fun b hb => List.mem_cons_of_mem _ hb
    refine k (.ref l) H' al' x (st.sub hm) ?_
    have nM : l ∉ msk S al' A := fun z => by
      rcases mk_later x z with z | z
      · exact r.r.muA.out nl z
      · exact nal z
    generalize hq : H' l = o at ho
    cases ho with
    | lst ho => exact .lst (ms_at hq nM) (ho.same (ms_mono hm))))
end
end
/-! ### defs -/
/-- a def by value: p of what is handed in -/
def liF (Γ : Sig) (p : List D → M D) : Sp := fun vs H Q E => ∃ (al S : List Addr) (s : Sto) (ds : List D) (EE : Ex → Sto → Prop),
  Mu (S ++ al) H ∧ Stands Γ al s (msk S al []) H ∧ RpAll (Ca Γ al) (PK.ms (msk S al []) H) vs ds ∧ (p ds).wp (kE Γ al H S [] Q) EE s
/-- what a body gives -/
def endM (m : M Fl) : M D := m.bind fun f => match f with
  | .rt d => M.ret d
  | .nx _ => M.ret .non
  | _ => M.fail
def runM (np nN : Nat) (b : LP.Env → M Fl) (ds : List D) : M D := (M.want (ds.length = np)).bind fun _ => endM (b (startE nN ds))
theorem RelM.start {Γ : Sig} {al S : List Addr} {s : Sto} {H : Hp} {vs : List V} {ds : List D} {N : List Str} (mu : Mu (S ++ al) H) (st : Stands Γ al s (msk S al []) H) (h : RpAll (Ca Γ al) (PK.ms (msk S al []) H) vs ds) : RelM Γ al H al s S [] [] (L2.start N vs) H (startE N.length ds) := by
  have h' : RpAll (Ca Γ al) (PK.ms (S ++ al) H) vs ds := h.same (ms_mono fun b hb => List.mem_append_left _ hb)
  have q := Rel.start (Ξ := Ca Γ al) (N := N) mu (fun b hb => (nomatch hb)) trivial h'
  exact ⟨⟨q.len, q.fr, q.ow, fun i a h => (nomatch h), q.nd, q.ndk, q.gh, q.mu, q.fi, q.ffs, fun b o _ e => (ms_some e).1⟩, st, ⟨[], (List.append_nil _).symm, fun _ h => (nomatch h)⟩, fun _ _ _ h => h⟩
section
variable {Γ : Sig} {mg : Str → Option Value} {base : Heap}
theorem ok_run {x qual : Str} {st : Stmt} {f : Addr} {fd : FuncData} {N ps : List Str} {k np nN : Nat} {pb : LP.Env → M Fl} (F : Fun Γ.K x qual st f fd) (Sc : FnScope N ps (defScope st)) (h1 : ps.length = np) (h2 : N.length = nN)
    (hbody : ∀ (al : List Addr) (cdv : Value) (A : Around) (outer : List PySem.Env) (s : Shared) (H : Hp) (E : XK), Room k (A.deeper (envOfC qual (defScope st) s.heap.objs.size f cdv)) →
      LSs Γ al H [] [] [] (cxOf CX0 Γ.P Γ.w Γ.K mg base N qual (defScope st) f cdv A outer s H E).nox (defBody st) pb) : FnOk Γ.P Γ.w Γ.K mg base CX0 (k + 1) f fd ps (liF Γ (runM np nN pb)) := by
  subst h1 h2
  refine F.ok Sc (fun vs H Q E ⟨al, S, s, ds, EE, mu, st, hv, q⟩ => by rw [hv.len]; exact q.1) (fun cdv A outer sh H vs Q E hr ⟨al, S, s, ds, EE, mu, st, hv, q⟩ => ?_)
  refine ⟨_, hbody al cdv A outer sh H E hr, S, [], [], startE N.length ds, EE, al, s, rfl, RelM.start mu st hv, ?_⟩
  refine M.mono _ (fun fl' s' k => ?_) (fun _ _ z => z) q.2
  cases fl' with
  | nx e => exact fun A' σ' H' al' hA' r' => k .non H' al' r'.lat r'.st.bare .non
  | rt d => exact fun v H' al' x st hv => k v H' al' x st hv
  | bk e => exact k.elim
  | ct e => exact k.elim
end
/-! ### a def called -/
structure CalM (Γ : Sig) (mg : Str → Option Value) (base : Heap) (k : Nat) (x : Str) (f : Addr)
    (fd : FuncData) (ps : List Str) (p : List D → M D) : Prop where
  ok : FnOk Γ.P Γ.w Γ.K mg base CX0 k f fd ps (liF Γ p)
  g : mg x = some (.ref f)
  kp : PySem.W.keepIn Γ.K (.ref f) = true
  b : Binds Γ.K fd ps []
structure CalMG (Γ : Sig) (mg : Str → Option Value) (base : Heap) (k : Nat) (x : Str) (f : Addr)
    (fd : FuncData) (ps : List Str) (p : List D → M D) : Prop where
  ok : FnG Γ.P Γ.w Γ.K mg base CX0 k f fd ps (liF Γ p)
  g : mg x = some (.ref f)
  kp : PySem.W.keepIn Γ.K (.ref f) = true
  b : Binds Γ.K fd ps []
section
variable {X : Cx} {Γ : Sig} {al0 : List Addr} {H0 : Hp} {O : List Nat} {k : Nat} {f : Addr} {fd : FuncData} {ps : List Str} {e : Expr} {es : List Expr} {x : Str} {pp pos : Pos} {p : List D → M D} {pw : List D → W D} {pa : LP.Env → M (List D)}
theorem sw_in {S al : List Addr} {A : List (Nat × Addr)} {b : Addr} (h : b ∈ msk (S ++ A.map (·.2)) al []) : b ∈ msk S al A := by
  rcases List.mem_append.mp h with h | h
  · rcases List.mem_append.mp h with h | h
    · rcases List.mem_append.mp h with h | h
      · exact List.mem_append_left _ (List.mem_append_left _ h)
      · exact List.mem_append_right _ h
    · exact List.mem_append_left _ (List.mem_append_right _ h)
  · cases h
theorem sw_out {S al : List Addr} {A : List (Nat × Addr)} {b : Addr} (h : b ∈ msk S al A) : b ∈ msk (S ++ A.map (·.2)) al [] := by
  refine List.mem_append_left _ ?_
  rcases List.mem_append.mp h with h | h
  · rcases List.mem_append.mp h with h | h
    · exact List.mem_append_left _ (List.mem_append_left _ h)
    · exact List.mem_append_right _ h
  · exact List.mem_append_left _ (List.mem_append_right _ h)
theorem call_reads {ta : TA} (ha : ∀ σ H Q, liA Γ al0 H0 O pa σ H Q → ta σ H Q) :
    ∀ σ H Q, liE Γ al0 H0 O (fun env => (pa env).bind p) σ H Q → ta σ H fun vs H1 => liF Γ p (vs ++ []) H1 Q fun _ _ _ => True := by
  rintro σ H Q ⟨S, A, G, env, E, al, s, hA, r, q⟩
  refine ha σ H _ ⟨S, A, G, env, E, al, s, hA, r, (pa env).mono (fun ds s1 k vs H1 al1 x1 st1 hv => ?_) (fun _ _ z => z) q⟩
  show liF Γ p (vs ++ []) H1 Q _
  rw [List.append_nil]
  have r1 := r.later x1 st1
  refine ⟨al1, S ++ A.map (·.2), s1, ds, E, fun b hb => r1.r.muA b (sw_in (List.mem_append_left _ hb)), st1.sub fun b hb => sw_in hb, hv.same (ms_mono fun b hb => sw_in hb), (p ds).mono (fun d s2 k v H2 al2 x2 st2 hv2 => ?_) (fun _ _ z => z) k⟩
  exact k v H2 al2 (x1.trans x2) (st2.sub fun b hb => sw_out hb) (hv2.same (ms_mono fun b hb => sw_out hb))
theorem call_readsL {ta : TA} (ha : ∀ σ H Q, liA Γ al0 H0 O pa σ H Q → ta σ H Q) :
    ∀ σ H Q, liE Γ al0 H0 O (fun env => (pa env).bind fun ds => M.lift (pw ds)) σ H Q → ta σ H fun vs H1 => LP.liF Γ pw (vs ++ []) H1 Q fun _ _ _ => True := by
  rintro σ H Q ⟨S, A, G, env, E, al, s, hA, r, q⟩
  refine ha σ H _ ⟨S, A, G, env, E, al, s, hA, r, (pa env).mono (fun ds s1 k vs H1 al1 x1 st1 hv => ?_) (fun _ _ z => z) q⟩
  show LP.liF Γ pw (vs ++ []) H1 Q _
  rw [List.append_nil]
  have r1 := r.later x1 st1
  refine ⟨.al al1, msk S al1 A, ds, fun e => E e s1, r1.r.muA, fun b hb => (nomatch hb), trivial, hv, fun _ _ _ _ _ _ _ _ _ => trivial, (pw ds).mono (fun d k v H2 g2 f2 hv2 => ?_) (fun _ z => z) k⟩
  have sm : Same H1 H2 := Later.grof (Γ := Γ) (al := al1) g2
  exact k v H2 al1 (x1.trans (Later.of sm)) (st1.same sm) hv2
theorem le_call {mg : Str → Option Value} {base : Heap} (C : CalM Γ mg base k x f fd ps p) (hP : X.prog = Γ.P) (hw : X.w = Γ.w) (hK : X.K = Γ.K) (hmg : X.mg = mg) (hbs : X.base = base) (hr : Room k X.A) (hg : Gl X x) (ha : LA Γ al0 H0 O X (e :: es) pa)
    (hdb : (x == ("__debug__" : Str)) = false := by decide) (he : starEach (e :: es) X.env = (false, eval e X.env) :: starEach es X.env := by rfl) (hpl : (backTo pos (starEach es X.env)).any (·.1) = false := by rfl) :
    LE Γ al0 H0 O X (.Call (.Name x pp) (e :: es) [] pos) fun env => (pa env).bind p :=
  wkE (pe_call (E := fun _ _ _ => True) (by rw [hP, hw, hK, hmg, hbs]; exact C.ok) hr hg (by rw [hmg]; exact C.g) (by rw [hK]; exact C.kp) (by rw [hK]; exact C.b) .nil pass0 ha hdb he hpl) (call_reads fun _ _ _ h => h)
/-- .. of one that looks at no store -/
theorem le_callL {mg : Str → Option Value} {base : Heap} (C : CalV Γ mg base k x f fd ps pw) (hP : X.prog = Γ.P) (hw : X.w = Γ.w) (hK : X.K = Γ.K) (hmg : X.mg = mg) (hbs : X.base = base) (hr : Room k X.A) (hg : Gl X x) (ha : LA Γ al0 H0 O X (e :: es) pa)
    (hdb : (x == ("__debug__" : Str)) = false := by decide) (he : starEach (e :: es) X.env = (false, eval e X.env) :: starEach es X.env := by rfl) (hpl : (backTo pos (starEach es X.env)).any (·.1) = false := by rfl) :
    LE Γ al0 H0 O X (.Call (.Name x pp) (e :: es) [] pos) fun env => (pa env).bind fun ds => M.lift (pw ds) :=
  wkE (pe_call (E := fun _ _ _ => True) (by rw [hP, hw, hK, hmg, hbs]; exact C.ok) hr hg (by rw [hmg]; exact C.g) (by rw [hK]; exact C.kp) (by rw [hK]; exact C.b) .nil pass0 ha hdb he hpl) (call_readsL fun _ _ _ h => h)
end
end LP.LM
namespace LP.LM
open PySem PySem.Spec PyProof.Rows L2 PK RZ
/-! ### the things of the store -/
def look (k : Nat) : M D := ⟨fun Q _ s => ∃ d, (s : List D)[k]? = some d ∧ Q d s, fun h _ ⟨d, e, q⟩ => ⟨d, e, h _ _ q⟩⟩
def store (k : Nat) (d : D) : M Unit := ⟨fun Q _ s => Q () ((s : List D).set k d), fun h _ q => h _ _ q⟩
def alloc (d : D) : M D := ⟨fun Q _ s => Q (.tok ((s : List D).length + 1)) ((s : List D) ++ [d]), fun h _ q => h _ _ q⟩
def tokM : D → M Nat
  | .tok (k + 1) => M.ret k
  | _ => M.fail
theorem alloc_wp {d : D} {Q : D → Sto → Prop} {E : Ex → Sto → Prop} {s : Sto} : (alloc d).wp Q E s ↔ Q (.tok ((s : List D).length + 1)) ((s : List D) ++ [d]) := Iff.rfl
theorem tokM_wp {d : D} {Q : Nat → Sto → Prop} {E : Ex → Sto → Prop} {s : Sto} (h : (tokM d).wp Q E s) : ∃ k, d = .tok (k + 1) ∧ Q k s := by
  cases d with
  | tok n =>
    cases n with
    | zero => exact h.elim
    | succ k => exact ⟨k, rfl, h⟩
  | _ => exact h.elim
section
variable {Γ : Sig} {al al' : List Addr} {s : Sto} {M : List Addr} {H H' : Hp} {v : V}
theorem tok_at {k : Nat} {Hm : Hp} (h : Rp (Ca Γ al) Hm v (.tok (k + 1))) : ∃ a, v = .ref a ∧ al[k]? = some a := by
  cases h with
  | tok h =>
    obtain ⟨a, h1, rfl⟩ := Option.map_eq_some_iff.mp (show al[k]?.map V.ref = some _ from h)
    exact ⟨a, rfl, h1⟩
theorem Stands.lst {k : Nat} {a : Addr} {ds : List D} (h : Stands Γ al s M H) (ha : al[k]? = some a) (hd : (s : List D)[k]? = some (.lst ds)) : ∃ us, H a = some (.lst us) ∧ RpAll (Ca Γ al) (PK.ms M H) us ds := by
  obtain ⟨o, e, us, ds', sh, hr⟩ := h.ob k a _ ha hd
  cases sh with
  | lst => exact ⟨_, e, hr⟩
theorem Stands.put {k : Nat} {a : Addr} {o : HO} {d : D} (h : Stands Γ al s M H) (hM : ∀ b ∈ al, b ∈ M) (ha : al[k]? = some a) (ho : Obj Γ al a (PK.ms M H) o d) : Stands Γ al ((s : List D).set k d) M (upd H a o) := by
  have haM : a ∈ M := hM a (List.mem_of_getElem? ha)
  refine ⟨h.nd, by rw [List.length_set]; exact h.len, fun i b e h1 h2 => ?_⟩
  rw [ms_upd haM]
  by_cases z : k = i
  · subst z
    rw [ha] at h1
    cases h1
    have hl : k < (s : List D).length := by
      have := (List.getElem?_eq_some_iff.mp h2).1
      rwa [List.length_set] at this
    rw [List.getElem?_set_self hl] at h2
    cases h2
    exact ⟨o, upd_same, ho⟩
  · rw [List.getElem?_set_ne z] at h2
    obtain ⟨u, e1, hu⟩ := h.ob i b e h1 h2
    have nb : b ≠ a := fun w => by
      subst w
      obtain ⟨l1, e1⟩ := List.getElem?_eq_some_iff.mp h1
      obtain ⟨l2, e2⟩ := List.getElem?_eq_some_iff.mp ha
      exact z ((List.getElem_inj h.nd).mp (e2.trans e1.symm))
    exact ⟨u, by rw [upd_ne nb]; exact e1, hu⟩
theorem Later.upd {a : Addr} {o o0 : HO} (h : a ∈ al) (e0 : H a = some o0) (hn : ∀ od u, o0 ≠ .frz od u := by intro _ _ z; cases z) : Later al H al (upd H a o) := ⟨⟨[], (List.append_nil _).symm, fun _ h => (nomatch h)⟩, fun b u n e => by rw [upd_ne (fun z => n (by rw [z]; exact h))]; exact e, fun b od u e => by rw [upd_ne (fun z => by rw [z, e0] at e; exact hn _ _ (Option.some.inj e))]; exact e⟩
end
/-! ### pop -/
def lstAt (d : D) : M Unit := (tokM d).bind fun k => (look k).bind fun x => match x with
  | .lst _ => M.ret ()
  | _ => M.fail
def popM (d : D) (ds : List D) : M D := (tokM d).bind fun k => (look k).bind fun x => match x, ds with
  | .lst l, [.int i] => (M.want (-(2 ^ 63) ≤ i ∧ i < 2 ^ 63)).bind fun _ => (M.lift (optW (seqIndex? i l.length))).bind fun j => (M.lift (optW l[j]?)).bind fun y => (store k (.lst (l.eraseIdx j))).bind fun _ => M.ret y
  | _, _ => M.fail
theorem RpAll.erase {Ξ : Ctx} {H : Hp} : ∀ (n : Nat) {vs : List V} {ds : List D}, RpAll Ξ H vs ds → RpAll Ξ H (vs.eraseIdx n) (ds.eraseIdx n)
  | _, _, _, .nil => .nil
  | 0, _, _, .cons _ h2 => h2
  | n + 1, _, _, .cons h1 h2 => .cons h1 (RpAll.erase n h2)
section
variable {X : Cx} {Γ : Sig} {al0 : List Addr} {H0 : Hp} {O O' Ob : List Nat} {o e i : Expr} {es : List Expr} {pos : Pos} {po pa pi' : LP.Env → M D} {ps : LP.Env → M (List D)}
theorem le_pop {apos cpos : Pos} (hm : PE X (.Call (.Attribute o "pop" apos) [e] [] cpos) (tBM X.K "list" rPopAt (liE Γ al0 H0 O po) (liA Γ al0 H0 O ps))) :
    LE Γ al0 H0 O X (.Call (.Attribute o "pop" apos) [e] [] cpos) fun env => (po env).bind fun d => (lstAt d).bind fun _ => (ps env).bind fun ds => popM d ds := by
  refine wkE hm fun σ H Q ⟨S, A, G, env, E, al, s, hA, r, q⟩ => ?_
  refine ⟨S, A, G, env, E, al, s, hA, r, (po env).mono (fun d s1 k v H1 al1 x1 st1 hv => ?_) (fun _ _ z => z) q⟩
  obtain ⟨n, rfl, d, ed, k⟩ := tokM_wp k
  cases d <;> try exact k.elim
  rename_i l0
  obtain ⟨a, rfl, ha⟩ := tok_at hv
  obtain ⟨us0, e0, _⟩ := st1.lst ha ed
  have r1 := r.later x1 st1
  refine ⟨.inl ⟨rfl, us0, SqL.of e0⟩, S, A, G, env, E, al1, s1, hA, r1, (ps env).mono (fun ds s2 k xs H2 al2 x2 st2 hx => ?_) (fun _ _ z => z) k⟩
  obtain ⟨d, ed, k⟩ := (k : (popM (.tok (n + 1)) ds).wp _ _ _)
  have ha2 := x2.at_ ha
  match d, ds, hx, ed, k with
  | .lst l, [.int i], .cons h1 .nil, ed, ⟨⟨k1, k2⟩, k⟩ =>
    cases h1
    obtain ⟨j, ej, k⟩ := optW_wp k
    obtain ⟨y, ey, k⟩ := optW_wp k
    obtain ⟨us, e2, hr⟩ := st2.lst ha2 ed
    obtain ⟨vy, evy, hy⟩ := hr.get ey
    have hal : a ∈ al2 := List.mem_of_getElem? ha2
    have hM : a ∈ msk S al2 A := mk_al hal
    refine ⟨a, us, i, j, vy, rfl, rfl, e2, k1, k2, by rw [hr.len]; exact ej, evy, k vy _ al2 ((x1.trans x2).trans (Later.upd hal e2)) (st2.put (fun b hb => mk_al hb) ha2 ⟨_, _, .lst, RpAll.erase j hr⟩) ?_⟩
    rw [ms_upd hM]
    exact hy
/-! ### len of a thing of the store -/
def lenS : List D → M D
  | [.tok (k + 1)] => (look k).bind fun x => match x with
    | .lst l => M.ret (.int l.length)
    | _ => M.fail
  | _ => M.fail
theorem le_lenS {p pos : Pos} (hK : X.K = Γ.K) (hg : Gl X "len") (hm : X.mg "len" = none) (ha : LAB Γ al0 H0 O X [e] ps) (he : starEach [e] X.env = [(false, eval e X.env)] := by rfl) : LE Γ al0 H0 O X (.Call (.Name "len" p) [e] [] pos) fun env => (ps env).bind lenS := by
  refine wkE (pe_callB (k_len Γ.K hK) hg hm PySem.boot_len ha (by decide) (by decide) he rfl) fun σ H Q ⟨S, A, G, env, E, al, s, hA, r, q⟩ => ?_
  refine ⟨S, A, G, env, E, al, s, hA, r, (ps env).mono (fun ds s1 k xs H1 al1 x1 st1 hx => ?_) (fun _ _ z => z) q⟩
  match ds, hx, k with
  | [.tok (n + 1)], .cons hv .nil, ⟨d, ed, k⟩ =>
    cases d <;> try exact k.elim
    cases hv with
    | rp hv =>
      obtain ⟨a, rfl, ha⟩ := tok_at hv
      obtain ⟨us, e0, hr⟩ := st1.lst ha ed
      exact ⟨a, us, rfl, .inl (SqL.of e0), by rw [hr.len]; exact k _ H1 al1 x1 st1 (.int _)⟩
/-! ### a new thing of the store -/
theorem RelM.allocO {al : List Addr} {s : Sto} {S : List Addr} {A : List (Nat × Addr)} {G : List (V × D)} {σ : L2.St} {H H' : Hp} {env : LP.Env} {al' : List Addr} {s' : Sto} {l : Addr} {d : D} (r : RelM Γ al0 H0 al s S A G σ H env) (x : Later al H al' H') (st : Stands Γ al' s' (msk (l :: S) al' A) H') (nl : H l = none) (nal : l ∉ al') {o : HO} (eo : H' l = some o) (ho : Obj Γ al' l (PK.ms (msk (l :: S) al' A) H') o d) :
    Later al H (al' ++ [l]) H' ∧ Stands Γ (al' ++ [l]) (s' ++ [d]) (msk S (al' ++ [l]) A) H' ∧ ∀ {S' : List Addr} {A' : List (Nat × Addr)}, Rp (Ca Γ (al' ++ [l])) (PK.ms (msk S' (al' ++ [l]) A') H') (.ref l) (.tok ((s' : List D).length + 1)) := by
  have hm : ∀ b ∈ msk S (al' ++ [l]) A, b ∈ msk (l :: S) al' A := fun b hb => by
    rcases List.mem_append.mp hb with hb | hb
    · rcases List.mem_append.mp hb with hb | hb
      · exact List.mem_cons_of_mem _ (List.mem_append_left _ (List.mem_append_left _ hb))
      · rcases List.mem_append.mp hb with hb | hb
        · exact List.mem_cons_of_mem _ (List.mem_append_left _ (List.mem_append_right _ hb))
        · rw [List.mem_singleton.mp hb]
          exact List.mem_cons_self
    · exact List.mem_cons_of_mem _ (List.mem_append_right _ hb)
  have at' : ∀ (i : Nat) (a : Addr), al'[i]? = some a → (al' ++ [l])[i]? = some a := fun i a h => by
    rw [List.getElem?_append_left (List.getElem?_eq_some_iff.mp h).1]
    exact h
  refine ⟨⟨?_, fun b o n e => x.gr b o n e, x.fz⟩, ⟨?_, ?_, fun i a e h1 h2 => ?_⟩, fun {S' A'} => .tok ?_⟩
  · obtain ⟨be, rfl, nb⟩ := x.ex
    refine ⟨be ++ [l], by rw [List.append_assoc], fun b hb => ?_⟩
    rcases List.mem_append.mp hb with hb | hb
    · exact nb b hb
    · rw [List.mem_singleton.mp hb]
      exact ⟨nl, fun z => nal (List.mem_append_left _ z)⟩
  · rw [List.nodup_append]
    exact ⟨st.nd, by simp, fun a ha b hb e => nal (by rw [List.mem_singleton.mp hb] at e; rw [← e]; exact ha)⟩
  · rw [List.length_append, List.length_append, st.len]
    rfl
  · by_cases z : i < al'.length
    · rw [List.getElem?_append_left z] at h1
      rw [List.getElem?_append_left (by rw [st.len]; exact z)] at h2
      obtain ⟨o, e1, hob⟩ := st.ob i a e h1 h2
      exact ⟨o, e1, hob.alm at' (ms_mono hm)⟩
    · rw [List.getElem?_append_right (by omega)] at h1
      rw [List.getElem?_append_right (by rw [st.len]; omega), st.len] at h2
      have zi : i - al'.length = 0 := by
        have := (List.getElem?_eq_some_iff.mp h1).1
        simp at this
        omega
      rw [zi] at h1 h2
      cases h1
      cases h2
      exact ⟨o, eo, ho.alm at' (ms_mono hm)⟩
  · show (al' ++ [l])[(s' : List D).length]?.map V.ref = _
    rw [st.len, List.getElem?_append_right (Nat.le_refl _), Nat.sub_self]
    rfl
theorem RelM.alloc {al : List Addr} {s : Sto} {S : List Addr} {A : List (Nat × Addr)} {G : List (V × D)} {σ : L2.St} {H H' : Hp} {env : LP.Env} {al' : List Addr} {s' : Sto} {l : Addr} {d : D} (r : RelM Γ al0 H0 al s S A G σ H env) (x : Later al H al' H') (st : Stands Γ al' s' (msk (l :: S) al' A) H') (nl : H l = none) (nal : l ∉ al') (ho : Ow (Ca Γ al') (PK.ms (msk (l :: S) al' A) H') (H' l) d) :
    Later al H (al' ++ [l]) H' ∧ Stands Γ (al' ++ [l]) (s' ++ [d]) (msk S (al' ++ [l]) A) H' ∧ ∀ {S' : List Addr} {A' : List (Nat × Addr)}, Rp (Ca Γ (al' ++ [l])) (PK.ms (msk S' (al' ++ [l]) A') H') (.ref l) (.tok ((s' : List D).length + 1)) := by
  generalize hq : H' l = o at ho
  cases ho with
  | lst ho => exact r.allocO x st nl nal hq ⟨_, _, .lst, ho⟩
end
end LP.LM
namespace LP.LM
open PySem PySem.Spec PyProof.Rows L2 PK RZ
/-! ### dicts of the store, their keys numbers and texts -/
def kOf : D → Option Key
  | .int i => some (.inl i)
  | .str y => some (.inr y)
  | _ => none
abbrev keyD : Key → D := fun p => match p with | .inl i => D.int i | .inr y => D.str y
theorem kOf_keyD (k : Key) : kOf (keyD k) = some k := by cases k <;> rfl
def dget : List D → List D → D → Option D
  | q :: ks, v :: vs, k => if kOf q = kOf k then some v else dget ks vs k
  | _, _, _ => none
def dputV : List D → List D → D → D → List D
  | q :: ks, w :: vs, k, v => if kOf q = kOf k then v :: vs else w :: dputV ks vs k v
  | _, _, _, v => [v]
def dputK : List D → D → List D
  | q :: ks, k => if kOf q = kOf k then q :: ks else q :: dputK ks k
  | [], k => [k]
section
variable {Ξ : Ctx} {H : Hp}
theorem valV_dget {kd : D} {k : Key} (ek : kOf kd = some k) : ∀ {kvs : List (Key × V)} {ds : List D} {d : D}, RpAll Ξ H (kvs.map (·.2)) ds → dget (kvs.map fun p => keyD p.1) ds kd = some d → ∃ v, valV kvs k = some v ∧ Rp Ξ H v d
  | [], _, _, _, h => by cases h
  | p :: kvs, _, d, .cons h1 h2, h => by
    simp only [List.map_cons, dget] at h
    by_cases z : p.1 = k
    · rw [if_pos (by rw [kOf_keyD, ek, z])] at h
      cases h
      exact ⟨p.2, valV_pos z, h1⟩
    · rw [if_neg (by rw [kOf_keyD, ek]; exact fun q => z (Option.some.inj q))] at h
      obtain ⟨v, e, r⟩ := valV_dget ek h2 h
      exact ⟨v, by rw [valV_neg z]; exact e, r⟩
theorem valV_none {kd : D} {k : Key} (ek : kOf kd = some k) : ∀ {kvs : List (Key × V)} {ds : List D}, RpAll Ξ H (kvs.map (·.2)) ds → dget (kvs.map fun p => keyD p.1) ds kd = none → valV kvs k = none
  | [], _, _, _ => rfl
  | p :: kvs, _, .cons h1 h2, h => by
    simp only [List.map_cons, dget] at h
    by_cases z : p.1 = k
    · rw [if_pos (by rw [kOf_keyD, ek, z])] at h
      cases h
    · rw [if_neg (by rw [kOf_keyD, ek]; exact fun q => z (Option.some.inj q))] at h
      rw [valV_neg z]
      exact valV_none ek h2 h
theorem putK_cons {κ : Type} [DecidableEq κ] {p : κ × V} {kvs : List (κ × V)} {k : κ} {v : V} (hn : (p :: kvs).Pairwise fun a b => a.1 ≠ b.1) : putK (p :: kvs) k v = if p.1 = k then (p.1, v) :: kvs else p :: putK kvs k v := by
  unfold putK
  by_cases z : p.1 = k
  · rw [if_pos z, if_pos (by simp [z])]
    simp only [List.map_cons, if_pos z]
    congr 1
    refine (List.map_congr_left fun q hq => ?_).trans (List.map_id _)
    rw [if_neg fun e => (List.pairwise_cons.mp hn).1 q hq (z.trans e.symm)]
    rfl
  · rw [if_neg z]
    by_cases w : (kvs.any fun kv => decide (kv.1 = k)) = true
    · rw [if_pos (by rw [List.any_cons, w]; simp), if_pos w]
      simp only [List.map_cons, if_neg z]
    · rw [if_neg (by rw [List.any_cons]; simpa [z] using w), if_neg w]
      rfl
theorem putK_dput {kd : D} {k : Key} (ek : kOf kd = some k) {v : V} {d : D} (hv : Rp Ξ H v d) : ∀ {kvs : List (Key × V)} {ds : List D}, (kvs.Pairwise fun a b => a.1 ≠ b.1) → RpAll Ξ H (kvs.map (·.2)) ds →
    (putK kvs k v).map (fun p => keyD p.1) = dputK (kvs.map fun p => keyD p.1) (keyD k) ∧ RpAll Ξ H ((putK kvs k v).map (·.2)) (dputV (kvs.map fun p => keyD p.1) ds kd d)
  | [], _, _, .nil => ⟨rfl, .cons hv .nil⟩
  | p :: kvs, _, hn, .cons h1 h2 => by
    rw [putK_cons hn]
    simp only [List.map_cons, dputK, dputV]
    by_cases z : p.1 = k
    · rw [if_pos z, if_pos (by rw [z]), if_pos (by rw [kOf_keyD, ek, z])]
      exact ⟨rfl, .cons hv h2⟩
    · have n1 : ¬ kOf (keyD p.1) = kOf (keyD k) := by
        rw [kOf_keyD, kOf_keyD]
        exact fun q => z (Option.some.inj q)
      have n2 : ¬ kOf (keyD p.1) = kOf kd := by
        rw [kOf_keyD, ek]
        exact fun q => z (Option.some.inj q)
      rw [if_neg z, if_neg n1, if_neg n2]
      obtain ⟨q1, q2⟩ := putK_dput ek hv (List.pairwise_cons.mp hn).2 h2
      exact ⟨by rw [List.map_cons, q1], .cons h1 q2⟩
end
theorem putK_mem {kvs : List (Key × V)} {k : Key} {v : V} : ∀ {p : Key × V}, p ∈ putK kvs k v → p.1 = k ∨ ∃ q ∈ kvs, q.1 = p.1 := by
  intro p hp
  unfold putK at hp
  split at hp
  · obtain ⟨q, hq, e⟩ := List.mem_map.mp hp
    refine .inr ⟨q, hq, ?_⟩
    rw [← e]
    split <;> rfl
  · rcases List.mem_append.mp hp with h | h
    · exact .inr ⟨p, h, rfl⟩
    · rw [List.mem_singleton.mp h]
      exact .inl rfl
theorem putK_pw {k : Key} {v : V} : ∀ {kvs : List (Key × V)}, (kvs.Pairwise fun a b => a.1 ≠ b.1) → (putK kvs k v).Pairwise fun a b => a.1 ≠ b.1
  | [], _ => by simp [putK]
  | p :: kvs, hn => by
    rw [putK_cons hn]
    obtain ⟨h1, h2⟩ := List.pairwise_cons.mp hn
    by_cases z : p.1 = k
    · rw [if_pos z]
      exact List.pairwise_cons.mpr ⟨h1, h2⟩
    · rw [if_neg z]
      refine List.pairwise_cons.mpr ⟨fun q hq => ?_, putK_pw h2⟩
      rcases putK_mem hq with e | ⟨q', hq', e⟩
      · rw [e]
        exact z
      · rw [← e]
        exact h1 q' hq'
section
variable {Γ : Sig} {al : List Addr} {s : Sto} {M : List Addr} {H : Hp}
theorem Stands.dct {k : Nat} {a : Addr} {ks ds : List D} (h : Stands Γ al s M H) (ha : al[k]? = some a) (hd : (s : List D)[k]? = some (.dct ks ds)) :
    ∃ kvs : List (Key × V), H a = some (.dK kvs) ∧ ks = kvs.map (fun p => keyD p.1) ∧ (∀ p ∈ kvs, ∀ y, p.1 = .inr y → PyData.strOk y = true) ∧ (kvs.Pairwise fun a b => a.1 ≠ b.1) ∧ RpAll (Ca Γ al) (PK.ms M H) (kvs.map (·.2)) ds := by
  obtain ⟨o, e, us, ds', sh, hr⟩ := h.ob k a _ ha hd
  cases sh with
  | dK h1 h2 h3 => exact ⟨_, e, h1, h2, h3, hr⟩
end
/-! ### reading and writing -/
/-- x[y] of a thing of the store -/
def ixS (d y : D) : M D := (tokM d).bind fun k => (look k).bind fun x => match x with
  | .dct ks vs => (M.lift (optW (kOf y))).bind fun _ => M.lift (optW (dget ks vs y))
  | _ => M.fail
def ixSL (d y : D) : M D := (tokM d).bind fun k => (look k).bind fun x => match x with
  | .lst l => M.lift (ixW (.lst l) y)
  | _ => M.fail
def putS (d y v : D) : M Unit := (tokM d).bind fun k => (look k).bind fun x => match x with
  | .dct ks vs => (M.lift (optW (kOf y))).bind fun _ => (M.want (ks.length < sizeLine)).bind fun _ => store k (.dct (dputK ks y) (dputV ks vs y v))
  | _ => M.fail
def putSL (d y v : D) : M Unit := (tokM d).bind fun k => (look k).bind fun x => match x with
  | .lst l => (M.lift (setLW y v l)).bind fun l' => store k (.lst l')
  | _ => M.fail
section
variable {X : Cx} {Γ : Sig} {al0 : List Addr} {H0 : Hp} {O O' Ob : List Nat} {o e i a b : Expr} {es : List Expr} {pos pos' : Pos} {po pa pb pi' : LP.Env → M D} {ps : LP.Env → M (List D)}
theorem key_of {Ξ : Ctx} {Hm : Hp} {y : V} {d : D} {k : Key} (h : Rp Ξ Hm y d) (e : kOf d = some k) : y = kV k ∧ (∀ z, k = .inr z → PyData.strOk z = true) ∧ keyD k = d := by
  cases d <;> try (cases e; done)
  · cases e
    cases h
    exact ⟨rfl, fun z hz => (nomatch hz), rfl⟩
  · cases e
    cases h with
    | str _ ok => exact ⟨rfl, fun z hz => by cases hz; exact ok, rfl⟩
theorem le_dgetS {k : Nat} (hr : Room k X.A) (ho : LE Γ al0 H0 O X o po) (hi : LE Γ al0 H0 O X i pi') (hs : NoSl i) : LE Γ al0 H0 O X (.Subscript o i pos) fun env => (po env).bind fun d => (pi' env).bind fun y => ixS d y := by
  refine wkE (pe_dget (hu_of hr) ho hi hs) fun σ H Q ⟨S, A, G, env, E, al, s, hA, r, q⟩ => ?_
  refine ⟨S, A, G, env, E, al, s, hA, r, (po env).mono (fun d s1 k v H1 al1 x1 st1 hv => ?_) (fun _ _ z => z) q⟩
  have r1 := r.later x1 st1
  refine ⟨S, A, G, env, E, al1, s1, hA, r1, (pi' env).mono (fun y s2 k u H2 al2 x2 st2 hu => ?_) (fun _ _ z => z) k⟩
  obtain ⟨n, rfl, x, ex, k⟩ := tokM_wp k
  obtain ⟨a, rfl, ha⟩ := tok_at (hv.later x2)
  cases x <;> try exact k.elim
  obtain ⟨key, ek, k⟩ := optW_wp k
  obtain ⟨d, ed, kk⟩ := optW_wp (k : (optW _).wp _ _)
  clear k
  obtain ⟨kvs, e0, rfl, _, _, hrr⟩ := st2.dct ha ex
  obtain ⟨rfl, _, _⟩ := key_of hu ek
  obtain ⟨w, ew, hw⟩ := valV_dget ek hrr ed
  exact ⟨a, w, rfl, by rw [← ew]; exact DGet.k e0, kk w H2 al2 (x1.trans x2) st2 hw⟩
theorem le_ixSL (hK : X.K = Γ.K) (hs : PlainIx i) (ho : LB Γ al0 H0 O X o po) (hi : LB Γ al0 H0 O X i pi') : LE Γ al0 H0 O X (.Subscript o i pos) fun env => (po env).bind fun d => (pi' env).bind fun y => ixSL d y := by
  refine wkE (pe_ix (r := rIx Γ.K) (by rw [← hK]; exact ix_seq) ho hi hs) fun σ H Q ⟨S, A, G, env, E, al, s, hA, r, q⟩ => ?_
  refine ⟨S, A, G, env, E, al, s, hA, r, (po env).mono (fun d s1 k v H1 al1 x1 st1 hv => ?_) (fun _ _ z => z) q⟩
  have r1 := r.later x1 st1
  refine ⟨S, A, G, env, E, al1, s1, hA, r1, (pi' env).mono (fun y s2 k u H2 al2 x2 st2 hu => ?_) (fun _ _ z => z) k⟩
  have r2 := r1.later x2 st2
  obtain ⟨n, rfl, x, ex, k⟩ := tokM_wp k
  cases hv.later x2 with
  | rp hv =>
    obtain ⟨a, rfl, ha⟩ := tok_at hv
    cases x <;> try exact k.elim
    obtain ⟨us, e0, hrr⟩ := st2.lst ha ex
    refine ix_ok (Ξ := Ca Γ al2) _ H2 _ _ _ _ Q (fun e => E e s2) r2.r.muA r2.r.ffM (.lst (fun z => (nomatch z)) e0 hrr) hu.bp (W.mono _ (fun d k v H3 s3 rv => ?_) (fun _ z => z) k)
    exact k v H3 al2 ((x1.trans x2).trans (Later.of s3)) (st2.same s3) rv
theorem ls_isetS (ho : LE Γ al0 H0 O X o po) (hi : LE Γ al0 H0 O X i pi') (hv : LE Γ al0 H0 O X e pa)
    (hm : PS X (.Assign [.Subscript o i pos'] e pos) (tAsg (liE Γ al0 H0 O pa) (gSub (liE Γ al0 H0 O po) (liE Γ al0 H0 O pi') rSetL))) :
    LS Γ al0 H0 O O Ob X (.Assign [.Subscript o i pos'] e pos) fun env => (pa env).bind fun v => (po env).bind fun d => (pi' env).bind fun y => (putSL d y v).bind fun _ => M.ret (.nx env) := by
  refine wkS hm fun De σ H ⟨S, A, G, env, E, al, s, hA, r, q⟩ => ?_
  refine ⟨S, A, G, env, E, al, s, hA, r, (pa env).mono (fun dv s0 k vv H0' al0' x0 st0 hvv => ?_) (fun _ _ z => z) q⟩
  have r0 := r.later x0 st0
  refine ⟨S, A, G, env, E, al0', s0, hA, r0, (po env).mono (fun d s1 k v H1 al1 x1 st1 hv => ?_) (fun _ _ z => z) k⟩
  have r1 := r0.later x1 st1
  refine ⟨S, A, G, env, E, al1, s1, hA, r1, (pi' env).mono (fun y s2 k u H2 al2 x2 st2 hu => ?_) (fun _ _ z => z) k⟩
  have r2 := r1.later x2 st2
  obtain ⟨n, rfl, x, ex, k⟩ := tokM_wp k
  obtain ⟨a, rfl, ha⟩ := tok_at (hv.later x2)
  have hv2 := (hvv.later x1).later x2
  have hal : a ∈ al2 := List.mem_of_getElem? ha
  match x, y, hu, ex, k with
  | .lst l, .int m, hu, ex, k =>
    cases hu
    obtain ⟨us, e0, hrr⟩ := st2.lst ha ex
    obtain ⟨t, et, k⟩ := optW_wp k
    exact ⟨a, _, m, t, rfl, rfl, e0, by rw [hrr.len]; exact et, k A σ _ al2 hA (r2.later (Later.upd hal e0) (st2.put (fun b hb => mk_al hb) ha ⟨_, _, .lst, hrr.set hv2 t⟩))⟩
/-- a thing of the store != [] -/
def neNilS (d : D) : M D := (tokM d).bind fun k => (look k).bind fun x => match x with
  | .lst l => M.ret (.bl !l.isEmpty)
  | _ => M.fail
theorem isEmpty_len {α β : Type} {l : List α} {m : List β} (h : l.length = m.length) : l.isEmpty = m.isEmpty := by
  cases l <;> cases m <;> first | rfl | cases h
theorem lt_neNilS {k : Nat} {p2 : Pos} (hr : Room k X.A) (hK : X.K = Γ.K) (ho : LB Γ al0 H0 O X o po) : LT Γ al0 H0 O X (.Compare o [.NotEq] [.List [] p2] pos) fun env => ((po env).bind neNilS).bind asBM := by
  refine wkT (pt_cmpR (ko_neNil Γ.K hr hK) ho (pe_lst pa_nil) (nomark _)) fun σ H Q ⟨S, A, G, env, E, al, s, hA, r, q⟩ => ?_
  refine ⟨S, A, G, env, E, al, s, hA, r, (po env).mono (fun d s1 k v H1 al1 x1 st1 hv => ?_) (fun _ _ z => z) q⟩
  obtain ⟨n, rfl, x, ex, k⟩ := tokM_wp k
  cases hv with
  | rp hv =>
    obtain ⟨a, rfl, ha⟩ := tok_at hv
    cases x <;> try exact k.elim
    obtain ⟨us, e0, hrr⟩ := st1.lst ha ex
    refine ⟨Nat.zero_le _, fun p np => ?_⟩
    have sm : Same H1 (upd H1 p (.lst [])) := same_new (Same.refl H1) np
    refine ⟨a, p, us, rfl, rfl, SqL.of (sm _ _ e0), SqL.of upd_same, ?_⟩
    rw [isEmpty_len hrr.len]
    exact ⟨_, rfl, k _ al1 (x1.trans (Later.of sm)) (st1.same sm)⟩
/-- a, b, .. = a thing of the store -/
def unpS (n : Nat) (gs : List D → LP.Env → W LP.Env) (env : LP.Env) (d : D) : M Fl := (tokM d).bind fun k => (look k).bind fun x => match x with
  | .lst l => (M.want (l.length = n)).bind fun _ => (M.lift (gs l env)).bind fun env' => M.ret (.nx env')
  | _ => M.fail
theorem ls_unpS {kt n : Nat} {pt : Pos} {vs : List Nat} {gs : List D → LP.Env → W LP.Env} (hc : X.calm = true) (hK : X.K = Γ.K) (he : LE Γ al0 H0 O X e pa) (hg : ∀ (al : List Addr) (H0 : Hp), LGs (Ca Γ al) H0 O vs X es gs) (hn : (assignEach es X.env).length = n := by rfl) (hst : (assignEach es X.env).findIdx? (·.1) = none := by rfl)
    (hs : swapsWithSole [.Tuple es kt pt] e pos.line X.env = pure false := by rfl) (hw : swappedStores [.Tuple es kt pt] e X.env = pure none := by rfl) (h1 : (assignEach [.Tuple es kt pt] X.env).map (·.2) = [assign (.Tuple es kt pt) X.env] := by rfl) :
    LS Γ al0 H0 O O Ob X (.Assign [.Tuple es kt pt] e pos) fun env => (pa env).bind (unpS n gs env) := by
  have hg' : PGs X es (fun xs σ H Q => ∃ S A G env ds E al s, A.map (·.1) = O ∧ RelM Γ al0 H0 al s S A G σ H env ∧ RpAll (Ca Γ al) (PK.ms (msk S al A) H) xs ds ∧ (gs ds env).wp (fun env' => ∀ σ', RelM Γ al0 H0 al s S A G σ' H env' → Q σ' H) E) :=
    ⟨fun pins st σ H x u Q I rv ⟨S, A, G, env, ds, E, al, s, hA, r, hd, q⟩ => (hg al (PK.ms al H0)).run pins st σ H x u Q I rv ⟨S ++ al, A, G, env, ds, E, hA, r.r, hd, (gs ds env).mono (fun env' k σ' h1 h2 r' => k σ' (r.of (Same.refl H) r')) (fun _ z => z) q⟩⟩
  refine wkS (ps_asg he (pg_lst hc hg' hn hst) hs hw h1) fun De σ H ⟨S, A, G, env, E, al, s, hA, r, q⟩ => ?_
  refine ⟨S, A, G, env, E, al, s, hA, r, (pa env).mono (fun d s1 k v H1 al1 x1 st1 hv => ?_) (fun _ _ z => z) q⟩
  obtain ⟨m, rfl, x, ex, k⟩ := tokM_wp k
  obtain ⟨a, rfl, ha⟩ := tok_at hv
  cases x <;> try exact k.elim
  obtain ⟨us, e0, hrr⟩ := st1.lst ha ex
  refine ⟨a, us, rfl, SqL.of e0, by rw [hrr.len]; exact k.1, S, A, G, env, _, fun e => E e s1, al1, s1, hA, r.later x1 st1, hrr, W.mono _ (fun env' k σ' r' => k A σ' H1 al1 hA r') (fun _ z => z) k.2⟩
end
end LP.LM
namespace LP.LM
open PySem PySem.Spec PyProof.Rows L2 PK RZ
/-! ### the law's own def -/
def tRest (Γ : Sig) (pb : LP.Env → M Fl) : TS := fun De σ H => ∃ al H0, liS Γ al H0 [] [] [] pb De σ H
theorem pss_rest {X : Cx} {Γ : Sig} {sts : List Stmt} {pb : LP.Env → M Fl} (h : ∀ al H0, LSs Γ al H0 [] [] [] X sts pb) : PSs X sts (tRest Γ pb) :=
  ⟨fun pins s σ H D I ⟨a, H0, q⟩ => (h a H0).run pins s σ H D I q⟩
/-- the names at the law's start -/
def lawE (n : Nat) : LP.Env := (List.replicate n none).set 1 (some (.tok 1))
section
variable {Γ : Sig} {mg : Str → Option Value} {base : Heap}
theorem law_by {st : Stmt} {f : Addr} {fd : FuncData} {N : List Str} {k nN : Nat} {s0 : Str} {pb : LP.Env → M Fl} {P0 : Sto → Prop} (F : Fun Γ.K "law" "law" st f fd) (Sc : FnScope N [s0] (defScope st)) (hn : N.length = nN) (h1 : 1 < nN)
    (hS : ∀ H p c, Γ.fk H p c → ∃ s, P0 s ∧ Stands Γ [p, c] s (msk [] [p, c] []) H)
    (hb : ∀ (cdv : Value) (A : Around) (outer : List PySem.Env) (s : Shared) (H : Hp) (E : XK), A.guards = some [] → Room k (A.deeper (envOfC "law" (defScope st) s.heap.objs.size f cdv)) →
      PSs (cxOf CX0 Γ.P Γ.w Γ.K mg base N "law" (defScope st) f cdv A outer s H E).nox (defBody st) (tSeq (tAsg (tCall (spFeedOf Γ.fk Γ.K) [] (fun _ _ _ => True) (tCons (tVar 0) tNil)) (gName 1)) (tRest Γ pb)))
    (hp : ∀ s, P0 s → (pb (lawE nN)).wp (fun f _ => ∃ b, f = .rt (.bl b) ∧ b = true) (fun _ _ => False) s) : FnG Γ.P Γ.w Γ.K mg base CX0 (k + 1) f fd [s0] (spLawK Γ.K) := by
  subst hn
  refine funG_ok F Sc (fun vs H Q E h => ?_) (fun cdv A outer s H vs Q E hgd hr h => ?_)
  · obtain ⟨a, ns, rfl, _⟩ := h
    rfl
  · obtain ⟨a, ns, rfl, hS', q⟩ := h
    refine ⟨_, hb cdv A outer s H E hgd hr, ?_⟩
    refine ⟨.ref a, by rfl, a, ns, rfl, hS', fun p c H' np sm fk => ?_⟩
    obtain ⟨s', p0, st⟩ := hS H' p c fk
    have e0 : (L2.start N [V.ref a]).length = N.length := by
      unfold L2.start
      simp
      omega
    refine ⟨[p, c], H', [], [], [], lawE N.length, fun _ _ => False, [p, c], s', rfl, ⟨?_, st, ⟨[], (List.append_nil _).symm, fun _ h => (nomatch h)⟩, fun _ _ _ h => h⟩, ?_⟩
    · refine ⟨?_, fun i d hd _ => ?_, fun i a h => (nomatch h), fun i a h => (nomatch h), List.nodup_nil, List.nodup_nil, fun x hx => (nomatch hx), fun b hb => st.mt (S := []) (A := []) hb, trivial, fun b hb => (nomatch hb), fun b o _ e => (ms_some e).1⟩
      · rw [List.length_set, e0]
        simp [lawE]
      · unfold lawE at hd
        by_cases z : 1 = i
        · subst z
          rw [List.getElem?_set_self (by simpa using h1)] at hd
          cases hd
          exact ⟨.ref p, List.getElem?_set_self (by rw [e0]; exact h1), .tok rfl⟩
        · rw [List.getElem?_set_ne z] at hd
          have := List.mem_of_getElem? hd
          rw [List.mem_replicate] at this
          cases this.2
    · refine M.mono _ (fun fl s2 hf => ?_) (fun _ _ z => z) (hp s' p0)
      obtain ⟨b, rfl, rfl⟩ := hf
      intro v H2 al2 x2 st2 hv
      cases hv
      exact q H2
end
/-! ### what is drawn from: a dict, or a list -/
def isTap (H : Hp) (a c : Addr) : Prop := ∃ cs : List Int, H a = some (.lst [.ref c, .int 0, .int 0, .int 0]) ∧ H c = some (.lst (cs.map V.int))
def sigOf (fk : Hp → Addr → Addr → Prop) (fks : ∀ H H' a c, fk H a c → H' a = H a → H' c = H c → fk H' a c) (fkm : ∀ H a c, fk H a c → (∃ o, H a = some o ∧ Mt o) ∧ ∃ o, H c = some o ∧ Mt o) (P : Program) (w : World) (K : PySem.W.Frag) (cl : Nat → Option Addr) (fl : Nat → List Str) : Sig := ⟨P, w, K, cl, fl, fk, fks, fkm⟩
theorem tap_s : ∀ H H' a c, isTap H a c → H' a = H a → H' c = H c → isTap H' a c := fun H H' a c ⟨cs, h1, h2⟩ e1 e2 => ⟨cs, by rw [e1]; exact h1, by rw [e2]; exact h2⟩
theorem tap_m : ∀ H a c, isTap H a c → (∃ o, H a = some o ∧ Mt o) ∧ ∃ o, H c = some o ∧ Mt o := fun H a c ⟨cs, h1, h2⟩ => ⟨⟨_, h1, trivial⟩, ⟨_, h2, trivial⟩⟩
abbrev tapSig : Program → World → PySem.W.Frag → (Nat → Option Addr) → (Nat → List Str) → Sig := sigOf isTap tap_s tap_m
def srcD (k3 : Str) (i l n : Int) : D := .dct [.str "cells", .str "at", .str k3, .str "count"] [.tok 2, .int i, .int l, .int n]
def tapD (i l n : Int) : D := .lst [.tok 2, .int i, .int l, .int n]
def cellsD (cs : List Int) : D := .lst (cs.map D.int)
def atTap (s : Sto) : Prop := ∃ cs, s = [tapD 0 0 0, cellsD cs]
section
variable {P : Program} {w : World} {K : PySem.W.Frag} {cl : Nat → Option Addr} {fl : Nat → List Str}
theorem two_nd {H : Hp} {p c : Addr} {o o' : HO} (h1 : H p = some o) (h2 : H c = some o') (h : o ≠ o') : [p, c].Nodup := by
  have := ne_of h1 h2 h
  simp [this]
theorem tap_st : ∀ H p c, (tapSig P w K cl fl).fk H p c → ∃ s, atTap s ∧ Stands (tapSig P w K cl fl) [p, c] s (msk [] [p, c] []) H := by
  rintro H p c ⟨cs, h1, h2⟩
  refine ⟨_, ⟨cs, rfl⟩, ⟨two_nd h1 h2 (fun z => ?_), rfl, fun i a d e1 e2 => ?_⟩⟩
  · cases cs <;> cases z
  match i, e1, e2 with
  | 0, e1, e2 =>
    cases e1
    cases e2
    exact ⟨_, h1, _, _, .lst, .cons (.tok rfl) (.cons (.int _) (.cons (.int _) (.cons (.int _) .nil)))⟩
  | 1, e1, e2 =>
    cases e1
    cases e2
    exact ⟨_, h2, _, _, .lst, RpAll.ints cs⟩
  | i + 2, e1, e2 => cases e1
end
end LP.LM
/-! Dicts of the store whose keys are tuples. -/
namespace LP.LM
open PySem PySem.Spec PyProof.Rows L2 PK RZ
def KeyOk (y : D) : Prop := ∃ l k, y = .tup l ∧ nD y = some k ∧ k.depth ≤ 8
def ngD : List D → List D → D → Option D
  | q :: ks, v :: vs, y => if nD q = nD y then some v else ngD ks vs y
  | _, _, _ => none
def nHas (ks : List D) (y : D) : Bool := ks.any fun q => decide (nD q = nD y)
def npV (ks vs : List D) (y v : D) : List D := if nHas ks y then (ks.zip vs).map (fun p => if nD p.1 = nD y then v else p.2) else vs ++ [v]
def npK (ks : List D) (y : D) : List D := if nHas ks y then ks else ks ++ [y]
def atN (d : D) : M (List D × List D) := (tokM d).bind fun k => (look k).bind fun x => match x with
  | .tup [.lst ks, .lst vs] => M.ret (ks, vs)
  | _ => M.fail
def ixN (d y : D) : M D := (atN d).bind fun p => (M.want (KeyOk y)).bind fun _ => M.lift (optW (ngD p.1 p.2 y))
section
variable {Γ : Sig} {al : List Addr} {s : Sto} {M : List Addr} {H : Hp} {Ξ : Ctx}
theorem RpAll.split : ∀ {us us' : List V} {ds ds' : List D}, us.length = ds.length → RpAll Ξ H (us ++ us') (ds ++ ds') → RpAll Ξ H us ds ∧ RpAll Ξ H us' ds'
  | [], _, [], _, _, h => ⟨.nil, h⟩
  | u :: us, _, d :: ds, _, e, .cons h1 h2 => by
    obtain ⟨q1, q2⟩ := RpAll.split (us := us) (ds := ds) (by simpa using e) h2
    exact ⟨.cons h1 q1, q2⟩
  | [], _, _ :: _, _, e, _ => by simp at e
  | _ :: _, _, [], _, e, _ => by simp at e
/-- what is known of such a dict -/
structure NS (Ξ : Ctx) (Hm : Hp) (kvs : List NKV) (ks vs : List D) : Prop where
  ke : ks.map nD = kvs.map (fun p => some p.1)
  dp : ∀ p ∈ kvs, p.1.depth ≤ 8 ∧ ∃ l, p.1 = .tup l
  nd : (kvs.map (·.1)).Nodup
  rk : RpAll Ξ Hm (kvs.map (·.2.1)) ks
  rv : RpAll Ξ Hm (kvs.map (·.2.2)) vs
theorem NS.len {Hm : Hp} {kvs : List NKV} {ks vs : List D} (h : NS Ξ Hm kvs ks vs) : vs.length = ks.length ∧ ks.length = kvs.length := by
  have e := congrArg List.length h.ke
  have e2 := h.rv.len
  simp at e e2
  omega
theorem NS.obj {a : Addr} {kvs : List NKV} {ks vs : List D} (h : NS (Ca Γ al) H kvs ks vs) : Obj Γ al a H (DNO Γ.P Γ.w a kvs) (dicN ks vs) := ⟨_, _, .dN h.ke h.dp h.nd h.len.1, h.rk.app h.rv⟩
theorem rp_key {Hm : Hp} {v : V} {d : D} {k : NestedKey} (h : Rp Ξ Hm v d) (e : nD d = some k) (l : ∃ l, k = .tup l) (dep : k.depth ≤ 8) : KAt Ξ.K Hm v k := by
  unfold nD at e
  split at e
  · rename_i pl
    obtain ⟨l, rfl⟩ := l
    cases d <;> try (simp [D.toP, nkP] at e; done)
    have hd := Rp.dp (Ξ := Ξ) pl h
    cases h with
    | tup hs ha => exact ⟨_, _, rfl, hd, e, dep⟩
  · cases e
theorem KAt.same {K : PySem.W.Frag} {H H' : Hp} {v : V} {k : NestedKey} (x : Same H H') (h : KAt K H v k) : KAt K H' v k := by
  obtain ⟨b, d, e, hd, r⟩ := h
  exact ⟨b, d, e, Dp.same x hd, r⟩
theorem keys_at {Hm : Hp} : ∀ {kvs : List NKV} {ks : List D}, ks.map nD = kvs.map (fun p => some p.1) → (∀ p ∈ kvs, p.1.depth ≤ 8 ∧ ∃ l, p.1 = .tup l) → RpAll Ξ Hm (kvs.map (·.2.1)) ks → ∀ p ∈ kvs, KAt Ξ.K Hm p.2.1 p.1
  | [], _, _, _, _, _, hp => nomatch hp
  | q :: kvs, [], e, _, _, _, _ => by simp at e
  | q :: kvs, d :: ks, e, dp, .cons h1 h2, p, hp => by
    simp only [List.map_cons, List.cons.injEq] at e
    rcases List.mem_cons.mp hp with rfl | hp
    · exact rp_key h1 e.1 (dp p List.mem_cons_self).2 (dp p List.mem_cons_self).1
    · exact keys_at e.2 (fun p hp => dp p (List.mem_cons_of_mem _ hp)) h2 p hp
theorem KeyOk.at_ {Hm : Hp} {v : V} {y : D} (h : KeyOk y) (r : Rp Ξ Hm v y) : ∃ k, nD y = some k ∧ KAt Ξ.K Hm v k ∧ k.depth ≤ 8 ∧ ∃ l, k = .tup l := by
  obtain ⟨l, k, rfl, e, dep⟩ := h
  have hl : ∃ l, k = .tup l := by
    unfold nD at e
    split at e
    · obtain ⟨ks, _, rfl⟩ := Option.map_eq_some_iff.mp (show (nkPs (D.toPs l)).map NestedKey.tup = some k from e)
      exact ⟨ks, rfl⟩
    · cases e
  exact ⟨k, e, rp_key r e hl dep, dep, hl⟩
theorem nHas_nget {y : D} {k : NestedKey} (ey : nD y = some k) : ∀ {kvs : List NKV} {ks : List D}, ks.map nD = kvs.map (fun p => some p.1) → nHas ks y = (nget kvs k).isSome
  | [], [], _ => rfl
  | [], _ :: _, e => by simp at e
  | _ :: _, [], e => by simp at e
  | p :: kvs, q :: ks, e => by
    simp only [List.map_cons, List.cons.injEq] at e
    have ih := nHas_nget ey e.2
    unfold nHas at ih ⊢
    rw [List.any_cons, ih, e.1, ey]
    by_cases z : p.1 = k
    · rw [nget_pos z]
      simp [z]
    · rw [nget_neg z]
      have : ¬ (some p.1 = some k) := fun x => z (Option.some.inj x)
      simp [this]
theorem npV_rp {Hm : Hp} {y v : D} {u : V} {k : NestedKey} (ey : nD y = some k) (hv : Rp Ξ Hm u v) : ∀ {kvs : List NKV} {ks vs : List D}, ks.map nD = kvs.map (fun p => some p.1) → RpAll Ξ Hm (kvs.map (·.2.2)) vs →
    RpAll Ξ Hm ((kvs.map fun p => if p.1 = k then (p.1, p.2.1, u) else p).map (·.2.2)) ((ks.zip vs).map fun p => if nD p.1 = nD y then v else p.2)
  | [], [], _, _, .nil => .nil
  | [], _ :: _, _, e, _ => by simp at e
  | _ :: _, [], _, e, _ => by simp at e
  | p :: kvs, q :: ks, d :: vs, e, .cons h1 h2 => by
    simp only [List.map_cons, List.cons.injEq] at e
    have ih := npV_rp ey hv e.2 h2
    simp only [List.map_cons, List.zip_cons_cons]
    refine .cons ?_ ih
    by_cases z : p.1 = k
    · have c : nD q = nD y := by rw [e.1, ey, z]
      rw [if_pos z, if_pos c]
      exact hv
    · have c : ¬ nD q = nD y := fun x => z (by rw [e.1, ey] at x; exact Option.some.inj x)
      rw [if_neg z, if_neg c]
      exact h1
theorem NS.put {Hm : Hp} {kvs : List NKV} {ks vs : List D} {y v : D} {k : NestedKey} {b u : V} (h : NS Ξ Hm kvs ks vs) (ey : nD y = some k) (dk : k.depth ≤ 8 ∧ ∃ l, k = .tup l) (hy : Rp Ξ Hm b y) (hv : Rp Ξ Hm u v) :
    NS Ξ Hm (nput kvs k b u) (npK ks y) (npV ks vs y v) := by
  have e := nHas_nget ey h.ke
  unfold nput npK npV
  rw [e]
  by_cases z : (nget kvs k).isSome = true
  · rw [if_pos z, if_pos z, if_pos z]
    have k1 : (kvs.map fun p => if p.1 = k then (p.1, p.2.1, u) else p).map (·.1) = kvs.map (·.1) := by
      rw [List.map_map]
      refine List.map_congr_left fun p _ => ?_
      show (if p.1 = k then (p.1, p.2.1, u) else p).1 = p.1
      split <;> rfl
    have k2 : (kvs.map fun p => if p.1 = k then (p.1, p.2.1, u) else p).map (·.2.1) = kvs.map (·.2.1) := by
      rw [List.map_map]
      refine List.map_congr_left fun p _ => ?_
      show (if p.1 = k then (p.1, p.2.1, u) else p).2.1 = p.2.1
      split <;> rfl
    refine ⟨?_, fun p hp => ?_, by rw [k1]; exact h.nd, by rw [k2]; exact h.rk, npV_rp ey hv h.ke h.rv⟩
    · rw [h.ke]
      have e2 := congrArg (List.map some) k1
      simp only [List.map_map] at e2 ⊢
      exact e2.symm
    · obtain ⟨q, hq, rfl⟩ := List.mem_map.mp hp
      have := h.dp q hq
      split <;> exact this
  · rw [if_neg z, if_neg z, if_neg z]
    have nn : k ∉ kvs.map (·.1) := fun hm => by
      obtain ⟨p, hp, ep⟩ := List.mem_map.mp hm
      apply z
      unfold nget
      rw [Option.isSome_map, List.find?_isSome]
      exact ⟨p, hp, by simp [ep]⟩
    refine ⟨?_, fun p hp => ?_, ?_, ?_, ?_⟩
    · rw [List.map_append, List.map_append, h.ke]
      simp [ey]
    · rcases List.mem_append.mp hp with hp | hp
      · exact h.dp p hp
      · rw [List.mem_singleton.mp hp]
        exact dk
    · rw [List.map_append, List.nodup_append]
      refine ⟨h.nd, by simp, fun x hx y hy e => ?_⟩
      simp at hy
      rw [e, hy] at hx
      exact nn hx
    · rw [List.map_append]
      exact h.rk.app (.cons hy .nil)
    · rw [List.map_append]
      exact h.rv.app (.cons hv .nil)
theorem NS.rd {a : Addr} {X : Cx} {kvs : List NKV} {ks vs : List D} (hP : X.prog = Γ.P) (hw : X.w = Γ.w) (hK : X.K = Γ.K) (e : H a = some (DNO Γ.P Γ.w a kvs)) (h : NS (Ca Γ al) (PK.ms M H) kvs ks vs) : NRd X H a kvs := by
  refine ⟨.inl (by rw [hP, hw]; exact e), fun p hp => ?_⟩
  rw [hK]
  exact KAt.same (fun b o e => ms_sub _ _ e) (keys_at h.ke h.dp h.rk p hp)
end
section
variable {X : Cx} {Γ : Sig} {al0 : List Addr} {H0 : Hp} {O O' Ob : List Nat} {o e f i : Expr} {es : List Expr} {pos pos' apos cpos : Pos} {po pa pb pi' : LP.Env → M D} {ps : LP.Env → M (List D)}
theorem room9 {k : Nat} {A : Around} (hr : Room k A) : A.units + 9 < cLine := by have := hr.un; omega
end
end LP.LM
/-! == of two dicts whose keys are tuples within tuples. -/
namespace PK
open PySem PySem.Spec PyProof.Rows L2
section
variable {prog : Program} {w : World} {K : Type} [DecidableEq K] {knd : HeapKind prog w K} {A : Around} {E : Value → Shared → Prop} {s : Shared}
/-- two bare dicts: how many, which entries -/
structure Two (knd : HeapKind prog w K) (s : Shared) (a b : Addr) (xs ys : List (K × Addr × Value)) where
  oa : Obj
  ob : Obj
  ea : Array DictEntry
  eb : Array DictEntry
  na : Nat
  nb : Nat
  ga : s.heap.get? a = some oa
  gb : s.heap.get? b = some ob
  da : oa.data = .dict ea na
  db : ob.data = .dict eb nb
  la : ea.toList = xs.map (entryOfKey knd)
  lb : eb.toList = ys.map (entryOfKey knd)
  ka : ∀ x ∈ xs, knd.is s.heap x.1 x.2.1
  kb : ∀ x ∈ ys, knd.is s.heap x.1 x.2.1
  ub : (ys.map (·.1)).Nodup
end
/-! ### as a rule -/
/-- a test of the items of the other side, told by place -/
theorem KN.fun {P : NKV → NestedKey × Addr × Value → Prop} {gk : NKV → Bool} : ∀ {kvs : List NKV} {xs : List (NestedKey × Addr × Value)}, KN kvs xs → (xs.map (·.1)).Nodup → (∀ p ∈ kvs, ∀ q, p.1 = q.1 → RelV p.2.2 q.2.2 → P p q) →
    ∃ g : NestedKey × Addr × Value → Bool, (∀ q ∈ xs, ∃ p, P p q ∧ g q = gk p) ∧ xs.all g = kvs.all gk := by
  intro kvs xs r
  induction r with
  | nil => exact fun _ _ => ⟨fun _ => false, fun _ h => (nomatch h), rfl⟩
  | @cons p q ps qs h t ih =>
    intro nd hP
    rw [List.map_cons] at nd
    obtain ⟨n1, n2⟩ := List.nodup_cons.mp nd
    obtain ⟨g, g1, g2⟩ := ih n2 fun p hp => hP p (List.mem_cons_of_mem _ hp)
    have ne : ∀ x ∈ qs, x.1 ≠ q.1 := fun x hx e => n1 (by rw [← e]; exact List.mem_map_of_mem hx)
    refine ⟨fun x => if x.1 = q.1 then gk p else g x, fun x hx => ?_, ?_⟩
    · rcases List.mem_cons.mp hx with rfl | hx
      · exact ⟨p, hP p List.mem_cons_self _ h.1 h.2.2, if_pos rfl⟩
      · obtain ⟨p', h1, h2⟩ := g1 x hx
        exact ⟨p', h1, (if_neg (ne x hx)).trans h2⟩
    · have e1 : (if q.1 = q.1 then gk p else g q) = gk p := if_pos rfl
      have e2 : (qs.all fun x => if x.1 = q.1 then gk p else g x) = qs.all g := by
        rw [Bool.eq_iff_iff, List.all_eq_true, List.all_eq_true]
        exact forall_congr' fun x => forall_congr' fun hx => by rw [if_neg (ne x hx)]
      rw [List.all_cons, List.all_cons, e1, e2, g2]
end PK
/-! == of two dicts of the store whose keys are tuples, their values numbers. -/
namespace LP.LM
open PySem PySem.Spec PyProof.Rows L2 PK RZ
section
variable {Γ : Sig} {Ξ : Ctx}
end
section
variable {X : Cx} {Γ : Sig} {al0 : List Addr} {H0 : Hp} {O : List Nat} {a b : Expr} {pos : Pos} {pa pb : LP.Env → M D}
end
end LP.LM
/-! New lists: a part of a list, list(..); a new list as a thing of the store. -/
namespace LP.LM
open PySem PySem.Spec PyProof.Rows L2 PK RZ
section
variable {X : Cx} {Γ : Sig} {al0 : List Addr} {H0 : Hp} {O : List Nat} {e : Expr} {es : List Expr} {pos : Pos} {pa : LP.Env → M D} {ps : LP.Env → M (List D)}
theorem new_at {al al1 : List Addr} {s s1 : Sto} {H H1 : Hp} {S : List Addr} {A : List (Nat × Addr)} {G : List (V × D)} {σ : L2.St} {env : LP.Env} {vs : List V} {ds : List D} {Q : VK} {p : Addr} (r : RelM Γ al0 H0 al s S A G σ H env) (x1 : Later al H al1 H1) (st1 : Stands Γ al1 s1 (msk S al1 A) H1)
    (hv : RpAll (Ca Γ al1) (PK.ms (msk S al1 A) H1) vs ds) (np : H1 p = none) (k : kN Γ al H S A Q (.lst ds) s1) : Q (.ref p) (upd H1 p (.lst vs)) := by
  have sm : Same H1 (upd H1 p (.lst vs)) := same_new (Same.refl H1) np
  have r1 := r.later x1 st1
  have npal := r1.outN np
  have n0 : H p = none := by
    cases q : H p with
    | none => rfl
    | some o =>
      have := x1.gr p o (fun z => npal (x1.in_ z)) q
      rw [np] at this
      cases this
  refine k p _ al1 (x1.trans (Later.of sm)) (r1.st.mask np) n0 npal ?_
  rw [upd_same]
  refine .lst (hv.same fun b o e => ?_)
  obtain ⟨h1, h2⟩ := ms_some e
  exact ms_at (sm _ _ h1) fun z => (List.mem_cons.mp z).elim (ne_of_none h1 np) h2
theorem ln_list {p pos : Pos} (hK : X.K = Γ.K) (hg : Gl X "list") (hm : X.mg "list" = none) (ha : LAB Γ al0 H0 O X [e] ps) (he : starEach [e] X.env = [(false, eval e X.env)] := by rfl) :
    PE X (.Call (.Name "list" p) [e] [] pos) (liN Γ al0 H0 O fun env => (ps env).bind fun ds => M.lift (listW ds)) := by
  refine wkE (pe_callTy (k_list Γ.K hK) hg hm (by decide +kernel) ha (by decide) (by decide) he rfl) fun σ H Q ⟨S, A, G, env, E, al, s, hA, r, q⟩ => ?_
  refine ⟨S, A, G, env, E, al, s, hA, r, (ps env).mono (fun ds s1 k xs H1 al1 x1 st1 hx => ?_) (fun _ _ z => z) q⟩
  match ds, hx, k with
  | [.lst l], .cons h .nil, k =>
    obtain ⟨b, ys, rfl, t, a⟩ := h.bp.lstE
    exact ⟨b, ys, rfl, .inl (SqL.of t), fun p np => new_at r x1 st1 a np k⟩
  | [.tup l], .cons h .nil, k =>
    obtain ⟨b, ys, rfl, t, a⟩ := h.bp.tupE
    exact ⟨b, ys, rfl, .inr t, fun p np => new_at r x1 st1 a np k⟩
/-- a new list, at once a thing of the store -/
theorem le_alloc (h : PE X e (liN Γ al0 H0 O pa)) : LE Γ al0 H0 O X e fun env => (pa env).bind alloc := wkE h fun σ H Q ⟨S, A, G, env, E, al, s, hA, r, q⟩ =>
  ⟨S, A, G, env, E, al, s, hA, r, (pa env).mono (fun d s' k l H' al' x st nl nal ho => by
    obtain ⟨x', st', ht⟩ := r.alloc x st nl nal ho
    exact k (.ref l) H' _ x' st' ht) (fun _ _ z => z) q⟩
end
end LP.LM
namespace LP.LM
open PySem PySem.Spec PyProof.Rows L2 PK RZ
section
variable {α : Type}
theorem s_ite {k : Bool} {x y : M α} {Q : α → Sto → Prop} {E : Ex → Sto → Prop} {s : Sto} : (M.ite k x y).wp Q E s ↔ (k = true → x.wp Q E s) ∧ (k = false → y.wp Q E s) := by
  cases k
  · exact ⟨fun h => ⟨fun z => (nomatch z), fun _ => h⟩, fun h => h.2 rfl⟩
  · exact ⟨fun h => ⟨fun _ => h, fun z => (nomatch z)⟩, fun h => h.1 rfl⟩
theorem s_then {m : M Fl} {q : LP.Env → M Fl} {Q : Fl → Sto → Prop} {E : Ex → Sto → Prop} {s : Sto} : (thenM m q).wp Q E s ↔ m.wp (fun f s' => (match f with | .nx e => q e | f => M.ret f : M Fl).wp Q E s') E s := Iff.rfl
theorem s_end {m : M Fl} {Q : D → Sto → Prop} {E : Ex → Sto → Prop} {s : Sto} : (endM m).wp Q E s ↔ m.wp (fun f s' => (match f with | .rt d => M.ret d | .nx _ => M.ret .non | _ => M.fail : M D).wp Q E s') E s := Iff.rfl
theorem s_run {np nN : Nat} {b : LP.Env → M Fl} {ds : List D} {Q : D → Sto → Prop} {E : Ex → Sto → Prop} {s : Sto} : (runM np nN b ds).wp Q E s ↔ ds.length = np ∧ (endM (b (startE nN ds))).wp Q E s := Iff.rfl
theorem s_calm {m : M α} {Q : α → Sto → Prop} {E : Ex → Sto → Prop} {s : Sto} : (M.calm m).wp Q E s ↔ m.wp Q (fun _ _ => False) s := Iff.rfl
theorem s_fail {Q : α → Sto → Prop} {E : Ex → Sto → Prop} {s : Sto} : (M.fail : M α).wp Q E s ↔ False := Iff.rfl
end
/-! ### loops and comprehensions, by what holds at each turn -/
theorem forM_wp {g : D → LP.Env → W LP.Env} {p : LP.Env → M Fl} {E : Ex → Sto → Prop} {Q : Fl → Sto → Prop} (P : Nat → LP.Env → Sto → Prop) : ∀ {ds : List D} {k : Nat} {env : LP.Env} {s : Sto}, P k env s →
    (∀ i d env s, ds[i]? = some d → P (k + i) env s → (g d env).wp (fun env1 => (p env1).wp (fun f s' => match f with | .nx e => P (k + i + 1) e s' | .ct e => P (k + i + 1) e s' | .bk e => Q (.nx e) s' | .rt d => Q (.rt d) s') E s) fun e => E e s) →
    (∀ env s, P (k + ds.length) env s → Q (.nx env) s) → (forM' g p ds env).wp Q E s
  | [], k, env, s, h0, _, he => he env s h0
  | d :: ds, k, env, s, h0, hs, he => by
    refine W.mono (g d env) (fun env1 h1 => M.mono (p env1) (fun f s' hf => ?_) (fun _ _ z => z) h1) (fun _ z => z) (hs 0 d env s rfl h0)
    have go : ∀ {e s'}, P (k + 1) e s' → (forM' g p ds e).wp Q E s' := fun {e s'} h => forM_wp P h (fun i d' env s hi hp => by
      have := hs (i + 1) d' env s hi (by rw [show k + (i + 1) = k + 1 + i by omega]; exact hp)
      rw [show k + (i + 1) = k + 1 + i by omega] at this
      exact this) (fun env s h => he env s (by rw [List.length_cons, show k + (ds.length + 1) = k + 1 + ds.length by omega]; exact h))
    cases f with
    | nx e => exact go hf
    | ct e => exact go hf
    | bk e => exact hf
    | rt d => exact hf
theorem for_wp {g : D → LP.Env → W LP.Env} {p : LP.Env → M Fl} {E : Ex → Sto → Prop} {Q : Fl → Sto → Prop} {ds : List D} {env : LP.Env} {s : Sto} (P : Nat → LP.Env → Sto → Prop) (h0 : P 0 env s)
    (hs : ∀ i d env s, ds[i]? = some d → P i env s → (g d env).wp (fun env1 => (p env1).wp (fun f s' => match f with | .nx e => P (i + 1) e s' | .ct e => P (i + 1) e s' | .bk e => Q (.nx e) s' | .rt d => Q (.rt d) s') E s) fun e => E e s)
    (he : ∀ env s, P ds.length env s → Q (.nx env) s) : (forM' g p ds env).wp Q E s :=
  forM_wp P h0 (fun i d env s hi hp => by rw [Nat.zero_add] at *; exact hs i d env s hi hp) (fun env s h => he env s (by rw [Nat.zero_add] at h; exact h))
theorem lcM_wp {g : D → LP.Env → W LP.Env} {t : LP.Env → M Bool} {el : LP.Env → M D} {env : LP.Env} {E : Ex → Sto → Prop} (P : Nat → List D → Sto → Prop) : ∀ {ds : List D} {k : Nat} {acc : List D} {s : Sto} {Q : List D → Sto → Prop}, P k acc s →
    (∀ i d acc s, ds[i]? = some d → P (k + i) acc s → (g d env).wp (fun env1 => (t env1).wp (fun b s' => (b = true → (el env1).wp (fun y s2 => acc.length < sizeLine ∧ P (k + i + 1) (acc ++ [y]) s2) (fun _ _ => False) s') ∧ (b = false → P (k + i + 1) acc s')) (fun _ _ => False) s) fun _ => False) →
    (∀ acc s, P (k + ds.length) acc s → Q acc s) → (lcM g t el env ds acc).wp Q E s
  | [], k, acc, s, Q, h0, _, he => he acc s h0
  | d :: ds, k, acc, s, Q, h0, hs, he => by
    have go : ∀ {a s'}, P (k + 1) a s' → (lcM g t el env ds a).wp Q E s' := fun {a s'} h => lcM_wp P h (fun i d' env s hi hp => by
      have := hs (i + 1) d' env s hi (by rw [show k + (i + 1) = k + 1 + i by omega]; exact hp)
      rw [show k + (i + 1) = k + 1 + i by omega] at this
      exact this) (fun env s h => he env s (by rw [List.length_cons, show k + (ds.length + 1) = k + 1 + ds.length by omega]; exact h))
    refine W.mono (g d env) (fun env1 h1 => M.mono (t env1) (fun b s' hb => ?_) (fun _ _ z => z) h1) (fun _ z => z) (hs 0 d acc s rfl h0)
    cases b with
    | true => exact M.mono (el env1) (fun y s2 ⟨h1, h2⟩ => ⟨h1, go h2⟩) (fun _ _ z => z) (hb.1 rfl)
    | false => exact go (hb.2 rfl)
theorem lc_wp {g : D → LP.Env → W LP.Env} {t : LP.Env → M Bool} {el : LP.Env → M D} {vs : List Nat} {pi : LP.Env → M (List D)} {env : LP.Env} {E : Ex → Sto → Prop} {Q : D → Sto → Prop} {s : Sto}
    (h : (pi env).wp (fun ds s' => ∃ P : Nat → List D → Sto → Prop, P 0 [] s' ∧ (∀ i d acc s, ds[i]? = some d → P i acc s → (g d (wipeE env vs)).wp (fun env1 => (t env1).wp (fun b s' => (b = true → (el env1).wp (fun y s2 => acc.length < sizeLine ∧ P (i + 1) (acc ++ [y]) s2) (fun _ _ => False) s') ∧ (b = false → P (i + 1) acc s')) (fun _ _ => False) s) fun _ => False) ∧
      ∀ acc s, P ds.length acc s → Q (.lst acc) s) E s) : (lcDM g t el vs pi env).wp Q E s :=
  M.mono (pi env) (fun ds s' ⟨P, h0, hs, he⟩ => lcM_wp P h0 (fun i d acc s hi hp => by rw [Nat.zero_add] at *; exact hs i d acc s hi hp) (fun acc s h => he acc s (by rw [Nat.zero_add] at h; exact h))) (fun _ _ z => z) h
end LP.LM
/-! Such a dict walked by its keys, while it is locked; whether a key stands in it. -/
namespace PK
open PySem PySem.Spec PyProof.Rows L2
section
variable {X : Cx} {pins : List (Addr × Obj)} {σ : L2.St} {H : Hp} {s : Shared} {d : Addr} {o : Obj} {kvs : List NKV}
end
section
variable {P : Program} {w : World} {K : PySem.W.Frag} {tg : Expr} {d : Addr} {o : Obj} {kvs : List NKV}
end
/-! ### k in d -/
section
variable {X : Cx} {pins : List (Addr × Obj)} {σ : L2.St} {H : Hp} {s : Shared} {a : Addr} {kvs : List NKV} {y : V} {u : Value} {k : NestedKey} {i o : Expr} {ty td : TE}
end
end PK
/-! Dicts of the store that are walked by their keys: meanwhile they are locked. -/
namespace LP.LM
open PySem PySem.Spec PyProof.Rows L2 PK RZ
/-- how such a dict is walked: J in a heap in which it is locked -/
structure Wl (J : It) (a : Addr) (o : HO) (gh : List (V × D)) (ks : List D) : Prop where
  goes : ∀ (H : Hp) (i : Nat), H a = some o → i < ks.length → J.go i H
  stops : ∀ (H : Hp), H a = some o → J.stop ks.length H
  yields : ∀ (H : Hp) (i : Nat) (x : V) (H' : Hp), H a = some o → i < ks.length → J.yld i H x H' → H' = H ∧ ∃ d, ks[i]? = some d ∧ (x, d) ∈ gh
section
variable {Γ : Sig} {al0 : List Addr} {H0 : Hp} {O : List Nat}
end
end LP.LM
namespace LP.LM
open PySem PySem.Spec PyProof.Rows L2 PK RZ
section
variable {Γ : Sig} {al0 : List Addr} {H0 : Hp} {O : List Nat}
end
section
variable {X : Cx} {Γ : Sig} {al0 : List Addr} {H0 : Hp} {O : List Nat} {i : Nat} {x : Str} {px pos : Pos} {elt tg : Expr} {ifs : List Expr} {scope : Scope} {own : List (Str × Nat)} {gW : D → LP.Env → W LP.Env} {tW : LP.Env → M Bool} {eW : LP.Env → M D}
end
end LP.LM
namespace LP.LM
open PySem PySem.Spec PyProof.Rows L2 PK RZ
section
variable {Γ : Sig} {al : List Addr} {s : Sto} {M : List Addr} {H : Hp}
end
section
variable {X : Cx} {Γ : Sig} {al0 : List Addr} {H0 : Hp} {O O' Ob : List Nat} {o e f i a b : Expr} {pos pos' apos cpos : Pos} {po pa pb pi' : LP.Env → M D}
def dctAt (d : D) : M Unit := (tokM d).bind fun k => (look k).bind fun x => match x with
  | .dct _ _ => M.ret ()
  | _ => M.fail
end
end LP.LM
namespace LP.LM
open PySem PySem.Spec PyProof.Rows L2 PK RZ
section
variable {X : Cx} {Γ : Sig} {al0 : List Addr} {H0 : Hp} {O O' Ob : List Nat} {ke ve : Expr} {pos pos' p : Pos} {pa pb : LP.Env → M D}
/-- what is written into a new thing, which nobody knows yet -/
theorem Stands.own {Γ : Sig} {al : List Addr} {s : Sto} {S : List Addr} {A : List (Nat × Addr)} {H : Hp} {l : Addr} {o : HO} (st : Stands Γ al s (msk (l :: S) al A) H) (nal : l ∉ al) : Stands Γ al s (msk (l :: S) al A) (upd H l o) := ⟨st.nd, st.len, fun i a d h1 h2 => by
  obtain ⟨u, e, hu⟩ := st.ob i a d h1 h2
  have na : a ≠ l := fun z => nal (by rw [← z]; exact List.mem_of_getElem? h1)
  refine ⟨u, by rw [upd_ne na]; exact e, ?_⟩
  rw [ms_upd (show l ∈ msk (l :: S) al A from List.mem_append_left _ (List.mem_append_left _ List.mem_cons_self))]
  exact hu⟩
end
end LP.LM
/-! Own objects that are things of the store: their attributes are read, their methods called. -/
namespace LP.LM
open PySem PySem.Spec PyProof.Rows L2 PK RZ
theorem Stands.ins {Γ : Sig} {al : List Addr} {s : Sto} {M : List Addr} {H : Hp} {k c : Nat} {a C : Addr} {ds : List D} (h : Stands Γ al s M H) (hcl : Γ.cl c = some C) (ha : al[k]? = some a) (hd : (s : List D)[k]? = some (.obj c ds)) :
    ∃ dx, ∃ xs : List V, H a = some (.ins C dx ((Γ.fl c).zip xs)) ∧ xs.length ≤ (Γ.fl c).length ∧ RpAll (Ca Γ al) (PK.ms M H) xs ds := by
  obtain ⟨o, e, us, ds', sh, hr⟩ := h.ob k a _ ha hd
  cases sh with
  | ins h1 h2 =>
    have := hcl.symm.trans h1
    cases Option.some.inj this
    exact ⟨_, _, e, h2, hr⟩
structure MetS (Γ : Sig) (mg : Str → Option Value) (base : Heap) (k : Nat) (c : Nat) (C : Addr) (m : Str) (f : Addr) (fd : FuncData) (ps : List Str) (p : List D → M D) : Prop where
  ok : FnOk Γ.P Γ.w Γ.K mg base CX0 k f fd ps (liF Γ p)
  cls : Cls Γ.K C
  me : Meth Γ.K C m f
  b : Binds Γ.K fd ps []
  cl : Γ.cl c = some C
  nf : m ∉ Γ.fl c
section
variable {X : Cx} {Γ : Sig} {al0 : List Addr} {H0 : Hp} {O : List Nat} {k c : Nat} {C f : Addr} {fd : FuncData} {ps : List Str} {o e : Expr} {es : List Expr} {m fn : Str} {apos pos : Pos} {p : List D → M D} {po : LP.Env → M D} {pa : LP.Env → M (List D)} {mg : Str → Option Value} {base : Heap}
end
end LP.LM
/-! del d[k] of a dict whose keys are tuples. -/
namespace PK
open PySem PySem.Spec PyProof.Rows L2
def nwo (kvs : List NKV) (k : NestedKey) : List NKV := kvs.filter fun p => decide (p.1 ≠ k)
section
variable {X : Cx} {pins : List (Addr × Obj)} {σ : L2.St} {H : Hp} {s : Shared} {a : Addr} {kvs : List NKV} {y v : V} {u : Value} {k : NestedKey} {A : Around} {E : Value → Shared → Prop}
end
end PK
/-! del d[k] of a thing of the store whose keys are tuples. -/
namespace LP.LM
open PySem PySem.Spec PyProof.Rows L2 PK RZ
def ndK (ks : List D) (y : D) : List D := ks.filter fun q => decide (nD q ≠ nD y)
def ndV (ks vs : List D) (y : D) : List D := ((ks.zip vs).filter fun p => decide (nD p.1 ≠ nD y)).map (·.2)
theorem NS.del {Ξ : Ctx} {Hm : Hp} {y : D} {k : NestedKey} (ey : nD y = some k) : ∀ {kvs : List NKV} {ks vs : List D}, NS Ξ Hm kvs ks vs → NS Ξ Hm (nwo kvs k) (ndK ks y) (ndV ks vs y)
  | [], [], [], h => h
  | [], _ :: _, _, h => by have := h.ke; simp at this
  | [], [], v :: vs, h => by have := h.rv; cases this
  | p :: kvs, [], _, h => by have := h.ke; simp at this
  | p :: kvs, q :: ks, [], h => by have := h.rv; cases this
  | p :: kvs, q :: ks, v :: vs, h => by
    have hk := h.ke
    rw [List.map_cons, List.map_cons] at hk
    injection hk with k1 k2
    have hd := h.nd
    rw [List.map_cons] at hd
    obtain ⟨d1, d2⟩ := List.nodup_cons.mp hd
    have hrk := h.rk
    have hrv := h.rv
    rw [List.map_cons] at hrk hrv
    cases hrk with
    | cons r1 r2 =>
    cases hrv with
    | cons r3 r4 =>
    have ih := NS.del ey (kvs := kvs) (ks := ks) (vs := vs) ⟨k2, fun p hp => h.dp p (List.mem_cons_of_mem _ hp), d2, r2, r4⟩
    by_cases e : p.1 = k
    · have e' : nD q = nD y := by rw [k1, ey, e]
      have a1 : nwo (p :: kvs) k = nwo kvs k := List.filter_cons_of_neg (by simp [e])
      have a2 : ndK (q :: ks) y = ndK ks y := List.filter_cons_of_neg (by simp [e'])
      have a3 : ndV (q :: ks) (v :: vs) y = ndV ks vs y := by
        unfold ndV
        rw [List.zip_cons_cons, List.filter_cons_of_neg (by simp [e'])]
      rw [a1, a2, a3]
      exact ih
    · have e' : ¬ nD q = nD y := fun z => e (by rw [k1, ey] at z; exact Option.some.inj z)
      have a1 : nwo (p :: kvs) k = p :: nwo kvs k := List.filter_cons_of_pos (by simp [e])
      have a2 : ndK (q :: ks) y = q :: ndK ks y := List.filter_cons_of_pos (by simp [e'])
      have a3 : ndV (q :: ks) (v :: vs) y = v :: ndV ks vs y := by
        unfold ndV
        rw [List.zip_cons_cons, List.filter_cons_of_pos (by simp [e'])]
        rfl
      rw [a1, a2, a3]
      refine ⟨by rw [List.map_cons, List.map_cons, k1, ih.ke], fun r hr => ?_, ?_, .cons r1 ih.rk, .cons r3 ih.rv⟩
      · rcases List.mem_cons.mp hr with rfl | hr
        · exact h.dp _ List.mem_cons_self
        · exact ih.dp r hr
      · rw [List.map_cons]
        refine List.nodup_cons.mpr ⟨fun z => d1 ?_, ih.nd⟩
        obtain ⟨r, hr, er⟩ := List.mem_map.mp z
        exact List.mem_map.mpr ⟨r, (List.mem_filter.mp hr).1, er⟩
section
variable {X : Cx} {Γ : Sig} {al0 : List Addr} {H0 : Hp} {O Ob : List Nat} {o i : Expr} {pos tpos : Pos} {po pi' : LP.Env → M D}
end
end LP.LM
/-! d[k] op= e of things of the store. -/
namespace LP.LM
open PySem PySem.Spec PyProof.Rows L2 PK RZ
section
variable {X : Cx} {Γ : Sig} {al0 : List Addr} {H0 : Hp} {O Ob : List Nat} {o i e : Expr} {pos tpos : Pos} {po pi' pa : LP.Env → M D} {op : Operator} {f : Int → Int → Int}
end
end LP.LM
/-! x[i] op= e of a list of the store, i from 0 on. -/
namespace LP.LM
open PySem PySem.Spec PyProof.Rows L2 PK RZ
section
variable {X : Cx} {Γ : Sig} {al0 : List Addr} {H0 : Hp} {O Ob : List Nat} {o i e : Expr} {pos tpos : Pos} {po pi' pa : LP.Env → M D} {op : Operator} {f : Int → Int → Int}
end
end LP.LM
/-! An instance that is a thing of the store: made, its attributes written one behind the other. -/
namespace LP.LM
open PySem PySem.Spec PyProof.Rows L2 PK RZ
section
variable {X : Cx} {Γ : Sig} {al0 : List Addr} {H0 : Hp} {O Ob : List Nat} {o e : Expr} {pos tpos : Pos} {po pa : LP.Env → M D} {c : Nat} {C : Addr} {f : Str}
end
end LP.LM
/-! A tuple with its places. -/
namespace PK
open PySem PySem.Spec PyProof.Rows L2
/-- how far a walk with places over t is: e hands the pairs out, i the items -/
structure Far (t e i : Addr) (k : Nat) (h : Heap) : Prop where
  out : ∃ v, IsEnum h e i ((k : Nat) : Int) v
  inn : h.IsTupleIter i t k
theorem Far.cls {t e i : Addr} {k : Nat} {h : Heap} (f : Far t e i k h) : ∀ b ∈ [e, i], ∃ o, h.get? b = some o ∧ ∀ v, o.data ≠ .cell v := by
  have a : ∃ o, h.get? e = some o ∧ ∀ v, o.data ≠ .cell v := by
    obtain ⟨v, h1⟩ := f.out
    exact ⟨_, h1, fun _ => Data.noConfusion⟩
  have b : ∃ o, h.get? i = some o ∧ ∀ v, o.data ≠ .cell v := by
    obtain ⟨o, h1, _, h2⟩ := f.inn
    exact ⟨o, h1, fun v z => Data.noConfusion (h2.symm.trans z)⟩
  intro x hx
  rcases List.mem_cons.mp hx with rfl | hx
  · exact a
  · rw [List.mem_singleton.mp hx]
    exact b
theorem Far.same {t e i : Addr} {k : Nat} {h h' : Heap} (f : Far t e i k h) (hk : ∀ b ∈ [e, i], ∀ o, h.get? b = some o → h'.get? b = some o) : Far t e i k h' := by
  obtain ⟨v, h1⟩ := f.out
  exact ⟨⟨v, hk e List.mem_cons_self _ h1⟩, f.inn.at fun o z => hk i (List.mem_cons_of_mem _ List.mem_cons_self) o z⟩
end PK
namespace LP
open PySem PySem.Spec PyProof.Rows L2 PK RZ
/-! ### a tuple, with its places -/
section
variable {X : Cx} {Ξ : Ctx} {H0 : Hp} {O : List Nat} {e : Expr} {ps : Env → W (List D)}
end
end LP
/-! {key: thing for target in iter if ..}, the keys tuples. -/
namespace PK
open PySem PySem.Spec PyProof.Rows L2
section
variable {X : Cx} {pins : List (Addr × Obj)} {σ : L2.St} {H : Hp} {s : Shared}
end
end PK
/-! Comprehensions of any kind (lists, dicts), over things of the store too: while one runs, what is walked stays as it is. -/
namespace LP.LM
open PySem PySem.Spec PyProof.Rows L2 PK RZ
abbrev Plan := List D × (Sto → Prop)
structure WkS (Γ : Sig) (al : List Addr) (H : Hp) (J : It) (gh : List (V × D)) (ds : List D) (c : Sto → Prop) : Prop where
  goes : ∀ (al2 : List Addr) (s2 : Sto) (M : List Addr) (H2 : Hp) (i : Nat), Later al H al2 H2 → Stands Γ al2 s2 M H2 → Mu M H2 → (∀ x ∈ gh, Rp (Ca Γ al2) (PK.ms M H2) x.1 x.2) → c s2 → i < ds.length → J.go i H2
  stops : ∀ (al2 : List Addr) (s2 : Sto) (M : List Addr) (H2 : Hp), Later al H al2 H2 → Stands Γ al2 s2 M H2 → Mu M H2 → (∀ x ∈ gh, Rp (Ca Γ al2) (PK.ms M H2) x.1 x.2) → c s2 → J.stop ds.length H2
  yields : ∀ (al2 : List Addr) (s2 : Sto) (M : List Addr) (H2 : Hp) (i : Nat) (x : V) (H3 : Hp), Later al H al2 H2 → Stands Γ al2 s2 M H2 → Mu M H2 → (∀ x ∈ gh, Rp (Ca Γ al2) (PK.ms M H2) x.1 x.2) → c s2 → i < ds.length → J.yld i H2 x H3 → Same H2 H3 ∧ ∃ d, ds[i]? = some d ∧ Rp (Ca Γ al2) (PK.ms M H3) x d
section
variable {Γ : Sig} {al0 : List Addr} {H0 : Hp} {O : List Nat}
theorem Later.out {al al' : List Addr} {H H' : Hp} (x : Later al H al' H') {D : Addr} {o : HO} (n : D ∉ al) (e : H D = some o) : H' D = some o ∧ D ∉ al' := ⟨x.gr _ _ n e, fun z => by
  obtain ⟨be, rfl, nb⟩ := x.ex
  rcases List.mem_append.mp z with z | z
  · exact n z
  · rw [(nb _ z).1] at e
    cases e⟩
theorem Obj.later {al al' : List Addr} {H H' : Hp} {S : List Addr} {A : List (Nat × Addr)} {D : Addr} {o : HO} {d : LP.D} (h : Obj Γ al D (PK.ms (msk S al A) H) o d) (x : Later al H al' H') : Obj Γ al' D (PK.ms (msk S al' A) H') o d := Obj.alm (fun _ _ h => x.at_ h) x.mks h
/-! ### what is walked -/
section
variable {X : Cx} {tg e : Expr} {pa : LP.Env → M D} {ps : LP.Env → M (List D)}
end
/-! ### what is collected -/
end
/-! ### the rules -/
section
variable {X : Cx} {Γ : Sig} {al0 : List Addr} {H0 : Hp} {O O' Ob : List Nat} {pos : Pos} {kx elt tg iter : Expr} {ifs : List Expr} {scope : Scope} {own : List (Str × Nat)} {pi : LP.Env → M Plan} {gW : D → LP.Env → W LP.Env} {tW : LP.Env → M Bool} {kW eW : LP.Env → M D}
end
end LP.LM
/-! Is a thing made of tuples among the things of a list? -/
namespace PK
open PySem PySem.Spec PyProof.Rows L2
section
variable {X : Cx} {pins : List (Addr × Obj)} {σ : L2.St} {H : Hp} {s : Shared}
mutual
/-- what a value stands for is told by the value, for things made of tuples -/
theorem Dp.one (I : Inv X pins σ H s) : ∀ {d e : PyData} {v : V}, flatT d = true → flatT e = true → Dp X.K H v d → Dp X.K H v e → d = e
  | .none, e, v, _, fe, h1, h2 => by
    cases h1
    cases h2
    rfl
  | .bool _, e, v, _, fe, h1, h2 => by
    cases h1
    cases h2
    rfl
  | .int _, e, v, _, fe, h1, h2 => by
    cases h1
    cases h2
    rfl
  | .str _, e, v, _, fe, h1, h2 => by
    cases h1
    cases h2
    rfl
  | .list _, _, _, fd, _, _, _ => by simp [flatT] at fd
  | .dict _, _, _, fd, _, _, _ => by simp [flatT] at fd
  | .tuple ds, e, v, fd, fe, h1, h2 => by
    obtain ⟨b, xs, rfl, q1, a1⟩ := PK.Dp.tupE h1
    cases h2 with
    | lst _ _ => simp [flatT] at fe
    | tup q2 a2 =>
      rw [I.tuple_inj q2 q1] at a2
      rw [DpAll.one I (by simpa [flatT] using fd) (by simpa [flatT] using fe) a1 a2]
theorem DpAll.one (I : Inv X pins σ H s) : ∀ {ds es : List PyData} {vs : List V}, flatTs ds = true → flatTs es = true → DpAll X.K H vs ds → DpAll X.K H vs es → ds = es
  | [], [], _, _, _, .nil, .nil => rfl
  | _ :: _, [], _, _, _, .cons _ _, h => nomatch h
  | [], _ :: _, _, _, _, .nil, h => nomatch h
  | d :: ds, e :: es, _, fd, fe, .cons h1 h2, .cons k1 k2 => by
    simp only [flatTs, Bool.and_eq_true] at fd fe
    rw [Dp.one I fd.1 fe.1 h1 k1, DpAll.one I fd.2 fe.2 h2 k2]
end
end
end PK
/-! Is a thing made of tuples among the things of a list? -/
namespace LP
open PySem PySem.Spec PyProof.Rows L2 PK RZ
section
variable {X : Cx} {Ξ : Ctx} {H0 : Hp} {O : List Nat} {a b : Expr} {pa pb : Env → W D} {pos : Pos}
end
end LP
/-! x not in range(n). -/
namespace LP
open PySem PySem.Spec PyProof.Rows L2 PK RZ
section
variable {X : Cx} {Ξ : Ctx} {H0 : Hp} {O : List Nat} {a b e : Expr} {pa pb : Env → W D} {pos p pp : Pos} {ta : TE} {tr : L2.St → Hp → (Int → Int → Hp → Prop) → Prop}
end
end LP
/-! Calls of a def whose defaults are any constants. -/
namespace LP
open PySem PySem.Spec PyProof.Rows L2 PK RZ
/-- constants: what they are in the memory, by value -/
inductive DV where
  | non
  | bl (b : Bool)
def DV.v : DV → V
  | .non => .non
  | .bl b => .bl b
def DV.d : DV → D
  | .non => .non
  | .bl b => .bl b
structure CalD (Γ : Sig) (mg : Str → Option Value) (base : Heap) (k : Nat) (x : Str) (f : Addr) (fd : FuncData) (ps : List Str) (n : Nat) (ks : List Str) (a b : List DV) (p : List D → W D) : Prop where
  ok : FnOk Γ.P Γ.w Γ.K mg base CX0 k f fd ps (liF Γ p)
  g : mg x = some (.ref f)
  kp : PySem.W.keepIn Γ.K (.ref f) = true
  b : KB Γ.K fd ps n ks fun vs zs => vs ++ (a.map DV.v ++ (zs ++ b.map DV.v))
section
variable {X : Cx} {Γ : Sig} {fe : Fd} {H0 : Hp} {O : List Nat} {k n : Nat} {a b : List DV} {f : Addr} {fd : FuncData} {ps ks : List Str} {e : Expr} {es : List Expr} {kws : List Keyword} {x : Str} {pp pos : Pos} {p : List D → W D} {pa pk : Env → W (List D)} {mg : Str → Option Value} {base : Heap}
end
end LP
/-! More of things of the store: {} as a value, list(d), y in d for keys that are numbers, names set to comprehensions over things of the store. -/
namespace LP.LM
open PySem PySem.Spec PyProof.Rows L2 PK RZ
def inK (neg : Bool) (d y : D) : M D := (tokM d).bind fun k => (look k).bind fun x => match x with
  | .dct ks vs => (M.lift (optW (kOf y))).bind fun _ => M.ret (.bl (neg.xor (dget ks vs y).isSome))
  | _ => M.fail
section
variable {X : Cx} {Γ : Sig} {al0 : List Addr} {H0 : Hp} {O O' Ob : List Nat} {o e i tg : Expr} {pos cpos : Pos} {po pa pi' : LP.Env → M D} {ps : LP.Env → M (List D)}
theorem inK_core {neg : Bool} {n : Nat} {al : List Addr} {s : Sto} {M' : List Addr} {H : Hp} {u v : V} {y : D} {Q : D → Sto → Prop} {E : Ex → Sto → Prop} (st : Stands Γ al s M' H) (hv : Rp (Ca Γ al) (PK.ms M' H) v (.tok (n + 1))) (hu : Rp (Ca Γ al) (PK.ms M' H) u y) (k : (inK neg (.tok (n + 1)) y).wp Q E s) :
    ∃ a o, v = .ref a ∧ DGet H a u o ∧ Q (.bl (neg.xor o.isSome)) s := by
  obtain ⟨x, ex, k⟩ := (show ((look n).bind _).wp Q E s from k)
  cases x <;> try exact k.elim
  obtain ⟨key, ek, k⟩ := optW_wp k
  obtain ⟨a, rfl, ha⟩ := tok_at hv
  obtain ⟨kvs, e0, rfl, _, _, hrr⟩ := st.dct ha ex
  obtain ⟨rfl, _, _⟩ := key_of hu ek
  refine ⟨a, _, rfl, DGet.k e0, ?_⟩
  cases ed : dget (kvs.map fun p => keyD p.1) _ y with
  | none =>
    rw [valV_none ek hrr ed]
    rw [ed] at k
    exact k
  | some d =>
    obtain ⟨w, ew, _⟩ := valV_dget ek hrr ed
    rw [ew]
    rw [ed] at k
    exact k
section
variable {elt iter : Expr} {ifs : List Expr} {scope : Scope} {own : List (Str × Nat)} {pi : LP.Env → M Plan} {gW : D → LP.Env → W LP.Env} {tW : LP.Env → M Bool} {eW : LP.Env → M D}
end
end
end LP.LM
/-! Own classes whose instances are things of the store, bundled; a name set to a dict comprehension. -/
namespace LP
open PySem PySem.Spec PyProof.Rows L2 PK RZ
section
variable {X : Cx}
end
namespace LM
/-- such a class: its number, its address, its attributes in the order in which they are written -/
structure ICls (Γ : Sig) (c : Nat) (C : Addr) (fl : List Str) : Prop where
  cls : Cls Γ.K C
  cl : Γ.cl c = some C
  at_ : Γ.fl c = fl
  na : ∀ f ∈ fl, NoAttr Γ.K C f
structure MkC (Γ : Sig) (mg : Str → Option Value) (base : Heap) (k : Nat) (c : Nat) (C : Addr) (x : Str) (f : Addr) (fd : FuncData) (ps : List Str) (p : List D → M D) : Prop where
  made : Mk Γ.K C f
  ok : FnOk Γ.P Γ.w Γ.K mg base CX0 k f fd ps (liF Γ p)
  b : Binds Γ.K fd ps []
  g : mg x = some (.ref C)
  cl : Γ.cl c = some C
section
variable {X : Cx} {Γ : Sig} {al0 : List Addr} {H0 : Hp} {O O' Ob : List Nat} {k c : Nat} {C : Addr} {fl : List Str} {f : Str} {o e : Expr} {es : List Expr} {pos tpos : Pos} {po pa : LP.Env → M D}
section
variable {kx elt tg iter : Expr} {ifs : List Expr} {scope : Scope} {own : List (Str × Nat)} {pi : LP.Env → M Plan} {gW : D → LP.Env → W LP.Env} {tW : LP.Env → M Bool} {kW eW : LP.Env → M D}
end
end
end LM
namespace LM
/-! tests: is it in a dict of the store -/
section
variable {X : Cx} {Γ : Sig} {al0 : List Addr} {H0 : Hp} {O : List Nat} {o i : Expr} {pos : Pos} {po pi' : LP.Env → M D}
theorem lt_of {e : Expr} {p : LP.Env → M D} {t : TE} (h : PT X e (tB t)) (w : ∀ σ H Q, liE Γ al0 H0 O p σ H Q → t σ H Q) : LT Γ al0 H0 O X e fun env => (p env).bind asBM :=
  wkT h fun σ H Q ⟨S, A, G, env, E, al, s, hA, r, q⟩ => w σ H _ ⟨S, A, G, env, E, al, s, hA, r, (p env).mono (fun d s' k v H' al' x st hv => by
    obtain ⟨b, rfl, k⟩ := asBM_wp k
    cases hv
    exact ⟨b, rfl, k H' al' x st⟩) (fun _ _ z => z) q⟩
theorem notinK_reads : ∀ σ H Q, liE Γ al0 H0 O (fun env => (pi' env).bind fun y => (po env).bind fun d => inK true d y) σ H Q → tDNotIn (liE Γ al0 H0 O pi') (liE Γ al0 H0 O po) σ H Q := fun σ H Q ⟨S, A, G, env, E, al, s, hA, r, q⟩ => by
  refine ⟨S, A, G, env, E, al, s, hA, r, (pi' env).mono (fun y s1 k u H1 al1 x1 st1 hu => ?_) (fun _ _ z => z) q⟩
  refine ⟨S, A, G, env, E, al1, s1, hA, r.later x1 st1, (po env).mono (fun d s2 k v H2 al2 x2 st2 hv => ?_) (fun _ _ z => z) k⟩
  obtain ⟨n, rfl, k'⟩ := tokM_wp k
  obtain ⟨a, o, rfl, g, k⟩ := inK_core st2 hv (hu.later x2) k
  rw [Bool.true_xor] at k
  exact ⟨a, o, rfl, g, k _ H2 al2 (x1.trans x2) st2 (.bl _)⟩
theorem lt_notinK {k : Nat} (hr : Room k X.A) (hi : LE Γ al0 H0 O X i pi') (ho : LE Γ al0 H0 O X o po) (hm : behindInMarks .NotIn o = false) :
    LT Γ al0 H0 O X (.Compare i [.NotIn] [o] pos) fun env => ((pi' env).bind fun y => (po env).bind fun d => inK true d y).bind asBM := lt_of (pt_cmp (pc_dnotin (by have := room9 hr; omega) hi ho) hm) notinK_reads
end
end LM
end LP
/-! {} as a thing of the store whose keys are texts; is it {}; x.extend(e) of a list of the store. -/
namespace LP.LM
open PySem PySem.Spec PyProof.Rows L2 PK RZ
section
variable {X : Cx} {Γ : Sig} {al0 : List Addr} {H0 : Hp} {O O' Ob : List Nat} {e o : Expr} {pos : Pos} {po pa : LP.Env → M D}
theorem le_newK0 : LE Γ al0 H0 O X (.Dict [] [] pos) fun _ => alloc (.dct [] []) :=
  wkE pe_dnewK fun σ H Q ⟨S, A, G, env, E, al, s, hA, r, k⟩ l nl => by
    have nal : l ∉ al := r.outN nl
    obtain ⟨x', st', ht⟩ := r.allocO (l := l) (d := .dct [] []) (Later.of (same_new (Same.refl H) nl)) (r.st.mask nl) nl nal upd_same ⟨[], [], .dK (ps := []) rfl (fun _ h => (nomatch h)) .nil, .nil⟩
    exact k (.ref l) _ _ x' st' ht
end
section
variable {X : Cx} {Γ : Sig} {al0 : List Addr} {H0 : Hp} {O O' Ob : List Nat} {e o : Expr} {pos : Pos} {po pa : LP.Env → M D}
end
end LP.LM
/-! d.setdefault(y, z) of a dict of the store whose keys are numbers and texts. -/
namespace LP.LM
open PySem PySem.Spec PyProof.Rows L2 PK RZ
def setdS (d y z : D) : M D := (tokM d).bind fun k => (look k).bind fun x => match x with
  | .dct ks vs => (M.lift (optW (kOf y))).bind fun _ => (M.want (ks.length < sizeLine)).bind fun _ => match dget ks vs y with
    | some u => M.ret u
    | none => (store k (.dct (dputK ks y) (dputV ks vs y z))).bind fun _ => M.ret z
  | _ => M.fail
section
variable {X : Cx} {Γ : Sig} {al0 : List Addr} {H0 : Hp} {O : List Nat} {o e f : Expr} {apos cpos : Pos} {po pa pb : LP.Env → M D}
theorem le_setdS (ho : LE Γ al0 H0 O X o po) (he : LE Γ al0 H0 O X e pa) (hf : LE Γ al0 H0 O X f pb) (m : M2 X o "setdefault" apos e f cpos) :
    LE Γ al0 H0 O X (.Call (.Attribute o "setdefault" apos) [e, f] [] cpos) fun env => (po env).bind fun d => (dctAt d).bind fun _ => (pa env).bind fun y => (pb env).bind fun z => setdS d y z := by
  refine wkE (pe_dsetd ho he hf m) fun σ H Q ⟨S, A, G, env, E, al, s, hA, r, q⟩ => ?_
  refine ⟨S, A, G, env, E, al, s, hA, r, (po env).mono (fun d s1 k v H1 al1 x1 st1 hv => ?_) (fun _ _ z => z) q⟩
  have r1 := r.later x1 st1
  obtain ⟨n, rfl, x, ex, k⟩ := tokM_wp (show ((tokM d).bind _).wp _ _ _ from k)
  obtain ⟨a, rfl, ha⟩ := tok_at hv
  cases x <;> try exact k.elim
  obtain ⟨kvs, e0, _, _, _, _⟩ := st1.dct ha ex
  refine ⟨a, rfl, .inl ⟨kvs, .inl e0⟩, S, A, G, env, E, al1, s1, hA, r1, (pa env).mono (fun y s2 k u H2 al2 x2 st2 hu => ?_) (fun _ _ z => z) k⟩
  have r2 := r1.later x2 st2
  refine ⟨S, A, G, env, E, al2, s2, hA, r2, (pb env).mono (fun z s3 k w H3 al3 x3 st3 hz => ?_) (fun _ _ z => z) k⟩
  obtain ⟨x, ex, k⟩ := (k : ((look n).bind _).wp _ _ _)
  have ha3 := x3.at_ (x2.at_ ha)
  cases x <;> try exact k.elim
  rename_i ks vs
  obtain ⟨key, ek, hl, k⟩ := optW_wp k
  obtain ⟨kvs3, e3, rfl, ok, pw, hrr⟩ := st3.dct ha3 ex
  obtain ⟨rfl, sk, eky⟩ := key_of (hu.later x3) ek
  rw [List.length_map] at hl
  refine ⟨kvs3, key, e3, rfl, hl, fun u hu3 => ?_, fun hn => ?_⟩
  · cases ed : dget (kvs3.map fun p => keyD p.1) vs y with
    | none =>
      rw [valV_none ek hrr ed] at hu3
      cases hu3
    | some d =>
      rw [ed] at k
      obtain ⟨v, ev, hvv⟩ := valV_dget ek hrr ed
      rw [ev] at hu3
      cases hu3
      exact k _ H3 al3 (x1.trans (x2.trans x3)) st3 hvv
  · cases ed : dget (kvs3.map fun p => keyD p.1) vs y with
    | some d =>
      obtain ⟨v, ev, hvv⟩ := valV_dget ek hrr ed
      rw [ev] at hn
      cases hn
    | none =>
      rw [ed] at k
      obtain ⟨q1, q2⟩ := putK_dput ek hz pw hrr
      have hal : a ∈ al3 := List.mem_of_getElem? ha3
      have hM : a ∈ msk S al3 A := mk_al hal
      refine k w _ al3 ((x1.trans (x2.trans x3)).trans (Later.upd hal e3)) (st3.put (fun b hb => mk_al hb) ha3 ⟨_, _, .dK ?_ (fun p hp z ez => ?_) (putK_pw pw), q2⟩) ?_
      · rw [← eky]
        exact q1.symm
      · rcases putK_mem hp with e | ⟨q, hq, e⟩
        · exact sk z (by rw [← e, ez])
        · exact ok q hq z (by rw [e, ez])
      · rw [ms_upd hM]
        exact hz
end
end LP.LM
/-! repr of an own object. -/
namespace LP
open PySem PySem.Spec PyProof.Rows L2 PK RZ
structure ReprV (Γ : Sig) (mg : Str → Option Value) (base : Heap) (k : Nat) (c : Nat) (C f : Addr) (fd : FuncData) (p : List D → W D) : Prop where
  ok : FnOk Γ.P Γ.w Γ.K mg base CX0 k f fd ["self"] (liF Γ p)
  fi : PySem.W.findIn Γ.K (.ref C) "__repr__" = some (some (.ref f))
  fn : PySem.W.isFn Γ.K (.ref f) = true
  b : Binds Γ.K fd ["self"] []
  cl : Γ.cl c = some C
section
variable {X : Cx} {Γ : Sig} {fe : Fd} {H0 : Hp} {O : List Nat} {k c : Nat} {C f : Addr} {fd : FuncData} {e : Expr} {po : Env → W D} {p : List D → W D} {mg : Str → Option Value} {base : Heap} {p0 pos : Pos}
end
end LP
/-! repr of a pair: an own thing that shows itself, and data. -/
namespace PK
open PySem PySem.Spec PyProof.Rows PySem.Calls
section
variable {prog : Program} {w : World} {A : Around} {E : Value → Shared → Prop} {s : Shared} {K : PySem.W.Frag} {a x C f : Addr} {o : Obj} {n : Nat} {u v : Value} {ox : Obj} {od : Option Obj}
end
end PK
/-! repr of a pair by value: an own object and data. -/
namespace LP
open PySem PySem.Spec PyProof.Rows L2 PK RZ
/-- the pair at a: the own thing at x, data d -/
structure PairAt (K : PySem.W.Frag) (C : Addr) (a x : Addr) (v : V) (d : PyData) (H : Hp) : Prop where
  tup : SqT K H a [.ref x, v]
  ins : ∃ dx fs, H x = some (.ins C dx fs)
  dp : Dp K H v d
section
variable {X : Cx} {Γ : Sig} {fe : Fd} {H0 : Hp} {O : List Nat} {k c : Nat} {C f : Addr} {fd : FuncData} {e : Expr} {po : Env → W D} {p : List D → W D} {mg : Str → Option Value} {base : Heap} {p0 pos : Pos}
end
end LP
/-! An own object in an f-string: its own __str__. -/
namespace LP
open PySem PySem.Spec PyProof.Rows L2 PK RZ
/-- the class says nothing of its own of formats -/
structure FmtC (K : PySem.W.Frag) (C : Addr) : Prop where
  fm : PySem.W.findIn K (.ref C) "__format__" = some (some (.builtin "object.__format__"))
  mr : PySem.W.mroIn K C (.type "object") = some true
section
variable {X : Cx} {Γ : Sig} {fe : Fd} {H0 : Hp} {O : List Nat} {k c : Nat} {C f : Addr} {fd : FuncData} {e : Expr} {po : Env → W D} {p : List D → W D} {mg : Str → Option Value} {base : Heap} {pos : Pos}
end
end LP
/-! repr of a list of one own thing that shows itself. -/
namespace PK
open PySem PySem.Spec PyProof.Rows PySem.Calls
section
variable {prog : Program} {w : World} {A : Around} {E : Value → Shared → Prop} {s : Shared} {K : PySem.W.Frag} {l : Addr} {ol : Obj} {n : Nat} {u : Value}
end
end PK
/-! A heap beside what is none: ==, !=, either way about; its truth. -/
namespace PK
open PySem PySem.Spec PyProof.Rows L2
/-- of a built-in kind -/
inductive KindB (K : PySem.W.Frag) (H : Hp) : V → String → Prop
  | non : KindB K H .non "NoneType"
  | bl (b : Bool) : KindB K H (.bl b) "bool"
  | int (i : Int) : KindB K H (.int i) "int"
  | str (y : Str) : KindB K H (.str y) "str"
  | tup {a : Addr} {xs : List V} : SqT K H a xs → KindB K H (.ref a) "tuple"
  | lst {a : Addr} {xs : List V} : H a = some (.lst xs) → KindB K H (.ref a) "list"
/-- what the class must say: it stands below none of these -/
structure Apart6 (K : PySem.W.Frag) (C : Addr) : Prop where
  non : PySem.W.mroIn K C (.type "NoneType") = some false
  bl : PySem.W.mroIn K C (.type "bool") = some false
  int : PySem.W.mroIn K C (.type "int") = some false
  str : PySem.W.mroIn K C (.type "str") = some false
  tup : PySem.W.mroIn K C (.type "tuple") = some false
  lst : PySem.W.mroIn K C (.type "list") = some false
  hd : PySem.W.hasDictIn K C = true
  ty : PySem.W.typeIn K (.ref C) = some (.type "type")
section
variable {X : Cx} {pins : List (Addr × Obj)} {σ : L2.St} {H : Hp} {s : Shared} {y : V} {v : Value} {T : String} {K : PySem.W.Frag} {C : Addr}
theorem KindB.mro (h : KindB K H y T) (a : Apart6 K C) : PySem.W.mroIn K C (.type T) = some false := by
  cases h
  · exact a.non
  · exact a.bl
  · exact a.int
  · exact a.str
  · exact a.tup
  · exact a.lst
theorem KindB.typeIs (h : KindB X.K H y T) (I : Inv X pins σ H s) (r : RelV y v) : s.TypeIs v T := by
  cases h with
  | non => cases (show v = Value.none from r); rfl
  | bl b => cases (show v = Value.bool b from r); rfl
  | int i => obtain ⟨t, rfl⟩ := (show ∃ t, v = Value.int i t from r); exact typeIs_int s i t
  | str z => obtain ⟨t, rfl⟩ := (show ∃ t, v = Value.str z t from r); exact typeIs_str s z t
  | @tup a xs q =>
    cases (show v = Value.ref a from r)
    obtain ⟨_, _, ⟨o, h1, h2, _⟩, _⟩ := I.tuple q
    exact ⟨o, h1, h2⟩
  | @lst a xs q =>
    cases (show v = Value.ref a from r)
    obtain ⟨_, _, n, _, h1⟩ := (show ObjOk X.prog X.w H s.heap a (.lst xs) from I.hok a _ q)
    exact ⟨_, h1, rfl⟩
theorem KindB.sub (h : KindB K H y T) : PySem.W.subIn K (.type T) (.ref C) = some false := by
  cases h <;> rfl
end
section
variable {X : Cx} {k : Nat} {C f : Addr} {fd : FuncData}
end
/-! ### a built-in kind's == declines an own thing -/
section
variable {M : Model} {A : Around} {E : Value → Shared → Prop} {s : Shared} {K : PySem.W.Frag} {C p dx : Addr} {T : String} {ox : Obj} {od : Option Obj}
theorem notInst {Q : Bool → Shared → Prop} (X : K.In s.heap) (J : PySem.W.InstAt s.heap p ox C od) (e : PySem.W.mroIn K C (.type T) = some false) (q : Q false s) : wpAny M A (isInstance (.ref p) (.type T)) Q E s := by
  unfold isInstance
  exact wpAny_bind (J.type.here ((PySem.W.looks_mroIn X e).here q))
theorem non_declines (l : Addr) : Meets (Builtin.«NoneType.__eq__» ⟨[.none, .ref l], []⟩) (fun _ R s => R (.ok (.ret .notImplemented)) s) :=
  .of_wp fun prog w A R s h => by obtain ⟨hp, g, d, tk, os⟩ := s; wp_walk; exact ⟨_, rfl, h⟩
theorem int_declines (v : Value) (hv : (∃ i t, v = .int i t) ∨ ∃ b, v = .bool b) (C l dx : Addr) : Meets (Builtin.«int.__eq__» ⟨[v, .ref l], []⟩) (fun _ R s => s.heap.get? l = some (PySem.W.instObj C dx) ∧ R (.ok (.ret .notImplemented)) s) :=
  .of_wp fun prog w A R s h => by
    obtain ⟨hp, g, d, tk, os⟩ := s
    obtain ⟨hl, h⟩ := h
    unfold PySem.W.instObj at hl
    rcases hv with ⟨i, t, rfl⟩ | ⟨b, rfl⟩
    · wp_walk using wpAny_loadPart' hl
      exact ⟨_, rfl, h⟩
    · wp_walk using wpAny_loadPart' hl
      exact ⟨_, rfl, h⟩
theorem str_declines (z : Str) (t : Tok) (C l dx : Addr) : Meets (Builtin.«str.__eq__» ⟨[.str z t, .ref l], []⟩) (fun _ R s => s.heap.get? l = some (PySem.W.instObj C dx) ∧ R (.ok (.ret .notImplemented)) s) :=
  .of_wp fun prog w A R s h => by
    obtain ⟨hp, g, d, tk, os⟩ := s
    obtain ⟨hl, h⟩ := h
    unfold PySem.W.instObj at hl
    wp_walk using wpAny_loadPart' hl
    exact ⟨_, rfl, h⟩
theorem tup_declines (l : Addr) {p C : Addr} {ox : Obj} {od : Option Obj} {K : PySem.W.Frag} (e : PySem.W.mroIn K C (.type "tuple") = some false) : Meets (Builtin.«tuple.__eq__» ⟨[.ref l, .ref p], []⟩) (fun _ R s => K.In s.heap ∧ PySem.W.InstAt s.heap p ox C od ∧ R (.ok (.ret .notImplemented)) s) :=
  .of_wp fun prog w A R s h => by
    obtain ⟨hx, J, h⟩ := h
    refine wpAny_bind (m := slotArgs "__eq__" 1 ⟨[Value.ref l, .ref p], []⟩) (wpAny_of_eq (a := ((Value.ref l : Value), [Value.ref p])) (by first | rfl | (simp only [slotArgs]; rfl)) ?_)
    refine wpAny_bind (m := isInstance (.ref p) (.type "tuple")) (notInst hx J e ?_)
    exact wpAny_pure ⟨_, rfl, h⟩
theorem lst_declines (l : Addr) {p C : Addr} {ox : Obj} {od : Option Obj} {K : PySem.W.Frag} (e : PySem.W.mroIn K C (.type "list") = some false) : Meets (Builtin.«list.__eq__» ⟨[.ref l, .ref p], []⟩) (fun _ R s => K.In s.heap ∧ PySem.W.InstAt s.heap p ox C od ∧ R (.ok (.ret .notImplemented)) s) :=
  .of_wp fun prog w A R s h => by
    obtain ⟨hx, J, h⟩ := h
    refine wpAny_bind (m := slotArgs "__eq__" 1 ⟨[Value.ref l, .ref p], []⟩) (wpAny_of_eq (a := ((Value.ref l : Value), [Value.ref p])) (by first | rfl | (simp only [slotArgs]; rfl)) ?_)
    refine wpAny_bind (m := isInstance (.ref p) (.type "list")) (notInst hx J e ?_)
    exact wpAny_pure ⟨_, rfl, h⟩
end
section
variable {X : Cx} {pins : List (Addr × Obj)} {σ : L2.St} {H : Hp} {s : Shared} {y : V} {v : Value} {T : String} {C p : Addr} {L : List PRow} {E : Value → Shared → Prop}
theorem KindB.declines {Q : Option Value → Shared → Prop} {A : Around} (h : KindB X.K H y T) (I : Inv X pins σ H s) (r : RelV y v) (hp : HeapAt X.K C H p L) (ap : Apart6 X.K C) (q : Q none s) : wpAny (model X.prog X.w) A (tryCompare v "__eq__" (.ref p)) Q E s := by
  have ty := h.typeIs I r
  obtain ⟨ox, od, J⟩ := hp.inst I
  have J0 := J
  have at_ : ∃ dx, s.heap.get? p = some (PySem.W.instObj C dx) := by
    obtain ⟨dx, t, e1, _⟩ := hp
    obtain ⟨_, _, _, e, _⟩ := (show ObjOk X.prog X.w H s.heap p (.ins C dx _) from I.hok p _ e1)
    exact ⟨dx, e⟩
  obtain ⟨dx, at_⟩ := at_
  cases h with
  | non =>
    cases (show v = Value.none from r)
    exact wpAny_tryCompare_declines ty F.slot_NoneType_eq (call_meets F.slot_NoneType_eq ty F.entry_NoneType_eq (F.args_NoneType_eq_2 _ _) (non_declines p) ⟨rfl, q⟩)
  | bl b =>
    cases (show v = Value.bool b from r)
    exact wpAny_tryCompare_declines ty F.slot_bool_eq (call_meets F.slot_bool_eq ty F.entry_int_eq (F.args_int_eq_2 _ _) (int_declines _ (.inr ⟨b, rfl⟩) C p dx) ⟨at_, rfl, q⟩)
  | int i =>
    obtain ⟨t, rfl⟩ := (show ∃ t, v = Value.int i t from r)
    exact wpAny_tryCompare_declines ty F.slot_int_eq (call_meets F.slot_int_eq ty F.entry_int_eq (F.args_int_eq_2 _ _) (int_declines _ (.inl ⟨i, t, rfl⟩) C p dx) ⟨at_, rfl, q⟩)
  | str z =>
    obtain ⟨t, rfl⟩ := (show ∃ t, v = Value.str z t from r)
    exact wpAny_tryCompare_declines ty F.slot_str_eq (call_meets F.slot_str_eq ty F.entry_str_eq (F.args_str_eq_2 _ _) (str_declines _ _ C p dx) ⟨at_, rfl, q⟩)
  | @tup a xs z =>
    cases (show v = Value.ref a from r)
    exact wpAny_tryCompare_declines ty F.slot_tuple_eq (call_meets F.slot_tuple_eq ty F.entry_tuple_eq (F.args_tuple_eq_2 _ _) (tup_declines a ap.tup) ⟨I.kIn, J, rfl, q⟩)
  | @lst a xs z =>
    cases (show v = Value.ref a from r)
    exact wpAny_tryCompare_declines ty F.slot_list_eq (call_meets F.slot_list_eq ty F.entry_list_eq (F.args_list_eq_2 _ _) (lst_declines a ap.lst) ⟨I.kIn, J, rfl, q⟩)
end
section
variable {X : Cx} {k : Nat} {C f : Addr} {fd : FuncData}
end
/-! ### the truth of a heap -/
section
variable {prog : Program} {w : World}
end
section
variable {X : Cx} {k : Nat} {C f : Addr} {fd : FuncData}
end
end PK
/-! A heap beside what is none; its truth; shown in a list, in a text. -/
namespace LP
open PySem PySem.Spec PyProof.Rows L2 PK RZ
section
variable {X : Cx} {Γ : Sig} {fe : Fd} {H0 : Hp} {O : List Nat} {k kq : Nat} {C fq : Addr} {fdq : FuncData} {a b e : Expr} {po pb pa' : Env → W D} {pa : Env → W (List D)} {mg : Str → Option Value} {base : Heap} {pos p0 : Pos}
/-! ### bool(heap) -/
/-! ### f'..' of a heap alone -/
/-! ### repr of a list of a heap -/
end
section
variable {X : Cx} {Γ : Sig} {fe : Fd} {H0 : Hp} {O : List Nat} {k c : Nat} {C f : Addr} {fd : FuncData} {e : Expr} {po : Env → W D} {p : List D → W D} {mg : Str → Option Value} {base : Heap} {p0 p1 pos : Pos}
end
end LP
/-! sorted of tuples that begin with two numbers, no two of them with the same two: whatever stands behind. -/
namespace PK
open PySem PySem.Spec PyProof.Rows L2
def pgLt (x y : Int × Int) : Bool := decide (x.1 < y.1 ∨ x.1 = y.1 ∧ x.2 < y.2)
@[reducible] def pgOrd : PyProof.Rows.KeyOrd where
  α := Int × Int
  blt := pgLt
  irrefl a := by
    unfold pgLt
    exact decide_eq_false (by omega)
  trans a b c h1 h2 := by
    unfold pgLt at *
    have h1 := of_decide_eq_true h1
    have h2 := of_decide_eq_true h2
    exact decide_eq_true (by omega)
  negTrans a b c h := by
    unfold pgLt at *
    have h := of_decide_eq_true h
    by_cases z : a.1 < b.1 ∨ a.1 = b.1 ∧ a.2 < b.2
    · exact .inl (decide_eq_true z)
    · exact .inr (decide_eq_true (by omega))
  total a b h1 h2 := by
    unfold pgLt at *
    have h1 := of_decide_eq_false h1
    have h2 := of_decide_eq_false h2
    exact Prod.ext (by omega) (by omega)
def pgKey : PyData → Option (Int × Int)
  | .tuple (.int a :: .int k :: _) => some (a, k)
  | _ => none
def pgK (d : PyData) : Int × Int := (pgKey d).getD (0, 0)
/-- the two numbers that a value begins with -/
def pgHead : List Value → Option (Int × Int)
  | .int a _ :: .int k _ :: _ => some (a, k)
  | _ => none
def pgOf (h : Heap) : Value → Option (Int × Int)
  | .ref p => (h.get? p).bind fun o => match o.data with
    | .seq vs _ => pgHead vs.toList
    | _ => none
  | _ => none
noncomputable def pgKind (h : Heap) (us : List Value) : PyProof.Rows.KeyKind where
  toKeyOrd := pgOrd
  keyOf v := open Classical in if v ∈ us then pgOf h v else none
  dflt := ((0, 0) : Int × Int)
theorem pgKind_in {h : Heap} {us : List Value} {v : Value} {a : Int × Int} (e : (pgKind h us).keyOf v = some a) : v ∈ us ∧ pgOf h v = some a := by
  classical
  have e : (if v ∈ us then pgOf h v else none) = some a := e
  split at e
  · exact ⟨‹_›, e⟩
  · cases e
theorem pgKind_of {h : Heap} {us : List Value} {v : Value} {a : Int × Int} (m : v ∈ us) (e : pgOf h v = some a) : (pgKind h us).keyOf v = some a := by
  classical
  show (if v ∈ us then pgOf h v else none) = some a
  rw [if_pos m]
  exact e
theorem pgOf_reads {h : Heap} {v : Value} {d : PyData} {as : List Addr} {a : Int × Int} (r : Reads h v d as) (e : pgKey d = some a) : pgOf h v = some a := by
  cases r with
  | @tuple p o vs n xs as ho hc hd hr =>
    match xs, hr, e with
    | .int i :: .int j :: xs, hr, e =>
      cases e
      generalize hl : vs.toList = l at hr
      cases hr with
      | cons r1 r2 =>
        cases r1
        cases r2 with
        | cons r3 r4 =>
          cases r3
          show (h.get? p).bind _ = _
          rw [ho]
          show (match o.data with | .seq vs _ => pgHead vs.toList | _ => none) = _
          rw [hd]
          show pgHead vs.toList = _
          rw [hl]
          rfl
  | _ => cases e
theorem pgOf_inv {h : Heap} {v : Value} {a : Int × Int} (e : pgOf h v = some a) : ∃ p o vs n t1 t2 r, v = .ref p ∧ h.get? p = some o ∧ o.data = .seq vs n ∧ vs.toList = .int a.1 t1 :: .int a.2 t2 :: r := by
  cases v with
  | ref p =>
    obtain ⟨o, ho, e⟩ := Option.bind_eq_some_iff.mp (show (h.get? p).bind _ = some a from e)
    split at e
    · rename_i vs n hd
      unfold pgHead at e
      split at e
      · rename_i i t1 j t2 r hl
        cases e
        exact ⟨p, o, vs, n, t1, t2, r, rfl, ho, hd, hl⟩
      · cases e
    · cases e
  | _ => cases e
section
variable {prog : Program} {w : World} {A : Around} {s : Shared} {b fin : Bool} {Q : Bool → Shared → Prop}
theorem kat_same : ∀ (l : List Value) (i : Nat), Q fin s → PySem.W.KatLex prog w A b fin Q (l.zip l) i s
  | [], _, q => PySem.W.kat_nil q
  | v :: l, i, q => PySem.W.kat_cons (PySem.SeqAt.EqAt.same v prog w _ _ (PySem.W.kat_yes (kat_same l (i + 1) q)))
theorem kat_int {x y : Int} {t u : Nat} {r : List (Value × Value)} {i : Nat} (hu : A.units < cLine) (q1 : x = y → PySem.W.KatLex prog w A b fin Q r (i + 1) s) (q2 : x ≠ y → Q (decide (x < y)) s) : PySem.W.KatLex prog w A b fin Q ((.int x t, .int y u) :: r) i s := by
  refine PySem.W.kat_cons (PySem.W.eqAt_alike (.int x) (.int y) A s _ _ _ _ (.int x t) (.int y u) rfl hu prog w _ _ ?_)
  by_cases e : x = y
  · have : PyData.eqv (.int x) (.int y) = true := by simp [PyData.eqv, e]
    rw [this]
    exact PySem.W.kat_yes (q1 e)
  · have : PyData.eqv (.int x) (.int y) = false := by simp [PyData.eqv, e]
    rw [this]
    refine PySem.W.kat_no (PySem.W.oneLt_alike (fun _ xs => by simp) (.int x t) (.int y u) rfl (by simp) hu ?_)
    rw [PySem.W.dataLt_int]
    exact q2 e
theorem at_one {α : Type} : ∀ {l : List α} {x y : α} {f : α → Option (Int × Int)} {a : Int × Int}, (l.map f).Nodup → x ∈ l → y ∈ l → f x = some a → f y = some a → x = y
  | z :: l, x, y, f, a, n, hx, hy, ex, ey => by
    obtain ⟨n1, n2⟩ := List.nodup_cons.mp n
    rcases List.mem_cons.mp hx with e1 | h1
    · rcases List.mem_cons.mp hy with e2 | h2
      · exact e1.trans e2.symm
      · exact absurd (List.mem_map.mpr ⟨y, h2, by rw [ey, ← ex, e1]⟩) n1
    · rcases List.mem_cons.mp hy with e2 | h2
      · exact absurd (List.mem_map.mpr ⟨x, h1, by rw [ex, ← ey, e2]⟩) n1
      · exact at_one n2 h1 h2 ex ey
/-- how two such values compare -/
theorem pg_lt {h : Heap} {us : List Value} (kp : ∀ p o, h.get? p = some o → s.heap.get? p = some o) (hn : (us.map (pgOf h)).Nodup) (hu : A.units < cLine) : H.LtAt prog w A s (pgKind h us) (tuples' true) := by
  intro E x y a c Q ha hb q
  obtain ⟨mx, kx⟩ := pgKind_in ha
  obtain ⟨my, ky⟩ := pgKind_in hb
  obtain ⟨p, o, vs, n, t1, t2, r, rfl, ho, hd, hl⟩ := pgOf_inv kx
  obtain ⟨p', o', vs', n', u1, u2, r', rfl, ho', hd', hl'⟩ := pgOf_inv ky
  refine PySem.W.kat_lt (kp _ _ ho) hd (kp _ _ ho') hd' ?_
  have q : Q (pgLt a c) s := q
  by_cases e : a = c
  · subst e
    have ev := at_one hn mx my kx ky
    cases ev
    rw [ho] at ho'
    cases ho'
    rw [hd] at hd'
    cases hd'
    have e1 : decide (vs.size < vs.size) = false := decide_eq_false (Nat.lt_irrefl _)
    rw [e1]
    have e2 : pgLt a a = false := pgOrd.irrefl a
    rw [e2] at q
    exact kat_same _ _ q
  · rw [hl, hl']
    refine kat_int hu (fun e1 => kat_int hu (fun e2 => absurd (Prod.ext e1 e2) e) fun e2 => ?_) fun e1 => ?_
    · have : pgLt a c = decide (a.2 < c.2) := by
        unfold pgLt
        rw [decide_eq_decide]
        omega
      rw [← this]
      exact q
    · have : pgLt a c = decide (a.1 < c.1) := by
        unfold pgLt
        rw [decide_eq_decide]
        omega
      rw [← this]
      exact q
end
/-! ### sorted(xs) -/
structure PgOk (ds : List PyData) : Prop where
  key : ∀ d ∈ ds, ∃ a k r, d = .tuple (.int a :: .int k :: r)
  one : (ds.map pgKey).Nodup
theorem PgOk.at_ {ds : List PyData} (h : PgOk ds) {d : PyData} (hd : d ∈ ds) : pgKey d = some (pgK d) := by
  obtain ⟨a, k, r, rfl⟩ := h.key d hd
  rfl
/-- by the two numbers -/
def srtP {α : Type} (k : α → PyData) (l : List α) : List α := l.mergeSort (PySem.W.sortLe pgOrd false fun x => pgK (k x))
theorem srtP_perm {α : Type} (k : α → PyData) (l : List α) : (srtP k l).Perm l := List.mergeSort_perm _ _
section
variable {X : Cx}
theorem each_heads {h : Heap} : ∀ {us : List Value} {bs : List (V × PyData)}, PySem.W.EachIs (fun v (b : V × PyData) => ∃ as, Reads h v b.2 as) us bs → PgOk (bs.map (·.2)) → us.map (pgOf h) = (bs.map (·.2)).map pgKey
  | _, _, .nil, _ => rfl
  | _, _, .cons (b := b) ⟨as, r⟩ t, ok => by
    have e1 := ok.at_ (d := b.2) List.mem_cons_self
    have e2 := pgOf_reads r e1
    have ih := each_heads t ⟨fun d hd => ok.key d (List.mem_cons_of_mem _ hd), (List.nodup_cons.mp ok.one).2⟩
    rw [List.map_cons, List.map_cons, List.map_cons, e2, e1, ih]
theorem each_pg {h : Heap} {us : List Value} {bs : List (V × PyData)} (e : PySem.W.EachIs (fun v (b : V × PyData) => ∃ as, Reads h v b.2 as) us bs) (ok : PgOk (bs.map (·.2))) : PySem.W.EachIs (fun v (b : V × PyData) => (pgKind h us).keyOf v = some (pgK b.2)) us bs := by
  have all : ∀ {ws : List Value} {cs : List (V × PyData)}, PySem.W.EachIs (fun v (b : V × PyData) => ∃ as, Reads h v b.2 as) ws cs → (∀ v ∈ ws, v ∈ us) → (∀ c ∈ cs, c.2 ∈ bs.map (·.2)) → PySem.W.EachIs (fun v (b : V × PyData) => (pgKind h us).keyOf v = some (pgK b.2)) ws cs := by
    intro ws cs g
    induction g with
    | nil => exact fun _ _ => .nil
    | cons hr _ ih =>
      intro h1 h2
      obtain ⟨as, r⟩ := hr
      exact .cons (pgKind_of (h1 _ List.mem_cons_self) (pgOf_reads r (ok.at_ (h2 _ List.mem_cons_self)))) (ih (fun v hv => h1 v (List.mem_cons_of_mem _ hv)) fun c hc => h2 c (List.mem_cons_of_mem _ hc))
  exact all e (fun _ h => h) fun c hc => List.mem_map.mpr ⟨c, hc, rfl⟩
theorem pg_first {h : Heap} : ∀ {us : List Value} {bs : List (V × PyData)}, PySem.W.EachIs (fun v (b : V × PyData) => ∃ as, Reads h v b.2 as) us bs → PgOk (bs.map (·.2)) → ∃ fs, PySem.W.KatTups h us fs ∧ fs.length = us.length ∧ ∀ f ∈ fs, ∃ i t, f = Value.int i t
  | _, _, .nil, _ => ⟨[], .nil, rfl, fun _ h => (nomatch h)⟩
  | _, _, .cons (b := b) ⟨as, r⟩ t, ok => by
    obtain ⟨fs, h1, h2, h3⟩ := pg_first t ⟨fun d hd => ok.key d (List.mem_cons_of_mem _ hd), (List.nodup_cons.mp ok.one).2⟩
    obtain ⟨p, o, vs, n, t1, t2, q, rfl, ho, hd, hl⟩ := pgOf_inv (pgOf_reads r (ok.at_ (d := b.2) List.mem_cons_self))
    generalize pgK b.2 = key at hl
    have hc : o.cls = .type "tuple" := by
      obtain ⟨a, k, z, e⟩ := ok.key b.2 List.mem_cons_self
      rw [e] at r
      cases r with
      | tuple ho' hc' _ _ =>
        rw [ho] at ho'
        cases ho'
        exact hc'
    have h0 : vs[0]? = some (.int key.1 t1) := by rw [← Array.getElem?_toList, hl]; rfl
    refine ⟨.int key.1 t1 :: fs, .cons ho hc hd h0 h1, by rw [List.length_cons, List.length_cons, h2], fun f hf => ?_⟩
    rcases List.mem_cons.mp hf with rfl | hf
    · exact ⟨_, _, rfl⟩
    · exact h3 f hf
def rSrtP (K : PySem.W.Frag) : List V → Hp → VK → Prop := fun vs H Q => ∃ (a : Addr) (xs : List V) (ds : List PyData), vs = [.ref a] ∧ SqL K H a xs ∧ DpAll K H xs ds ∧ PgOk ds ∧ xs.length ≤ sizeLine ∧
  ∀ p, H p = none → Q (.ref p) (upd H p (.lst ((srtP (·.2) (xs.zip ds)).map (·.1))))
theorem call_srtP {k : Nat} (hr : Room k X.A) : CallR X (.builtin "sorted") (rSrtP X.K) := by
  intro pins s σ H vs us Q I r h
  obtain ⟨a, xs, ds, rfl, hs, hd, hc, hz, q⟩ := h
  obtain ⟨its, rv, hl, _⟩ := I.list hs
  rw [Vals.ref1 r]
  obtain ⟨z1, z2, z3⟩ := dp_zip hd
  have e : PySem.W.EachIs (fun v (b : V × PyData) => RelV b.1 v) its (xs.zip ds) := each_vals (by rw [z2]; exact rv)
  have er := each_reads I e z1
  have hu := hr.un
  rw [← z3] at hc
  have lz : its.length = xs.length := rv.length.symm
  have keys := each_pg er hc
  have so : PySem.W.SortsAt X.prog X.w X.A.in1.in1 { s with heap := PySem.W.sortingHeap (PySem.W.copyHeap s.heap its) (s.heap.objs.size + 1) its } (pgKind s.heap its) its := by
    refine ⟨fun v hv => ?_, tuples' true, pg_lt (fun p o e => PySem.W.sorting_copy_old e) (by rw [each_heads er hc]; exact hc.one) (by show X.A.units + 1 + 1 < cLine; omega), fun h2 E Q q => ?_⟩
    · obtain ⟨b, _, e⟩ := keys.left v hv
      exact ⟨_, e⟩
    · have er2 : PySem.W.EachIs (fun v (b : V × PyData) => ∃ as, Reads (PySem.W.sortingHeap (PySem.W.copyHeap s.heap its) (s.heap.objs.size + 1) its) v b.2 as) its (xs.zip ds) := er.mono fun _ _ ⟨as, rd⟩ => ⟨as, PyProof.Rows.Reads.keeps (fun _ _ e => PySem.W.sorting_copy_old e) rd⟩
      obtain ⟨fs, t1, t2, t3⟩ := pg_first er2 hc
      refine PySem.W.kat_kind (T := .type "int") t1 (by omega) (fun f hf => ?_) (beq_self_eq_true _) q
      obtain ⟨i, t, rfl⟩ := t3 f hf
      exact PySem.W.looks_reads (d := .int i) (.int i t)
  refine PySem.W.sorted_vals hl.isList so (by omega) ?_
  have eo := PySem.W.sortVals_each (κ := pgKind s.heap its) (rev := false) (fun b : V × PyData => pgK b.2) e keys
  generalize hO : PySem.W.sortVals (pgKind s.heap its) false its its = out at eo
  obtain ⟨ep, he'⟩ := PyProof.Rows.sortedAll_at s.heap its (List.toArray out)
  refine ⟨.ref _, upd H (s.heap.objs.size + 1) (.lst ((srtP (·.2) (xs.zip ds)).map (·.1))), I.laid (t' := s.toks) (fun _ _ => PyProof.Rows.sortedAll_old) (Nat.le_succ _) ⟨?_, out, ep, vals_each eo, he'⟩, rfl, q _ (I.hok.fresh (Nat.le_succ _))⟩
  rw [List.length_map, (srtP_perm _ _).length_eq]
  have := congrArg List.length z2
  rw [List.length_map] at this
  omega
end
end PK
/-! sorted of pages; [*x, ..]. -/
namespace LP
open PySem PySem.Spec PyProof.Rows L2 PK RZ
def sortPD (l : List D) : List D := srtP D.toP l
def sortPW : List D → W D
  | [.lst l] => (W.want (D.plains l = true ∧ PgOk (D.toPs l) ∧ l.length ≤ sizeLine)).bind fun _ => W.ret (.lst (sortPD l))
  | _ => W.fail
section
variable {Ξ : Ctx}
theorem srtP_zip {H : Hp} {xs : List V} {ds : List D} (h : RpAll Ξ H xs ds) : RpAll Ξ H ((srtP (·.2) (xs.zip (D.toPs ds))).map (·.1)) (sortPD ds) := by
  have two : (xs.zip ds).map (·.2) = ds := List.map_snd_zip (by rw [h.len]; exact Nat.le_refl _)
  have e1 : srtP (·.2) (xs.zip (D.toPs ds)) = (srtP (fun p : V × D => p.2.toP) (xs.zip ds)).map fun p => (p.1, p.2.toP) := by
    rw [zip_toP]
    exact (merge_map (fun p : V × D => (p.1, p.2.toP)) (PySem.W.sortLe pgOrd false fun p : V × PyData => pgK p.2) (xs.zip ds)).symm
  have e2 : (srtP (fun p : V × D => p.2.toP) (xs.zip ds)).map (·.2) = sortPD ((xs.zip ds).map (·.2)) := merge_map (fun p : V × D => p.2) (PySem.W.sortLe pgOrd false fun d : D => pgK d.toP) (xs.zip ds)
  rw [two] at e2
  rw [e1, ← e2, List.map_map]
  exact RpAll.ofPairs fun p hp => h.zipM p ((srtP_perm _ _).mem_iff.mp hp)
theorem sortP_ok : CallOk Ξ (rSrtP Ξ.K) sortPW := by
  intro M H xs ds Q E mu hf h q
  match ds, h, q with
  | [.lst l], .cons h .nil, ⟨⟨pl, ok, hl⟩, q⟩ =>
    obtain ⟨b, ys, rfl, t, a⟩ := h.lstE
    exact ⟨b, ys, _, rfl, SqL.of t, (a.same ms_sub).dp pl, ok, by rw [a.len]; exact hl, fun p np => at_new mu (srtP_zip a) np q⟩
variable {X : Cx} {H0 : Hp} {O : List Nat} {e : Expr} {es : List Expr} {pos : Pos} {pa : Env → W D} {ps : Env → W (List D)}
theorem le_sortP {k : Nat} {p pos : Pos} (hr : Room k X.A) (hK : X.K = Ξ.K) (hg : Gl X "sorted") (hm : X.mg "sorted" = none) (ha : LAB Ξ H0 O X [e] ps) (he : starEach [e] X.env = [(false, eval e X.env)] := by rfl) : LE Ξ H0 O X (.Call (.Name "sorted" p) [e] [] pos) fun env => (ps env).bind sortPW :=
  le_callB (by rw [← hK]; exact call_srtP hr : CallR X _ (rSrtP Ξ.K)) sortP_ok hg hm (by decide +kernel) ha (by decide) (by decide) he rfl
/-- what stands behind a star -/
def starW : D → W (List D)
  | .tup ds => W.ret ds
  | .lst ds => W.ret ds
  | _ => W.fail
theorem la_star {p : Pos} (hK : X.K = Ξ.K) (h : LE Ξ H0 O X e pa) (h2 : LA Ξ H0 O X es ps) (hs : starEach (.Starred e p :: es) X.env = (true, eval e X.env) :: starEach es X.env := by rfl) :
    LA Ξ H0 O X (.Starred e p :: es) fun env => (pa env).bind fun d => (starW d).bind fun xs => (ps env).bind fun ds => W.ret (xs ++ ds) :=
  wkA (StX.pa_star h h2 hs) fun σ H Q ⟨S, A, G, env, E, hA, r, z⟩ => ⟨S, A, G, env, E, hA, r, (pa env).mono (fun d u v H1 g1 r1 hv => by
    cases d <;> try exact u.elim
    · obtain ⟨b, xs, rfl, t, a⟩ := hv.tupE
      have u : (ps env).wp _ _ := u
      exact ⟨b, xs, rfl, .inl (by rw [hK]; exact sqT_same ms_sub t), S, A, G, env, E, hA, r1, (ps env).mono (fun ds u vs H2 g2 r2 hvs => u (xs ++ vs) H2 (g1.trans g2) r2 ((a.same (g2.ms r1.ffM)).app hvs)) (fun _ z => z) u⟩
    · obtain ⟨b, xs, rfl, t, a⟩ := hv.lstE
      have u : (ps env).wp _ _ := u
      exact ⟨b, xs, rfl, .inr (SqL.of (ms_sub _ _ t)), S, A, G, env, E, hA, r1, (ps env).mono (fun ds u vs H2 g2 r2 hvs => u (xs ++ vs) H2 (g1.trans g2) r2 ((a.same (g2.ms r1.ffM)).app hvs)) (fun _ z => z) u⟩) (fun _ z => z) z⟩
end
namespace LM
section
variable {X : Cx} {Γ : Sig} {al0 : List Addr} {H0 : Hp} {O : List Nat} {e : Expr} {ps : LP.Env → M (List D)}
theorem le_sortP {k : Nat} {p pos : Pos} (hr : Room k X.A) (hK : X.K = Γ.K) (hg : Gl X "sorted") (hm : X.mg "sorted" = none) (ha : LAB Γ al0 H0 O X [e] ps) (he : starEach [e] X.env = [(false, eval e X.env)] := by rfl) : LE Γ al0 H0 O X (.Call (.Name "sorted" p) [e] [] pos) fun env => (ps env).bind fun ds => M.lift (sortPW ds) :=
  le_callB (by rw [← hK]; exact call_srtP hr : CallR X _ (rSrtP Γ.K)) (fun _ => sortP_ok) hg hm (by decide +kernel) ha (by decide) (by decide) he rfl
end
end LM
end LP
/-! a, b, c = x, y, z; x.append(e) and sorted(x) of a list of the store. -/
namespace LP.LM
open PySem PySem.Spec PyProof.Rows L2 PK RZ
def par3M (i j l : Nat) (env : LP.Env) : List D → M Fl
  | [d, e, f] => M.ret (.nx (((env.set i (some d)).set j (some e)).set l (some f)))
  | _ => M.fail
/-- x.append(e), x a list of the store -/
def appS (d y : D) : M D := (tokM d).bind fun k => (look k).bind fun x => match x with
  | .lst l => (M.want (l.length < sizeLine)).bind fun _ => (store k (.lst (l ++ [y]))).bind fun _ => M.ret .non
  | _ => M.fail
/-- sorted(x), x a list of the store, of pages -/
def sortS : List D → M D
  | [.tok (k + 1)] => (look k).bind fun x => match x with
    | .lst l => (M.want (D.plains l = true ∧ PgOk (D.toPs l) ∧ l.length ≤ sizeLine)).bind fun _ => M.ret (.lst (sortPD l))
    | _ => M.fail
  | _ => M.fail
section
variable {X : Cx} {Γ : Sig} {al0 : List Addr} {H0 : Hp} {O O' Ob : List Nat} {e o : Expr} {pos : Pos} {po pa : LP.Env → M D} {ps : LP.Env → M (List D)}
theorem ls_par3 {a b c : Expr} {i j l : Nat} {x y z : Str} {px py pz pt : Pos} {kt k2 pt2} (hc : X.calm = true) (hN : X.N.Nodup) (hi : X.N[i]? = some x) (hj : X.N[j]? = some y) (hl : X.N[l]? = some z) (hij : i ≠ j) (hil : i ≠ l) (hjl : j ≠ l) (hx : X.env.scope.names.lookup x = some .local) (hy : X.env.scope.names.lookup y = some .local) (hz : X.env.scope.names.lookup z = some .local)
    (ha : LA Γ al0 H0 O X [a, b, c] ps) (hw : swappedStores [.Tuple [.Name x px, .Name y py, .Name z pz] kt pt] (.Tuple [a, b, c] k2 pt2) X.env = pure (some [x, y, z])) (hiO : i ∉ O) (hjO : j ∉ O) (hlO : l ∉ O)
    (hs : swapsWithSole [.Tuple [.Name x px, .Name y py, .Name z pz] kt pt] (.Tuple [a, b, c] k2 pt2) pos.line X.env = pure false := by rfl) :
    LS Γ al0 H0 O O Ob X (.Assign [.Tuple [.Name x px, .Name y py, .Name z pz] kt pt] (.Tuple [a, b, c] k2 pt2) pos) fun env => (ps env).bind (par3M i j l env) := by
  refine wkS (ps_par3 hc hN hi hj hl hij hil hjl hx hy hz ha hw hs) fun De σ H ⟨S, A, G, env, E, al, s, hA, r, k⟩ => ⟨S, A, G, env, E, al, s, hA, r, (ps env).mono (fun ds s' k vs H1 al1 x1 st1 hv => ?_) (fun _ _ z => z) k⟩
  match ds, hv, k with
  | [d, e, f], .cons h1 (.cons h2 (.cons h3 .nil)), k =>
    have n : ∀ {i : Nat}, i ∉ O → ∀ a, (i, a) ∉ A := fun h a ha => h (by rw [← hA]; exact List.mem_map.mpr ⟨_, ha, rfl⟩)
    exact ⟨_, _, _, rfl, k A _ H1 al1 hA ((((r.later x1 st1).set (n hiO) h1).set (n hjO) h2).set (n hlO) h3)⟩
theorem le_appS {apos cpos : Pos} (hm : PE X (.Call (.Attribute o "append" apos) [e] [] cpos) (tBM X.K "list" rAppend (liE Γ al0 H0 O po) (tCons (liE Γ al0 H0 O pa) tNil))) :
    LE Γ al0 H0 O X (.Call (.Attribute o "append" apos) [e] [] cpos) fun env => (po env).bind fun d => (lstAt d).bind fun _ => (pa env).bind fun y => appS d y := by
  refine wkE hm fun σ H Q ⟨S, A, G, env, E, al, s, hA, r, q⟩ => ?_
  refine ⟨S, A, G, env, E, al, s, hA, r, (po env).mono (fun d s1 k v H1 al1 x1 st1 hv => ?_) (fun _ _ z => z) q⟩
  obtain ⟨n, rfl, d, ed, k⟩ := tokM_wp k
  cases d <;> try exact k.elim
  obtain ⟨a, rfl, ha⟩ := tok_at hv
  obtain ⟨us0, e0, _⟩ := st1.lst ha ed
  have r1 := r.later x1 st1
  refine ⟨.inl ⟨rfl, us0, SqL.of e0⟩, S, A, G, env, E, al1, s1, hA, r1, (pa env).mono (fun y s2 k u H2 al2 x2 st2 hu => ?_) (fun _ _ z => z) k⟩
  obtain ⟨d, ed, k⟩ := (k : (appS (.tok (n + 1)) y).wp _ _ _)
  have ha2 := x2.at_ ha
  cases d <;> try exact k.elim
  obtain ⟨us, e2, hr⟩ := st2.lst ha2 ed
  have hal : a ∈ al2 := List.mem_of_getElem? ha2
  obtain ⟨k1, k⟩ := k
  refine ⟨a, us, u, rfl, rfl, e2, by rw [hr.len]; exact k1, ?_⟩
  exact k .non _ al2 ((x1.trans x2).trans (Later.upd hal e2)) (st2.put (fun b hb => mk_al hb) ha2 ⟨_, _, .lst, RpAll.snoc hu hr⟩) .non
theorem le_sortS {k : Nat} {p : Pos} (hr : Room k X.A) (hK : X.K = Γ.K) (hg : Gl X "sorted") (hm : X.mg "sorted" = none) (ha : LAB Γ al0 H0 O X [e] ps) (he : starEach [e] X.env = [(false, eval e X.env)] := by rfl) :
    LE Γ al0 H0 O X (.Call (.Name "sorted" p) [e] [] pos) fun env => (ps env).bind sortS := by
  refine wkE (pe_callB (call_srtP hr) hg hm (by decide +kernel) ha (by decide) (by decide) he rfl) fun σ H Q ⟨S, A, G, env, E, al, s, hA, r, q⟩ => ?_
  refine ⟨S, A, G, env, E, al, s, hA, r, (ps env).mono (fun ds s1 k xs H1 al1 x1 st1 hx => ?_) (fun _ _ z => z) q⟩
  match ds, hx, k with
  | [.tok (n + 1)], .cons hv .nil, ⟨d, ed, k⟩ =>
    cases d <;> try exact k.elim
    obtain ⟨⟨pl, ok, hl⟩, k⟩ := k
    cases hv with
    | rp hv =>
      obtain ⟨a, rfl, ha⟩ := tok_at hv
      obtain ⟨us, e0, hr2⟩ := st1.lst ha ed
      refine ⟨a, us, _, rfl, SqL.of e0, by rw [hK]; exact DpAll.same (fun b o e => ms_sub _ _ e) (RpAll.dp pl hr2), ok, by rw [hr2.len]; exact hl, fun p np => ?_⟩
      have r1 := r.later x1 st1
      exact at_new (Ξ := Ca Γ al1) r1.r.muA (srtP_zip hr2) np fun v H2 s2 rv => k v H2 al1 (x1.trans (Later.of s2)) (st1.same s2) rv
end
end LP.LM
/-! sorted(set(l)) of a list of numbers; x in a tuple of any data. -/
namespace PK
open PySem PySem.Spec PyProof.Rows L2
section
variable {P : Program} {w : World} {A : Around} {E : Value → Shared → Prop} {s : Shared}
set_option maxHeartbeats 8000000 in
theorem call_set_intsL {l : Addr} {items : Array Value} (ns : List Int) {Q : Value → Shared → Prop} (hh : A.handled = none) (hl : SeqOf "list" s.heap l items)
    (hsz : items.size = ns.length) (hval : ∀ (i : Nat) (v : Value), items[i]? = some v → ∃ k t, ns[i]? = some k ∧ v = .int k t) (hb : ns.length + 1 < scanBound)
    (h : ∀ (h' : Heap) (tk c : Nat), c ≤ ns.length → SetR w h' s.heap.objs.size (fun j => decide (j ∈ ns)) c → (∀ b o, s.heap.get? b = some o → h'.get? b = some o) → Q (.ref s.heap.objs.size) { s with heap := h', toks := tk }) :
    wpAny (model P w) A (call (.type "set") [.ref l]) Q E s := by
  obtain ⟨dd, n, sl, hol⟩ := hl
  have lt : l < s.heap.objs.size := Heap.lt_size hol
  obtain ⟨cc, tt, mro⟩ := F.called_set.mro
  have made := F.called_set.made
  have sub := F.called_set.sub
  have ntp := F.called_set.notType
  have can := F.called_set.canCreate
  have tcl := F.typeCall_set_1 (.ref l)
  have told : ∀ (s2 : Shared), (∃ h' tk c, s2 = { s with heap := h', toks := tk } ∧ c ≤ ns.length ∧ SetR w h' s.heap.objs.size (fun j => decide (j ∈ ns)) c ∧ ∀ b o, s.heap.get? b = some o → h'.get? b = some o) → Q (.ref s.heap.objs.size) s2 := by
    rintro s2 ⟨h', tk, c, rfl, hc, hS, kp⟩
    exact h h' tk c hc hS kp
  refine wpAny_call (codeAny_of_tree (wpAny_pure ⟨Code.quiet_builtin _ (by decide +kernel), codeAny_builtin F.entry_type_call ?_⟩))
  rw [Around.under_plain (weight_type_call_type "set" [.ref l] []) rfl]
  repeat (any_goals (first | assumption | wp_step))
  refine codeAny_mono (code_set_led1 (.ref l) (E := E) (Q₁ := fun o s1 => o = .ref s.heap.objs.size ∧ s1 = { s with heap := s.heap.push (newSet w) }) ⟨rfl, rfl⟩) fun r s1 hr => ?_
  match r, hr with
  | .error e, hr => exact hr
  | .ok .next, hr => exact hr.elim
  | .ok .brk, hr => exact hr.elim
  | .ok .cont, hr => exact hr.elim
  | .ok (.ret o), hr =>
    obtain ⟨rfl, rfl⟩ := hr
    have at0 : (s.heap.push (newSet w)).get? s.heap.objs.size = some (newSet w) := Heap.get?_push_size _ rfl
    have ty : Shared.TypeIs { s with heap := s.heap.push (newSet w) } (.ref s.heap.objs.size) "set" := ⟨_, at0, rfl⟩
    have look := F.called_set.init.lookup
    have bnd := F.called_set.init.bind (.ref s.heap.objs.size)
    repeat (any_goals (first | assumption | wp_step))
    refine codeAny_mono (codeAny_call_builtin (R := wants (fun r s2 => r = .none ∧ ∃ h' tk c, s2 = { s with heap := h', toks := tk } ∧ c ≤ ns.length ∧ SetR w h' s.heap.objs.size (fun j => decide (j ∈ ns)) c ∧ ∀ b o, s.heap.get? b = some o → h'.get? b = some o) E)
      F.called_set.init.plain F.entry_set_init (check_set_init_1 ty ?_)) fun r2 s2 hr2 => ?_
    · have f1 := F.sub_list_set
      have f2 := F.sub_list_frozenset
      have f3 : (Value.type "list" == Value.type "dict") = false := by decide
      have hol1 : (s.heap.push (newSet w)).get? l = _ := Heap.get?_push_of_some _ hol
      have sz : (s.heap.push (newSet w)).objs.size = s.heap.objs.size + 1 := Heap.size_push ..
      have hh3 : A.in1.in1.in1.handled = none := by simp [hh]
      unfold Builtin.«set.__init__» noKeywords Builtin.Frozenset.updateFrom
      generalize hPI : pyIter = PI
      wp_walk
      subst hPI
      have it1 : (s.heap.push (newSet w)).IsList l items := ⟨_, hol1, rfl, n, rfl⟩
      refine wpAny_pyIter_list it1 (wpAny_bind (wpAny_runValue ?_))
      refine set_update_ints ((Walks.list hh3 _ l (by rw [sz]; exact Nat.ne_of_lt (Nat.lt_succ_of_lt lt)) items).toS) s.heap.objs.size (fun z => ?_) ns hsz hb hval (items.size - 0) 0 _ (by omega) (Nat.zero_le _) ⟨⟨_, Heap.get?_push_size _ rfl, rfl, rfl⟩, it1.push _⟩
        ⟨0, Nat.le_refl _, setR_new_at (Heap.get?_push_of_some _ at0)⟩ fun s3 c mv hc hS => ?_
      · rw [sz] at z
        rcases List.mem_cons.mp z with z | z
        · exact absurd z (Nat.ne_of_lt (Nat.lt_succ_self _))
        · exact absurd (List.mem_singleton.mp z) (Nat.ne_of_gt lt)
      · refine wpAny_pure ?_
        show wpAny _ _ (ret Value.none) _ _ _
        refine wpAny_pure ⟨rfl, ?_⟩
        obtain ⟨h3, g3, d3, t3, o3⟩ := s3
        obtain rfl : g3 = s.gens := mv.gens
        obtain rfl : d3 = s.drawn := mv.drawn
        obtain rfl : o3 = s.os := mv.os
        refine ⟨h3, t3, c, rfl, by omega, hS, fun b o e => mv.heap b o (fun z => ?_) (Heap.get?_push_of_some _ (Heap.get?_push_of_some _ e))⟩
        have lb : b < s.heap.objs.size := Heap.lt_size e
        rcases List.mem_cons.mp z with z | z
        · exact absurd z (Nat.ne_of_lt lb)
        · rw [sz] at z
          exact absurd (List.mem_singleton.mp z) (Nat.ne_of_lt (Nat.lt_succ_of_lt lb))
    · match r2, hr2 with
      | .error e, hr2 => exact hr2
      | .ok .next, hr2 => exact hr2.elim
      | .ok .brk, hr2 => exact hr2.elim
      | .ok .cont, hr2 => exact hr2.elim
      | .ok (.ret o), hr2 =>
        obtain ⟨rfl, hr2⟩ := hr2
        have q := told _ hr2
        repeat (any_goals (first | assumption | wp_step))
end
section
variable {X : Cx}
def rSetIL (K : PySem.W.Frag) (w : World) : List V → Hp → VK → Prop := fun xs H Q => ∃ (l : Addr) (ns : List Int), xs = [.ref l] ∧ SqL K H l (ns.map V.int) ∧ ns.length ≤ 60 ∧
  ∀ p c, c ≤ ns.length → H p = none → Q (.ref p) (upd H p (SetO w p (fun j => decide (j ∈ ns)) c))
theorem call_setIL {k : Nat} (K : PySem.W.Frag) (hr : Room k X.A) (hK : X.K = K := by rfl) : CallR X (.type "set") (rSetIL K X.w) := by
  subst hK
  intro pins s σ H xs us Q I r h
  obtain ⟨l, ns, rfl, hs, hk, q⟩ := h
  obtain ⟨u, rfl, ru⟩ := vals1 r
  cases ru
  obtain ⟨its, rv, ⟨⟨c, dd, dt, sl⟩, m, ho, hc, hdd, hd⟩, _⟩ := I.list hs
  simp only at hc hd hdd
  subst hc hd hdd
  have len : its.length = ns.length := by rw [← rv.length, List.length_map]
  refine call_set_intsL ns hr.hd ⟨_, _, _, ho⟩ (by rw [List.size_toArray]; exact len) (fun i v e => ?_) (by unfold scanBound; omega) fun h' tk c hc hS kp => ?_
  · rw [List.getElem?_toArray] at e
    have hi : i < ns.length := by rw [← len]; exact (List.getElem?_eq_some_iff.mp e).1
    obtain ⟨u, hu, ru⟩ := rv.get (i := i) (x := .int ns[i]) (by rw [List.getElem?_map, List.getElem?_eq_getElem hi]; rfl)
    obtain ⟨t, rfl⟩ := ru
    rw [e] at hu
    cases hu
    exact ⟨ns[i], t, List.getElem?_eq_getElem hi, rfl⟩
  · exact ⟨.ref _, _, I.laid (t' := tk) (o := SetO X.w s.heap.objs.size (fun j => decide (j ∈ ns)) c) kp (Nat.le_refl _) (setO_new hS), rfl, q _ _ hc (I.hok.fresh (Nat.le_refl _))⟩
/-! ### x in a tuple of any data -/
def rInD (K : PySem.W.Frag) : R2 := fun x y H Q => ∃ d ds, Dp K H x d ∧ Dp K H y (.tuple ds) ∧ d.plain = true ∧ PyData.plainAll ds = true ∧ d.depth ≤ 90 ∧ Q (.bl (ds.any fun e => PyData.eqv e d)) H
theorem op_inD {k : Nat} (K : PySem.W.Frag) (hr : Room k X.A) (hK : X.K = K := by rfl) : OpR X (compareOp .In) (rInD K) := by
  subst hK
  intro pins s σ H x y v u Q I rx ry h
  obtain ⟨d, ds, h1, h2, pd, ps, dp, q⟩ := h
  obtain ⟨as, r1⟩ := Dp.reads I _ _ _ h1 rx
  obtain ⟨bs, r2⟩ := Dp.reads I _ _ _ h2 ry
  have hu := hr.un
  refine PySem.SeqAt.in_tuple_data r2 r1 ps pd ?_ ⟨.bl _, H, I, rfl, q⟩
  have := Nat.min_le_right (PyData.depthAll ds) d.depth
  omega
end
end PK
/-! x in a tuple of any data; sorted(set(l)) of numbers. -/
namespace LP
open PySem PySem.Spec PyProof.Rows L2 PK RZ
def indW (x y : D) : W D := match y with
  | .tup l => (W.want (x.plain = true ∧ D.plains l = true ∧ x.toP.depth ≤ 90)).bind fun _ => W.ret (.bl (inD x l))
  | _ => W.fail
/-- sorted(set(l)): the numbers of l, each once, rising -/
def sortSetW : List D → W D
  | [.lst l] => (optW (isOf l)).bind fun ns => (W.want (ns.length ≤ 60)).bind fun _ => (W.any fun ms : List Int => ms.length ≤ ns.length ∧ ms.Pairwise (· < ·) ∧ ∀ k, k ∈ ms ↔ k ∈ ns).bind fun ms => W.ret (.lst (ms.map D.int))
  | _ => W.fail
mutual
theorem plain_of : ∀ {d : D}, d.plain = true → d.toP.plain = true
  | .non, _ => by simp [D.toP, PyData.plain]
  | .bl _, _ => by simp [D.toP, PyData.plain]
  | .int _, _ => by simp [D.toP, PyData.plain]
  | .str _, _ => by simp [D.toP, PyData.plain]
  | .tup l, h => by
    have h : D.plains l = true := h
    have := plainAll_of h
    simpa [D.toP, PyData.plain] using this
  | .lst l, h => by
    have h : D.plains l = true := h
    have := plainAll_of h
    simpa [D.toP, PyData.plain] using this
  | .dct _ _, h => (nomatch h)
  | .set _, h => (nomatch h)
  | .txt _, h => (nomatch h)
  | .obj _ _, h => (nomatch h)
  | .tok _, h => (nomatch h)
theorem plainAll_of : ∀ {l : List D}, D.plains l = true → PyData.plainAll (D.toPs l) = true
  | [], _ => by simp [D.toPs, PyData.plainAll]
  | d :: l, h => by
    have h : (d.plain && D.plains l) = true := h
    rw [Bool.and_eq_true] at h
    have h1 := plain_of h.1
    have h2 := plainAll_of h.2
    simp [D.toPs, PyData.plainAll, h1, h2]
end
section
variable {X : Cx} {Ξ : Ctx} {H0 : Hp} {O : List Nat} {a b e : Expr} {es : List Expr} {pa pb : Env → W D} {ps : Env → W (List D)} {pos : Pos}
theorem ind_ok : OpOk Ξ (PK.rInD Ξ.K) indW := by
  intro M H x y d1 d2 Q E mu hf h1 h2 q
  cases d2 with
  | tup l =>
    obtain ⟨⟨p1, p2, p3⟩, q⟩ := q
    have e : ((D.toPs l).any fun e => PyData.eqv e d1.toP) = inD d1 l := by
      rw [toPs_map, List.any_map]
      rfl
    refine ⟨d1.toP, D.toPs l, h1.dp p1, h2.dp (show D.plain (.tup l) = true from p2), plain_of p1, plainAll_of p2, p3, ?_⟩
    rw [e]
    exact at_bl _ q
  | _ => exact q.elim
theorem lt_ind {k : Nat} (hr : Room k X.A) (hK : X.K = Ξ.K) (hm : behindInMarks .In b = false) (ha : LB Ξ H0 O X a pa) (hb : LB Ξ H0 O X b pb) : LT Ξ H0 O X (.Compare a [.In] [b] pos) fun env => ((pa env).bind fun x => (pb env).bind fun y => indW x y).bind asB :=
  lt_cmp (PK.op_inD Ξ.K hr hK) ind_ok hm ha hb
theorem le_sortSet {k : Nat} {p p2 pos2 : Pos} (hc : X.calm = true) (hr : Room k X.A) (hK : X.K = Ξ.K) (hg : Gl X "sorted") (hm : X.mg "sorted" = none) (hg2 : Gl X "set") (hm2 : X.mg "set" = none) (ha : LAB Ξ H0 O X [e] ps) (he : starEach [e] X.env = [(false, eval e X.env)] := by rfl)
    (he2 : starEach [.Call (.Name "set" p2) [e] [] pos2] X.env = (false, eval (.Call (.Name "set" p2) [e] [] pos2) X.env) :: starEach [] X.env := by rfl) :
    LE Ξ H0 O X (.Call (.Name "sorted" p) [.Call (.Name "set" p2) [e] [] pos2] [] pos) fun env => (ps env).bind sortSetW :=
  wkE (pe_callB (cr_sortedSet hc) hg hm (by decide +kernel) (pa_cons (pe_callTy (call_setIL Ξ.K hr hK) hg2 hm2 (by decide +kernel) ha (by decide) (by decide) he rfl) pa_nil he2) (by decide) (by decide) he2 rfl) fun σ H Q ⟨S, A, G, env, E, hA, r, z⟩ => by
    refine ⟨S, A, G, env, E, hA, r, (ps env).mono (fun ds k xs H1 g1 r1 hv => ?_) (fun _ z => z) z⟩
    match ds, hv, k with
    | [.lst l], .cons h .nil, k =>
      obtain ⟨ns, e, hl, k⟩ := optW_wp k
      rw [isOf_eq e] at h
      obtain ⟨b, ys, rfl, t, a⟩ := h.lstE
      rw [a.of_ints] at t
      refine ⟨b, ns, rfl, SqL.of t, hl, fun p c hc np => ⟨p, _, c, rfl, upd_same, by omega, fun ms q hs hm hlen nq => ?_⟩⟩
      have nq1 : q ≠ p := fun z => by
        rw [z, upd_same] at nq
        cases nq
      have nqH : H1 q = none := by rw [upd_ne nq1] at nq; exact nq
      have s1 : Same H1 (upd H1 p (SetO X.w p (fun j => decide (j ∈ ns)) c)) := same_new (Same.refl H1) np
      have s2 : Same H1 (upd (upd H1 p (SetO X.w p (fun j => decide (j ∈ ns)) c)) q (.lst (ms.map V.int))) := same_new s1 nq
      have r2 := r1.same s2
      have k := k ms ⟨by omega, hs, fun k => by rw [hm k, decide_eq_true_iff]⟩
      exact k (.ref q) _ (g1.trans (Gr.of s2)) r2 (.lst (ms_at upd_same (r1.muA.out nqH)) (RpAll.ints ms))
end
end LP
/-! != of two lists of texts, of which it isn't known what signs they hold (repr's). -/
namespace PK
open PySem PySem.Spec PyProof.Rows L2
theorem eqv_strs : ∀ (ss ts : List Str), PyData.eqvAll (ss.map PyData.str) (ts.map PyData.str) = decide (ss = ts)
  | [], [] => by simp [PyData.eqvAll]
  | [], _ :: _ => by simp [PyData.eqvAll]
  | _ :: _, [] => by simp [PyData.eqvAll]
  | a :: ss, b :: ts => by
    have ih := eqv_strs ss ts
    simp only [List.map_cons, PyData.eqvAll, PyData.eqv, ih]
    by_cases e : a = b
    · by_cases e2 : ss = ts <;> simp [e, e2]
    · simp [e]
def rNeTx (K : PySem.W.Frag) : R2 := fun x y H Q => ∃ (a b : Addr) (ss ts : List Str), x = .ref a ∧ y = .ref b ∧ SqL K H a (ss.map V.str) ∧ SqL K H b (ts.map V.str) ∧ Q (.bl (!decide (ss = ts))) H
theorem dps_strs {K : PySem.W.Frag} {H : Hp} : ∀ ss : List Str, DpAll K H (ss.map V.str) (ss.map PyData.str)
  | [] => .nil
  | s :: ss => .cons (.str s) (dps_strs ss)
theorem op_neTx {X : Cx} {k : Nat} (K : PySem.W.Frag) (hr : Room k X.A) (hK : X.K = K := by rfl) : OpR X (compareOp .NotEq) (rNeTx K) := by
  subst hK
  intro pins s σ H x y v u Q I rx ry h
  obtain ⟨a, b, ss, ts, rfl, rfl, h1, h2, q⟩ := h
  obtain ⟨as, r1⟩ := Dp.reads I _ _ _ (Dp.lst h1 (dps_strs ss)) rx
  obtain ⟨bs, r2⟩ := Dp.reads I _ _ _ (Dp.lst h2 (dps_strs ts)) ry
  have hu := hr.un
  have pl : ∀ ss : List Str, (PyData.list (ss.map PyData.str)).plain = true := fun ss => by
    have : PyData.plainAll (ss.map PyData.str) = true := by
      induction ss with
      | nil => simp [PyData.plainAll]
      | cons s ss ih => simp [PyData.plainAll, PyData.plain, ih]
    simpa [PyData.plain] using this
  have dp : ∀ ss : List Str, (PyData.list (ss.map PyData.str)).depth ≤ 1 := fun ss => by
    have : PyData.depthAll (ss.map PyData.str) ≤ 0 := by
      induction ss with
      | nil => exact Nat.le_refl _
      | cons s ss ih => exact Nat.max_le.mpr ⟨Nat.le_refl _, ih⟩
    show PyData.depthAll (ss.map PyData.str) + 1 ≤ 1
    omega
  refine PySem.SeqAt.rcNe_plain r1 r2 (pl ss) (pl ts) ?_ _ _ _ _ ?_
  · have := dp ss
    have := Nat.min_le_left (PyData.list (ss.map PyData.str)).depth (PyData.list (ts.map PyData.str)).depth
    omega
  · have e : PyData.eqv (.list (ss.map PyData.str)) (.list (ts.map PyData.str)) = decide (ss = ts) := by
      rw [PyData.eqv]
      exact eqv_strs ss ts
    rw [e]
    exact ⟨.bl _, H, I, rfl, q⟩
end PK
namespace LP
open PySem PySem.Spec PyProof.Rows L2 PK RZ
def txsOf : List D → Option (List Str)
  | [] => some []
  | .txt b :: l => (txsOf l).map (b :: ·)
  | _ => none
def neTxW (x y : D) : W D := match x, y with
  | .lst l, .lst m => (optW (txsOf l)).bind fun ss => (optW (txsOf m)).bind fun ts => W.ret (.bl (!decide (ss = ts)))
  | _, _ => W.fail
section
variable {X : Cx} {Ξ : Ctx} {H0 : Hp} {O : List Nat} {a b : Expr} {pa pb : Env → W D} {pos : Pos}
theorem txs_vals {H : Hp} : ∀ {l : List D} {ss : List Str} {vs : List V}, txsOf l = some ss → RpAll Ξ H vs l → vs = ss.map V.str
  | [], _, _, h, .nil => by cases h; rfl
  | .txt b :: l, _, _, h, .cons h1 h2 => by
    obtain ⟨cs, e, rfl⟩ := Option.map_eq_some_iff.mp h
    cases h1
    rw [txs_vals e h2]
    rfl
theorem neTx_ok : OpOk Ξ (rNeTx Ξ.K) neTxW := by
  intro M H x y d1 d2 Q E mu hf h1 h2 q
  cases d1 <;> try exact q.elim
  cases d2 <;> try exact q.elim
  obtain ⟨ss, e1, q⟩ := optW_wp q
  obtain ⟨ts, e2, q⟩ := optW_wp q
  obtain ⟨a, xs, rfl, t1, a1⟩ := h1.lstE
  obtain ⟨b, ys, rfl, t2, a2⟩ := h2.lstE
  rw [txs_vals e1 a1] at t1
  rw [txs_vals e2 a2] at t2
  exact ⟨a, b, ss, ts, rfl, rfl, SqL.of t1, SqL.of t2, at_bl _ q⟩
theorem lt_neTx {k : Nat} (hr : Room k X.A) (hK : X.K = Ξ.K) (hm : behindInMarks .NotEq b = false) (ha : LB Ξ H0 O X a pa) (hb : LB Ξ H0 O X b pb) : LT Ξ H0 O X (.Compare a [.NotEq] [b] pos) fun env => ((pa env).bind fun x => (pb env).bind fun y => neTxW x y).bind asB :=
  lt_cmp (op_neTx Ξ.K hr hK) neTx_ok hm ha hb
end
end LP
namespace LP
open PySem PySem.Spec PyProof.Rows L2 PK
end LP
namespace LP.HD
open PySem PySem.Spec PyProof.Rows L2 PK LP
def bDip_1 (env : Env) : LM.M Fl := (LM.thenM ((LM.M.lift ((getW env 4).bind fun x => (getW env 1).bind fun y => fdivW x y)).bind fun v => (LM.M.lift (getW env 0)).bind fun d => (LM.M.lift (W.ret (.int 2))).bind fun y => (LM.putSL d y v).bind fun _ => LM.M.ret (.nx env))
  fun env => (LM.M.lift (((getW env 4).bind fun x => (getW env 1).bind fun y => modW x y).bind fun d => W.ret (.rt d))))
def bDip_2 (env : Env) : LM.M Fl := (LM.thenM ((LM.M.lift ((getW env 6).bind fun x => (getW env 1).bind fun y => fdivW x y)).bind fun v => (LM.M.lift (getW env 0)).bind fun d => (LM.M.lift (W.ret (.int 2))).bind fun y => (LM.putSL d y v).bind fun _ => LM.M.ret (.nx env))
  fun env => (LM.M.lift (((getW env 6).bind fun x => (getW env 1).bind fun y => modW x y).bind fun d => W.ret (.rt d))))
def bDip_3 (env : Env) : LM.M Fl := (LM.thenM (LM.M.lift ((((((getW env 7).bind fun x => (((getW env 6).bind fun x => (W.ret (.int 999961)).bind fun y => modW x y).bind fun x => (W.ret (.int 5)).bind fun y => mulW x y).bind fun y => addW x y).bind fun x => (getW env 5).bind fun y => addW x y).bind fun x => (W.ret (.int 2)).bind fun y => powW x y).bind fun x => (W.ret (.int 2147483563)).bind fun y => modW x y).bind fun d => W.ret (.nx (env.set 7 (some d)))))
  fun env => (LM.M.lift ((((getW env 7).bind fun x => (W.ret (.int 32)).bind fun y => fdivW x y).bind fun x => (getW env 1).bind fun y => modW x y).bind fun d => W.ret (.rt d))))
def bDip_4 (env : Env) : LM.M Fl := (LM.thenM (LM.M.lift ((((((getW env 7).bind fun x => ((W.ret (.int 15485863)).bind fun x => (getW env 5).bind fun y => mulW x y).bind fun y => addW x y).bind fun x => (W.ret (.int 3)).bind fun y => addW x y).bind fun x => (W.ret (.int 2)).bind fun y => powW x y).bind fun x => (W.ret (.int 2147483647)).bind fun y => modW x y).bind fun d => W.ret (.nx (env.set 7 (some d)))))
  fun env => (bDip_3 env))
def bDip_5 (env : Env) : LM.M Fl := (LM.thenM (LM.M.lift ((((getW env 7).bind fun x => (getW env 7).bind fun y => mulW x y).bind fun x => (W.ret (.int 2147483629)).bind fun y => modW x y).bind fun d => W.ret (.nx (env.set 7 (some d)))))
  fun env => (bDip_4 env))
def bDip_6 (env : Env) : LM.M Fl := (LM.thenM (LM.M.lift ((((((getW env 6).bind fun x => (W.ret (.int 2147483587)).bind fun y => modW x y).bind fun x => (((W.ret (.int 3931)).bind fun x => (getW env 5).bind fun y => mulW x y).bind fun x => (getW env 5).bind fun y => mulW x y).bind fun y => addW x y).bind fun x => ((W.ret (.int 7907)).bind fun x => (getW env 5).bind fun y => mulW x y).bind fun y => addW x y).bind fun x => (W.ret (.int 11)).bind fun y => addW x y).bind fun d => W.ret (.nx (env.set 7 (some d)))))
  fun env => (bDip_5 env))
def bDip_7 (env : Env) : LM.M Fl := (LM.thenM (((LM.M.lift (((getW env 6).bind fun x => ((W.ret (.int 10)).bind fun x => (W.ret (.int 18)).bind fun y => powW x y).bind fun y => geW x y).bind asB)).bind fun k => LM.M.ite k (((LM.M.lift (getW env 3)).bind fun x => (((LM.M.lift (getW env 2)).bind fun d => (LM.M.ret []).bind fun ds => LM.M.ret (d :: ds)).bind LM.lenS).bind fun y => LM.M.lift (ltW x y)).bind LM.asBM) (LM.M.ret false)).bind fun k => LM.M.ite k (bDip_2 env) (LM.M.ret (.nx env)))
  fun env => (bDip_6 env))
def bDip_8 (env : Env) : LM.M Fl := (LM.thenM (((((LM.M.lift (getW env 2)).bind LM.neNilS).bind LM.asBM).bind fun k => LM.M.ite k ((LM.M.lift (getW env 2)).bind fun d => ((LM.M.lift (getW env 3)).bind fun x => (((LM.M.lift (getW env 2)).bind fun d => (LM.M.ret []).bind fun ds => LM.M.ret (d :: ds)).bind LM.lenS).bind fun y => LM.M.lift (modW x y)).bind fun y => LM.ixSL d y) (LM.M.lift (W.ret (.int 17)))).bind fun d => LM.M.ret (.nx (env.set 6 (some d))))
  fun env => (bDip_7 env))
def bDip_9 (env : Env) : LM.M Fl := (LM.thenM ((LM.M.lift ((getW env 3).bind fun x => (W.ret (.int 1)).bind fun y => addW x y)).bind fun v => (LM.M.lift (getW env 0)).bind fun d => (LM.M.lift (W.ret (.int 1))).bind fun y => (LM.putSL d y v).bind fun _ => LM.M.ret (.nx env))
  fun env => (bDip_8 env))
def bDip_10 (env : Env) : LM.M Fl := (LM.thenM ((LM.M.lift (((getW env 4).bind fun x => (W.ret (.int 0)).bind fun y => gtW x y).bind asB)).bind fun k => LM.M.ite k (bDip_1 env) (LM.M.ret (.nx env)))
  fun env => (bDip_9 env))
def bDip_11 (env : Env) : LM.M Fl := (LM.thenM ((LM.M.lift ((getW env 5).bind fun x => (W.ret (.int 1)).bind fun y => addW x y)).bind fun v => (LM.M.lift (getW env 0)).bind fun d => (LM.M.lift (W.ret (.int 3))).bind fun y => (LM.putSL d y v).bind fun _ => LM.M.ret (.nx env))
  fun env => (bDip_10 env))
def bDip (env : Env) : LM.M Fl := (LM.thenM ((LM.M.lift (getW env 0)).bind (LM.unpS 4 (gsW (fun d env => W.ret (env.set 2 (some d))) (gsW (fun d env => W.ret (env.set 3 (some d))) (gsW (fun d env => W.ret (env.set 4 (some d))) (gsW (fun d env => W.ret (env.set 5 (some d))) (fun ds env => match ds with | [] => W.ret env | _ => W.fail))))) env))
  fun env => (bDip_11 env))
def fDip : List D → LM.M D := LM.runM 2 8 bDip
def bSRows_1 (env : Env) : LM.M Fl := ((((LM.M.lift (getW env 4)).bind fun d => ((LM.M.lift (getW env 5)).bind fun d => (((LM.M.lift (((getW env 6).bind fun d => ((getW env 7).bind fun d => (((W.ret (.int 10)).bind fun x => (W.ret (.int 9)).bind fun y => powW x y).bind fun d => (W.ret []).bind fun ds => W.ret (d :: ds)).bind fun ds => W.ret (d :: ds)).bind fun ds => W.ret (d :: ds)).bind lstW)).bind fun x => ((((LM.M.lift (getW env 0)).bind fun d => ((LM.M.lift (W.ret (.int 17))).bind fun d => (LM.M.ret []).bind fun ds => LM.M.ret (d :: ds)).bind fun ds => LM.M.ret (d :: ds)).bind fDip).bind fun x => (LM.M.lift (W.ret (.int 8))).bind fun y => LM.M.lift (fdivW x y)).bind fun y => LM.M.lift (ixW x y)).bind fun d => (LM.M.ret []).bind fun ds => LM.M.ret (d :: ds)).bind fun ds => LM.M.ret (d :: ds)).bind fun ds => LM.M.ret (d :: ds)).bind fun ds => LM.M.lift (tupW ds)).bind fun d => LM.putM env 2 (appW d))
def bSRows_2 (env : Env) : LM.M Fl := (LM.thenM ((((LM.M.lift (W.ret (.int 1))).bind fun x => (((LM.M.lift (getW env 0)).bind fun d => ((LM.M.lift (W.ret (.int 3))).bind fun d => (LM.M.ret []).bind fun ds => LM.M.ret (d :: ds)).bind fun ds => LM.M.ret (d :: ds)).bind fDip).bind fun y => LM.M.lift (addW x y)).bind fun d => (((LM.M.lift (W.ret (.int 1))).bind fun x => (((LM.M.lift (getW env 0)).bind fun d => ((LM.M.lift (W.ret (.int 9))).bind fun d => (LM.M.ret []).bind fun ds => LM.M.ret (d :: ds)).bind fun ds => LM.M.ret (d :: ds)).bind fDip).bind fun y => LM.M.lift (addW x y)).bind fun d => (LM.M.ret []).bind fun ds => LM.M.ret (d :: ds)).bind fun ds => LM.M.ret (d :: ds)).bind (LM.par2M 6 7 env))
  fun env => (bSRows_1 env))
def bSRows_3 (env : Env) : LM.M Fl := (LM.thenM (((LM.M.lift (((W.ret (.str "blue")).bind fun d => ((W.ret (.str "red")).bind fun d => ((W.ret (.str "reds")).bind fun d => ((W.ret (.str "x")).bind fun d => (W.ret []).bind fun ds => W.ret (d :: ds)).bind fun ds => W.ret (d :: ds)).bind fun ds => W.ret (d :: ds)).bind fun ds => W.ret (d :: ds)).bind lstW)).bind fun x => (((LM.M.lift (getW env 0)).bind fun d => ((LM.M.lift (W.ret (.int 4))).bind fun d => (LM.M.ret []).bind fun ds => LM.M.ret (d :: ds)).bind fun ds => LM.M.ret (d :: ds)).bind fDip).bind fun y => LM.M.lift (ixW x y)).bind fun d => LM.M.ret (.nx (env.set 5 (some d))))
  fun env => (bSRows_2 env))
def bSRows_4 (env : Env) : LM.M Fl := (LM.thenM (((LM.M.lift (((W.ret (.str "a")).bind fun d => ((W.ret (.str "brick")).bind fun d => ((W.ret (.str "plate")).bind fun d => (W.ret []).bind fun ds => W.ret (d :: ds)).bind fun ds => W.ret (d :: ds)).bind fun ds => W.ret (d :: ds)).bind lstW)).bind fun x => (((LM.M.lift (getW env 0)).bind fun d => ((LM.M.lift (W.ret (.int 3))).bind fun d => (LM.M.ret []).bind fun ds => LM.M.ret (d :: ds)).bind fun ds => LM.M.ret (d :: ds)).bind fDip).bind fun y => LM.M.lift (ixW x y)).bind fun d => LM.M.ret (.nx (env.set 4 (some d))))
  fun env => (bSRows_3 env))
def bSRows_5 (env : Env) : LM.M Fl := (LM.thenM ((((((LM.M.lift (getW env 0)).bind fun d => ((LM.M.lift ((getW env 1).bind fun x => (W.ret (.int 1)).bind fun y => addW x y)).bind fun d => (LM.M.ret []).bind fun ds => LM.M.ret (d :: ds)).bind fun ds => LM.M.ret (d :: ds)).bind fDip).bind fun d => (LM.M.ret []).bind fun ds => LM.M.ret (d :: ds)).bind fun ds => LM.M.lift (range1W ds)).bind fun ds => LM.forM' (fun d env => W.ret (env.set 3 (some d))) (fun env => (bSRows_4 env)) ds env)
  fun env => (LM.M.lift ((((getW env 2).bind fun d => (W.ret []).bind fun ds => W.ret (d :: ds)).bind tupleW).bind fun d => W.ret (.rt d))))
def bSRows (env : Env) : LM.M Fl := (LM.thenM (LM.M.lift (((W.ret []).bind lstW).bind fun d => (W.want (2 < env.length)).bind fun _ => W.ret (.nx (env.set 2 (some d)))))
  fun env => (bSRows_5 env))
def fSRows : List D → LM.M D := LM.runM 2 8 bSRows
def bSWant (env : Env) : LM.M Fl := (LM.thenM (((LM.M.lift ((((W.ret []).bind lstW).bind fun d => ((((W.ret (.str "blue")).bind fun d => (W.ret []).bind fun ds => W.ret (d :: ds)).bind lstW).bind fun d => ((((W.ret (.str "red")).bind fun d => (W.ret []).bind fun ds => W.ret (d :: ds)).bind lstW).bind fun d => ((((W.ret (.str "blue")).bind fun d => ((W.ret (.str "red")).bind fun d => (W.ret []).bind fun ds => W.ret (d :: ds)).bind fun ds => W.ret (d :: ds)).bind lstW).bind fun d => ((((W.ret (.str "red")).bind fun d => ((W.ret (.str "reds")).bind fun d => ((W.ret (.str "x")).bind fun d => (W.ret []).bind fun ds => W.ret (d :: ds)).bind fun ds => W.ret (d :: ds)).bind fun ds => W.ret (d :: ds)).bind lstW).bind fun d => (W.ret []).bind fun ds => W.ret (d :: ds)).bind fun ds => W.ret (d :: ds)).bind fun ds => W.ret (d :: ds)).bind fun ds => W.ret (d :: ds)).bind fun ds => W.ret (d :: ds)).bind lstW)).bind fun x => (((LM.M.lift (getW env 0)).bind fun d => ((LM.M.lift (W.ret (.int 5))).bind fun d => (LM.M.ret []).bind fun ds => LM.M.ret (d :: ds)).bind fun ds => LM.M.ret (d :: ds)).bind fDip).bind fun y => LM.M.lift (ixW x y)).bind fun d => LM.M.ret (.nx (env.set 1 (some d))))
  fun env => (((((LM.M.lift (((W.ret (.str "a")).bind fun d => ((W.ret (.str "brick")).bind fun d => ((W.ret (.str "plate")).bind fun d => (W.ret []).bind fun ds => W.ret (d :: ds)).bind fun ds => W.ret (d :: ds)).bind fun ds => W.ret (d :: ds)).bind lstW)).bind fun x => (((LM.M.lift (getW env 0)).bind fun d => ((LM.M.lift (W.ret (.int 3))).bind fun d => (LM.M.ret []).bind fun ds => LM.M.ret (d :: ds)).bind fun ds => LM.M.ret (d :: ds)).bind fDip).bind fun y => LM.M.lift (ixW x y)).bind fun d => ((LM.M.lift (((getW env 1).bind fun d => (W.ret []).bind fun ds => W.ret (d :: ds)).bind tupleW)).bind fun d => (((LM.M.lift (W.ret (.int 1))).bind fun x => (((LM.M.lift (getW env 0)).bind fun d => ((LM.M.lift (W.ret (.int 4))).bind fun d => (LM.M.ret []).bind fun ds => LM.M.ret (d :: ds)).bind fun ds => LM.M.ret (d :: ds)).bind fDip).bind fun y => LM.M.lift (addW x y)).bind fun d => (LM.M.ret []).bind fun ds => LM.M.ret (d :: ds)).bind fun ds => LM.M.ret (d :: ds)).bind fun ds => LM.M.ret (d :: ds)).bind fun ds => LM.M.lift (tupW ds)).bind fun d => LM.M.ret (.rt d)))
def fSWant : List D → LM.M D := LM.runM 1 2 bSWant
def bSSheet_1 (env : Env) : LM.M Fl := ((((LM.lcDM (fun d env => W.ret (env.set 5 (some d))) (fun env => (LM.M.ret true)) (fun env => (((LM.M.lift (getW env 0)).bind fun d => (LM.M.ret []).bind fun ds => LM.M.ret (d :: ds)).bind fSWant)) [5] (fun env => ((((LM.M.lift (((W.ret (.int 1)).bind fun d => ((W.ret (.int 1)).bind fun d => ((W.ret (.int 2)).bind fun d => ((W.ret (.int 0)).bind fun d => (W.ret []).bind fun ds => W.ret (d :: ds)).bind fun ds => W.ret (d :: ds)).bind fun ds => W.ret (d :: ds)).bind fun ds => W.ret (d :: ds)).bind lstW)).bind fun x => (((LM.M.lift (getW env 0)).bind fun d => ((LM.M.lift (W.ret (.int 4))).bind fun d => (LM.M.ret []).bind fun ds => LM.M.ret (d :: ds)).bind fun ds => LM.M.ret (d :: ds)).bind fDip).bind fun y => LM.M.lift (ixW x y)).bind fun d => (LM.M.ret []).bind fun ds => LM.M.ret (d :: ds)).bind fun ds => LM.M.lift (range1W ds))) env).bind fun d => (LM.M.ret []).bind fun ds => LM.M.ret (d :: ds)).bind fun ds => LM.M.lift (tupleW ds)).bind fun d => LM.putM env 3 (appW d))
def bSSheet_2 (env : Env) : LM.M Fl := (LM.M.lift ((((getW env 3).bind fun d => (W.ret []).bind fun ds => W.ret (d :: ds)).bind tupleW).bind fun d => putW env 1 (appW d)))
def bSSheet_3 (env : Env) : LM.M Fl := (LM.thenM (((((LM.M.lift (((W.ret (.int 1)).bind fun d => ((W.ret (.int 1)).bind fun d => ((W.ret (.int 2)).bind fun d => ((W.ret (.int 3)).bind fun d => (W.ret []).bind fun ds => W.ret (d :: ds)).bind fun ds => W.ret (d :: ds)).bind fun ds => W.ret (d :: ds)).bind fun ds => W.ret (d :: ds)).bind lstW)).bind fun x => (((LM.M.lift (getW env 0)).bind fun d => ((LM.M.lift (W.ret (.int 4))).bind fun d => (LM.M.ret []).bind fun ds => LM.M.ret (d :: ds)).bind fun ds => LM.M.ret (d :: ds)).bind fDip).bind fun y => LM.M.lift (ixW x y)).bind fun d => (LM.M.ret []).bind fun ds => LM.M.ret (d :: ds)).bind fun ds => LM.M.lift (range1W ds)).bind fun ds => LM.forM' (fun d env => W.ret (env.set 4 (some d))) (fun env => (bSSheet_1 env)) ds env)
  fun env => (bSSheet_2 env))
def bSSheet_4 (env : Env) : LM.M Fl := (LM.thenM (LM.M.lift (((W.ret []).bind lstW).bind fun d => (W.want (3 < env.length)).bind fun _ => W.ret (.nx (env.set 3 (some d)))))
  fun env => (bSSheet_3 env))
def bSSheet_5 (env : Env) : LM.M Fl := (LM.thenM (((((LM.M.lift (((W.ret (.int 1)).bind fun d => ((W.ret (.int 2)).bind fun d => ((W.ret (.int 3)).bind fun d => ((W.ret (.int 0)).bind fun d => (W.ret []).bind fun ds => W.ret (d :: ds)).bind fun ds => W.ret (d :: ds)).bind fun ds => W.ret (d :: ds)).bind fun ds => W.ret (d :: ds)).bind lstW)).bind fun x => ((((LM.M.lift (getW env 0)).bind fun d => ((LM.M.lift (W.ret (.int 10))).bind fun d => (LM.M.ret []).bind fun ds => LM.M.ret (d :: ds)).bind fun ds => LM.M.ret (d :: ds)).bind fDip).bind fun x => (LM.M.lift (W.ret (.int 3))).bind fun y => LM.M.lift (fdivW x y)).bind fun y => LM.M.lift (ixW x y)).bind fun d => (LM.M.ret []).bind fun ds => LM.M.ret (d :: ds)).bind fun ds => LM.M.lift (range1W ds)).bind fun ds => LM.forM' (fun d env => W.ret (env.set 2 (some d))) (fun env => (bSSheet_4 env)) ds env)
  fun env => (LM.M.lift ((((getW env 1).bind fun d => (W.ret []).bind fun ds => W.ret (d :: ds)).bind tupleW).bind fun d => W.ret (.rt d))))
def bSSheet (env : Env) : LM.M Fl := (LM.thenM (LM.M.lift (((W.ret []).bind lstW).bind fun d => (W.want (1 < env.length)).bind fun _ => W.ret (.nx (env.set 1 (some d)))))
  fun env => (bSSheet_5 env))
def fSSheet : List D → LM.M D := LM.runM 1 6 bSSheet
def bSLaying_1 (env : Env) : W Fl := ((((getW env 6).bind fun x => (getW env 7).bind fun y => ixW x y).bind fun x => (W.ret (.int 1)).bind fun y => ixW x y).bind fun d => W.ret (.nx (env.set 8 (some d))))
def bSLaying_2 (env : Env) : LM.M Fl := (LM.thenM (((LM.M.lift (((W.ret (.str "lay")).bind fun d => ((W.ret (.str "lay")).bind fun d => ((W.ret (.str "lay")).bind fun d => ((W.ret (.str "off")).bind fun d => (W.ret []).bind fun ds => W.ret (d :: ds)).bind fun ds => W.ret (d :: ds)).bind fun ds => W.ret (d :: ds)).bind fun ds => W.ret (d :: ds)).bind lstW)).bind fun x => (((LM.M.lift (getW env 0)).bind fun d => ((LM.M.lift (W.ret (.int 4))).bind fun d => (LM.M.ret []).bind fun ds => LM.M.ret (d :: ds)).bind fun ds => LM.M.ret (d :: ds)).bind fDip).bind fun y => LM.M.lift (ixW x y)).bind fun d => LM.M.ret (.nx (env.set 10 (some d))))
  fun env => ((((LM.M.lift (getW env 10)).bind fun d => ((LM.M.lift (getW env 1)).bind fun d => ((LM.M.lift (getW env 3)).bind fun d => ((LM.M.lift (getW env 5)).bind fun d => ((LM.M.lift (getW env 7)).bind fun d => ((LM.M.lift (getW env 9)).bind fun d => (((LM.M.lift (((W.ret (.int 1)).bind fun d => ((W.ret (.int 1)).bind fun d => ((W.ret (.int 2)).bind fun d => ((W.ret (.int 3)).bind fun d => ((W.ret (.int 4)).bind fun d => ((W.ret (.int 9)).bind fun d => (W.ret []).bind fun ds => W.ret (d :: ds)).bind fun ds => W.ret (d :: ds)).bind fun ds => W.ret (d :: ds)).bind fun ds => W.ret (d :: ds)).bind fun ds => W.ret (d :: ds)).bind fun ds => W.ret (d :: ds)).bind lstW)).bind fun x => (((LM.M.lift (getW env 0)).bind fun d => ((LM.M.lift (W.ret (.int 6))).bind fun d => (LM.M.ret []).bind fun ds => LM.M.ret (d :: ds)).bind fun ds => LM.M.ret (d :: ds)).bind fDip).bind fun y => LM.M.lift (ixW x y)).bind fun d => (LM.M.ret []).bind fun ds => LM.M.ret (d :: ds)).bind fun ds => LM.M.ret (d :: ds)).bind fun ds => LM.M.ret (d :: ds)).bind fun ds => LM.M.ret (d :: ds)).bind fun ds => LM.M.ret (d :: ds)).bind fun ds => LM.M.ret (d :: ds)).bind fun ds => LM.M.ret (d :: ds)).bind fun ds => LM.M.lift (tupW ds)).bind fun d => LM.M.ret (.rt d)))
def bSLaying_3 (env : Env) : LM.M Fl := (LM.thenM (((((((LM.M.lift (getW env 0)).bind fun d => ((LM.M.lift (W.ret (.int 9))).bind fun d => (LM.M.ret []).bind fun ds => LM.M.ret (d :: ds)).bind fun ds => LM.M.ret (d :: ds)).bind fDip).bind fun x => (LM.M.lift (W.ret (.int 0))).bind fun y => LM.M.lift (gtW x y)).bind LM.asBM).bind fun k => LM.M.ite k ((LM.M.lift (getW env 8)).bind fun x => (((LM.M.lift (getW env 0)).bind fun d => ((LM.M.lift (((getW env 8).bind fun d => (W.ret []).bind fun ds => W.ret (d :: ds)).bind lenW)).bind fun d => (LM.M.ret []).bind fun ds => LM.M.ret (d :: ds)).bind fun ds => LM.M.ret (d :: ds)).bind fDip).bind fun y => LM.M.lift (ixW x y)) (LM.M.lift (W.ret (.str "pink")))).bind fun d => LM.M.ret (.nx (env.set 9 (some d))))
  fun env => (bSLaying_2 env))
def bSLaying_4 (env : Env) : LM.M Fl := (LM.thenM (LM.M.lift (((((getW env 7).bind fun x => (((getW env 6).bind fun d => (W.ret []).bind fun ds => W.ret (d :: ds)).bind lenW).bind fun y => ltW x y).bind asB).bind fun k => W.ite k (((((getW env 6).bind fun x => (getW env 7).bind fun y => ixW x y).bind fun x => (W.ret (.int 1)).bind fun y => ixW x y).bind fun x => ((W.ret []).bind tupW).bind fun y => neW x y).bind asB) (W.ret false)).bind fun k => W.ite k (bSLaying_1 env) (W.ret (.nx env))))
  fun env => (bSLaying_3 env))
def bSLaying_5 (env : Env) : LM.M Fl := (LM.thenM (LM.M.lift ((((W.ret (.str "blue")).bind fun d => ((W.ret (.str "red")).bind fun d => ((W.ret (.str "reds")).bind fun d => ((W.ret (.str "x")).bind fun d => (W.ret []).bind fun ds => W.ret (d :: ds)).bind fun ds => W.ret (d :: ds)).bind fun ds => W.ret (d :: ds)).bind fun ds => W.ret (d :: ds)).bind tupW).bind fun d => W.ret (.nx (env.set 8 (some d)))))
  fun env => (bSLaying_4 env))
def bSLaying_6 (env : Env) : LM.M Fl := (LM.thenM ((((LM.M.lift (getW env 0)).bind fun d => (((LM.M.lift (((getW env 6).bind fun d => (W.ret []).bind fun ds => W.ret (d :: ds)).bind lenW)).bind fun x => ((((LM.M.lift ((getW env 6).bind fun x => ((W.ret []).bind tupW).bind fun y => eqW x y)).bind fun d => (LM.asBM d).bind fun k => LM.M.ite k (LM.M.ret (.bl true)) ((((LM.M.lift (getW env 0)).bind fun d => ((LM.M.lift (W.ret (.int 12))).bind fun d => (LM.M.ret []).bind fun ds => LM.M.ret (d :: ds)).bind fun ds => LM.M.ret (d :: ds)).bind fDip).bind fun x => (LM.M.lift (W.ret (.int 0))).bind fun y => LM.M.lift (eqW x y))).bind fun d => (LM.M.ret []).bind fun ds => LM.M.ret (d :: ds)).bind fun ds => LM.M.lift (intW ds)).bind fun y => LM.M.lift (addW x y)).bind fun d => (LM.M.ret []).bind fun ds => LM.M.ret (d :: ds)).bind fun ds => LM.M.ret (d :: ds)).bind fDip).bind fun d => LM.M.ret (.nx (env.set 7 (some d))))
  fun env => (bSLaying_5 env))
def bSLaying_7 (env : Env) : LM.M Fl := (LM.thenM (LM.M.lift (((((getW env 5).bind fun x => (((getW env 4).bind fun d => (W.ret []).bind fun ds => W.ret (d :: ds)).bind lenW).bind fun y => ltW x y).bind asB).bind fun k => W.ite k ((getW env 4).bind fun x => (getW env 5).bind fun y => ixW x y) ((W.ret []).bind tupW)).bind fun d => W.ret (.nx (env.set 6 (some d)))))
  fun env => (bSLaying_6 env))
def bSLaying_8 (env : Env) : LM.M Fl := (LM.thenM ((((LM.M.lift (getW env 0)).bind fun d => (((LM.M.lift (((getW env 4).bind fun d => (W.ret []).bind fun ds => W.ret (d :: ds)).bind lenW)).bind fun x => ((((((LM.M.lift (getW env 0)).bind fun d => ((LM.M.lift (W.ret (.int 12))).bind fun d => (LM.M.ret []).bind fun ds => LM.M.ret (d :: ds)).bind fun ds => LM.M.ret (d :: ds)).bind fDip).bind fun x => (LM.M.lift (W.ret (.int 0))).bind fun y => LM.M.lift (eqW x y)).bind fun d => (LM.M.ret []).bind fun ds => LM.M.ret (d :: ds)).bind fun ds => LM.M.lift (intW ds)).bind fun y => LM.M.lift (addW x y)).bind fun d => (LM.M.ret []).bind fun ds => LM.M.ret (d :: ds)).bind fun ds => LM.M.ret (d :: ds)).bind fDip).bind fun d => LM.M.ret (.nx (env.set 5 (some d))))
  fun env => (bSLaying_7 env))
def bSLaying_9 (env : Env) : LM.M Fl := (LM.thenM (LM.M.lift (((((getW env 3).bind fun x => (((getW env 2).bind fun d => (W.ret []).bind fun ds => W.ret (d :: ds)).bind lenW).bind fun y => ltW x y).bind asB).bind fun k => W.ite k ((getW env 2).bind fun x => (getW env 3).bind fun y => ixW x y) ((((W.ret []).bind tupW).bind fun d => (W.ret []).bind fun ds => W.ret (d :: ds)).bind tupW)).bind fun d => W.ret (.nx (env.set 4 (some d)))))
  fun env => (bSLaying_8 env))
def bSLaying (env : Env) : LM.M Fl := (LM.thenM ((((LM.M.lift (getW env 0)).bind fun d => (((LM.M.lift (((getW env 2).bind fun d => (W.ret []).bind fun ds => W.ret (d :: ds)).bind lenW)).bind fun x => ((((LM.M.lift ((getW env 2).bind fun x => ((W.ret []).bind tupW).bind fun y => eqW x y)).bind fun d => (LM.asBM d).bind fun k => LM.M.ite k (LM.M.ret (.bl true)) ((((LM.M.lift (getW env 0)).bind fun d => ((LM.M.lift (W.ret (.int 12))).bind fun d => (LM.M.ret []).bind fun ds => LM.M.ret (d :: ds)).bind fun ds => LM.M.ret (d :: ds)).bind fDip).bind fun x => (LM.M.lift (W.ret (.int 0))).bind fun y => LM.M.lift (eqW x y))).bind fun d => (LM.M.ret []).bind fun ds => LM.M.ret (d :: ds)).bind fun ds => LM.M.lift (intW ds)).bind fun y => LM.M.lift (addW x y)).bind fun d => (LM.M.ret []).bind fun ds => LM.M.ret (d :: ds)).bind fun ds => LM.M.ret (d :: ds)).bind fDip).bind fun d => LM.M.ret (.nx (env.set 3 (some d))))
  fun env => (bSLaying_9 env))
def fSLaying : List D → LM.M D := LM.runM 3 11 bSLaying
def bSDeed_1 (env : Env) : LM.M Fl := (LM.thenM (((LM.M.lift (getW env 1)).bind fun d => (LM.dctAt d).bind fun _ => (LM.M.lift (getW env 4)).bind fun y => (((LM.M.lift (getW env 0)).bind fun d => (LM.M.ret []).bind fun ds => LM.M.ret (d :: ds)).bind fSSheet).bind fun z => LM.setdS d y z).bind fun _ => LM.M.ret (.nx env))
  fun env => ((((LM.M.lift (W.ret (.str "begin"))).bind fun d => ((LM.M.lift (getW env 4)).bind fun d => (((LM.M.lift (getW env 1)).bind fun d => (LM.M.lift (getW env 4)).bind fun y => LM.ixS d y).bind fun d => (LM.M.ret []).bind fun ds => LM.M.ret (d :: ds)).bind fun ds => LM.M.ret (d :: ds)).bind fun ds => LM.M.ret (d :: ds)).bind fun ds => LM.M.lift (tupW ds)).bind fun d => LM.M.ret (.rt d)))
def bSDeed_2 (env : Env) : LM.M Fl := (LM.thenM ((((LM.M.lift (getW env 0)).bind fun d => (((LM.M.lift (((W.ret (.int 1)).bind fun d => ((W.ret (.int 2)).bind fun d => (W.ret []).bind fun ds => W.ret (d :: ds)).bind fun ds => W.ret (d :: ds)).bind lstW)).bind fun x => (((LM.M.lift (getW env 0)).bind fun d => ((LM.M.lift (W.ret (.int 2))).bind fun d => (LM.M.ret []).bind fun ds => LM.M.ret (d :: ds)).bind fun ds => LM.M.ret (d :: ds)).bind fDip).bind fun y => LM.M.lift (ixW x y)).bind fun d => (LM.M.ret []).bind fun ds => LM.M.ret (d :: ds)).bind fun ds => LM.M.ret (d :: ds)).bind fSRows).bind fun d => LM.M.ret (.nx (env.set 5 (some d))))
  fun env => ((((LM.M.lift (getW env 3)).bind fun d => (((LM.M.lift (((getW env 3).bind fun x => (W.ret (.str "apart")).bind fun y => eqW x y).bind asB)).bind fun k => LM.M.ite k (LM.M.lift (getW env 4)) ((LM.M.lift (((W.ret (.str "ann")).bind fun d => ((W.ret (.str "bo")).bind fun d => (W.ret []).bind fun ds => W.ret (d :: ds)).bind fun ds => W.ret (d :: ds)).bind lstW)).bind fun x => (((LM.M.lift (getW env 0)).bind fun d => ((LM.M.lift (W.ret (.int 2))).bind fun d => (LM.M.ret []).bind fun ds => LM.M.ret (d :: ds)).bind fun ds => LM.M.ret (d :: ds)).bind fDip).bind fun y => LM.M.lift (ixW x y))).bind fun d => ((LM.M.lift (getW env 5)).bind fun d => (LM.M.ret []).bind fun ds => LM.M.ret (d :: ds)).bind fun ds => LM.M.ret (d :: ds)).bind fun ds => LM.M.ret (d :: ds)).bind fun ds => LM.M.lift (tupW ds)).bind fun d => LM.M.ret (.rt d)))
def bSDeed_3 (env : Env) : LM.M Fl := (LM.thenM ((LM.M.lift ((((getW env 3).bind fun x => (W.ret (.str "lay")).bind fun y => eqW x y).bind asB).bind fun k => W.ite k (W.ret true) (((getW env 3).bind fun x => (W.ret (.str "off")).bind fun y => eqW x y).bind asB))).bind fun k => LM.M.ite k ((((LM.M.lift (getW env 0)).bind fun d => ((LM.M.lift (getW env 4)).bind fun d => (((LM.M.lift (getW env 1)).bind fun d => (LM.M.lift (getW env 4)).bind fun y => LM.ixS d y).bind fun d => (LM.M.ret []).bind fun ds => LM.M.ret (d :: ds)).bind fun ds => LM.M.ret (d :: ds)).bind fun ds => LM.M.ret (d :: ds)).bind fSLaying).bind fun d => LM.M.ret (.rt d)) (LM.M.ret (.nx env)))
  fun env => (bSDeed_2 env))
def bSDeed_4 (env : Env) : LM.M Fl := (LM.thenM (((LM.M.lift (((getW env 3).bind fun x => (W.ret (.str "begin")).bind fun y => eqW x y).bind asB)).bind fun k => LM.M.ite k (LM.M.ret true) ((LM.M.lift (((getW env 3).bind fun x => (W.ret (.str "lend")).bind fun y => neW x y).bind asB)).bind fun k => LM.M.ite k ((LM.M.lift (((getW env 3).bind fun x => (W.ret (.str "bring")).bind fun y => neW x y).bind asB)).bind fun k => LM.M.ite k (((LM.M.lift (getW env 4)).bind fun y => (LM.M.lift (getW env 1)).bind fun d => LM.inK true d y).bind LM.asBM) (LM.M.ret false)) (LM.M.ret false))).bind fun k => LM.M.ite k (bSDeed_1 env) (LM.M.ret (.nx env)))
  fun env => (bSDeed_3 env))
def bSDeed_5 (env : Env) : LM.M Fl := (LM.thenM ((LM.M.lift (((getW env 3).bind fun x => (W.ret (.str "open")).bind fun y => eqW x y).bind asB)).bind fun k => LM.M.ite k ((((LM.M.lift (W.ret (.str "open"))).bind fun d => ((((LM.M.lift (getW env 0)).bind fun d => ((LM.M.lift (W.ret (.int 4))).bind fun d => (LM.M.ret []).bind fun ds => LM.M.ret (d :: ds)).bind fun ds => LM.M.ret (d :: ds)).bind fSRows).bind fun d => ((((LM.M.lift (getW env 0)).bind fun d => ((LM.M.lift (W.ret (.int 1))).bind fun d => (LM.M.ret []).bind fun ds => LM.M.ret (d :: ds)).bind fun ds => LM.M.ret (d :: ds)).bind fSRows).bind fun d => (LM.M.ret []).bind fun ds => LM.M.ret (d :: ds)).bind fun ds => LM.M.ret (d :: ds)).bind fun ds => LM.M.ret (d :: ds)).bind fun ds => LM.M.lift (tupW ds)).bind fun d => LM.M.ret (.rt d)) (LM.M.ret (.nx env)))
  fun env => (bSDeed_4 env))
def bSDeed_6 (env : Env) : LM.M Fl := (LM.thenM (((LM.M.lift (((W.ret (.str "barn")).bind fun d => ((W.ret (.str "barns")).bind fun d => ((W.ret (.str "mill")).bind fun d => (W.ret []).bind fun ds => W.ret (d :: ds)).bind fun ds => W.ret (d :: ds)).bind fun ds => W.ret (d :: ds)).bind lstW)).bind fun x => (((LM.M.lift (getW env 0)).bind fun d => ((LM.M.lift (W.ret (.int 3))).bind fun d => (LM.M.ret []).bind fun ds => LM.M.ret (d :: ds)).bind fun ds => LM.M.ret (d :: ds)).bind fDip).bind fun y => LM.M.lift (ixW x y)).bind fun d => LM.M.ret (.nx (env.set 4 (some d))))
  fun env => (bSDeed_5 env))
def bSDeed (env : Env) : LM.M Fl := (LM.thenM (((LM.M.lift (getW env 2)).bind fun x => (((LM.M.lift (getW env 0)).bind fun d => ((LM.M.lift (((getW env 2).bind fun d => (W.ret []).bind fun ds => W.ret (d :: ds)).bind lenW)).bind fun d => (LM.M.ret []).bind fun ds => LM.M.ret (d :: ds)).bind fun ds => LM.M.ret (d :: ds)).bind fDip).bind fun y => LM.M.lift (ixW x y)).bind fun d => LM.M.ret (.nx (env.set 3 (some d))))
  fun env => (bSDeed_6 env))
def fSDeed : List D → LM.M D := LM.runM 3 6 bSDeed
def bSTale_1 (env : Env) : LM.M Fl := ((((LM.M.lift (getW env 4)).bind fun d => ((LM.M.lift ((getW env 8).bind fun x => (W.ret (.int 1)).bind fun y => addW x y)).bind fun d => ((((LM.M.lift (getW env 0)).bind fun d => ((LM.M.lift (getW env 3)).bind fun d => ((LM.M.lift (getW env 2)).bind fun d => (LM.M.ret []).bind fun ds => LM.M.ret (d :: ds)).bind fun ds => LM.M.ret (d :: ds)).bind fun ds => LM.M.ret (d :: ds)).bind fSDeed).bind fun d => (LM.M.ret []).bind fun ds => LM.M.ret (d :: ds)).bind fun ds => LM.M.ret (d :: ds)).bind fun ds => LM.M.ret (d :: ds)).bind fun ds => LM.M.lift (tupW ds)).bind fun d => LM.putM env 7 (appW d))
def bSTale_2 (env : Env) : LM.M Fl := (LM.thenM (((LM.M.lift (getW env 4)).bind fun x => ((LM.M.lift (((W.ret (.int 0)).bind fun d => ((W.ret (.int 1)).bind fun d => ((W.ret (.int 1)).bind fun d => ((W.ret (.int 300)).bind fun d => (W.ret []).bind fun ds => W.ret (d :: ds)).bind fun ds => W.ret (d :: ds)).bind fun ds => W.ret (d :: ds)).bind fun ds => W.ret (d :: ds)).bind lstW)).bind fun x => (((LM.M.lift (getW env 0)).bind fun d => ((LM.M.lift (W.ret (.int 4))).bind fun d => (LM.M.ret []).bind fun ds => LM.M.ret (d :: ds)).bind fun ds => LM.M.ret (d :: ds)).bind fDip).bind fun y => LM.M.lift (ixW x y)).bind fun y => LM.M.lift (addW x y)).bind fun d => LM.M.ret (.nx (env.set 4 (some d))))
  fun env => (bSTale_1 env))
def bSTale_3 (env : Env) : LM.M Fl := (LM.thenM (((((LM.M.lift (W.ret (.int 1))).bind fun x => (((LM.M.lift (getW env 0)).bind fun d => ((LM.M.lift (getW env 1)).bind fun d => (LM.M.ret []).bind fun ds => LM.M.ret (d :: ds)).bind fun ds => LM.M.ret (d :: ds)).bind fDip).bind fun y => LM.M.lift (addW x y)).bind fun d => (LM.M.ret []).bind fun ds => LM.M.ret (d :: ds)).bind fun ds => LM.M.lift (range1W ds)).bind fun ds => LM.forM' (fun d env => W.ret (env.set 8 (some d))) (fun env => (bSTale_2 env)) ds env)
  fun env => (LM.M.lift ((getW env 7).bind fun d => W.ret (.rt d))))
def bSTale_4 (env : Env) : LM.M Fl := (LM.thenM ((((((LM.M.lift (getW env 4)).bind fun d => ((LM.M.lift (W.ret (.int 0))).bind fun d => ((((LM.M.lift (W.ret (.str "open"))).bind fun d => ((LM.M.lift (((getW env 5).bind fun d => (W.ret []).bind fun ds => W.ret (d :: ds)).bind tupleW)).bind fun d => ((((LM.M.lift (getW env 0)).bind fun d => ((LM.M.lift (W.ret (.int 1))).bind fun d => (LM.M.ret []).bind fun ds => LM.M.ret (d :: ds)).bind fun ds => LM.M.ret (d :: ds)).bind fSRows).bind fun d => (LM.M.ret []).bind fun ds => LM.M.ret (d :: ds)).bind fun ds => LM.M.ret (d :: ds)).bind fun ds => LM.M.ret (d :: ds)).bind fun ds => LM.M.lift (tupW ds)).bind fun d => (LM.M.ret []).bind fun ds => LM.M.ret (d :: ds)).bind fun ds => LM.M.ret (d :: ds)).bind fun ds => LM.M.ret (d :: ds)).bind fun ds => LM.M.lift (tupW ds)).bind fun d => (LM.M.ret []).bind fun ds => LM.M.ret (d :: ds)).bind fun ds => LM.M.lift (lstW ds)).bind fun d => (LM.M.want (7 < env.length)).bind fun _ => LM.M.ret (.nx (env.set 7 (some d))))
  fun env => (bSTale_3 env))
def bSTale_5 (env : Env) : LM.M Fl := (LM.thenM (((LM.M.lift (getW env 5)).bind fun x => (LM.lcDM (fun d env => W.ret (env.set 6 (some d))) (fun env => (LM.M.ret true)) (fun env => (((LM.M.lift (getW env 6)).bind fun d => ((LM.M.lift (W.ret (.str "red"))).bind fun d => (((LM.M.lift (W.ret (.int 2))).bind fun x => (((LM.M.lift (getW env 0)).bind fun d => ((LM.M.lift (W.ret (.int 6))).bind fun d => (LM.M.ret []).bind fun ds => LM.M.ret (d :: ds)).bind fun ds => LM.M.ret (d :: ds)).bind fDip).bind fun y => LM.M.lift (addW x y)).bind fun d => (LM.M.ret []).bind fun ds => LM.M.ret (d :: ds)).bind fun ds => LM.M.ret (d :: ds)).bind fun ds => LM.M.ret (d :: ds)).bind fun ds => LM.M.lift (tupW ds))) [6] (fun env => ((LM.M.lift (((W.ret (.str "a")).bind fun d => ((W.ret (.str "brick")).bind fun d => ((W.ret (.str "plate")).bind fun d => (W.ret []).bind fun ds => W.ret (d :: ds)).bind fun ds => W.ret (d :: ds)).bind fun ds => W.ret (d :: ds)).bind tupW)).bind fun d => LM.M.lift (walkTW d))) env).bind fun y => LM.M.lift (addW x y)).bind fun d => LM.M.ret (.nx (env.set 5 (some d))))
  fun env => (bSTale_4 env))
def bSTale_6 (env : Env) : LM.M Fl := (LM.thenM ((LM.lcDM (fun d env => W.ret (env.set 6 (some d))) (fun env => (LM.M.ret true)) (fun env => (((LM.M.lift (getW env 6)).bind fun d => ((LM.M.lift (W.ret (.str "blue"))).bind fun d => (((LM.M.lift (W.ret (.int 2))).bind fun x => (((LM.M.lift (getW env 0)).bind fun d => ((LM.M.lift (W.ret (.int 6))).bind fun d => (LM.M.ret []).bind fun ds => LM.M.ret (d :: ds)).bind fun ds => LM.M.ret (d :: ds)).bind fDip).bind fun y => LM.M.lift (addW x y)).bind fun d => (LM.M.ret []).bind fun ds => LM.M.ret (d :: ds)).bind fun ds => LM.M.ret (d :: ds)).bind fun ds => LM.M.ret (d :: ds)).bind fun ds => LM.M.lift (tupW ds))) [6] (fun env => ((LM.M.lift (((W.ret (.str "a")).bind fun d => ((W.ret (.str "brick")).bind fun d => ((W.ret (.str "plate")).bind fun d => (W.ret []).bind fun ds => W.ret (d :: ds)).bind fun ds => W.ret (d :: ds)).bind fun ds => W.ret (d :: ds)).bind tupW)).bind fun d => LM.M.lift (walkTW d))) env).bind fun d => LM.M.ret (.nx (env.set 5 (some d))))
  fun env => (bSTale_5 env))
def bSTale (env : Env) : LM.M Fl := (LM.thenM (((LM.alloc (.dct [] [])).bind fun d => ((((LM.M.lift (getW env 0)).bind fun d => ((LM.M.lift (W.ret (.int 3))).bind fun d => (LM.M.ret []).bind fun ds => LM.M.ret (d :: ds)).bind fun ds => LM.M.ret (d :: ds)).bind fDip).bind fun d => (LM.M.ret []).bind fun ds => LM.M.ret (d :: ds)).bind fun ds => LM.M.ret (d :: ds)).bind (LM.par2M 3 4 env))
  fun env => (bSTale_6 env))
def fSTale : List D → LM.M D := LM.runM 3 9 bSTale
end LP.HD
/-! Calls by names alone, in any order. -/
namespace LP
open PySem PySem.Spec PyProof.Rows L2 PK RZ
def permL {α : Type} (idx : List Nat) (l : List α) : List α := idx.filterMap fun i => l[i]?
structure CalK (Γ : Sig) (mg : Str → Option Value) (base : Heap) (k : Nat) (x : Str) (f : Addr) (fd : FuncData) (ps : List Str) (ks : List Str) (idx : List Nat) (p : List D → W D) : Prop where
  ok : FnOk Γ.P Γ.w Γ.K mg base CX0 k f fd ps (liF Γ p)
  g : mg x = some (.ref f)
  kp : PySem.W.keepIn Γ.K (.ref f) = true
  b : KB Γ.K fd ps 0 ks (fun _ zs => permL idx zs)
section
variable {X : Cx} {Γ : Sig} {fe : Fd} {H0 : Hp} {O : List Nat} {k : Nat} {f : Addr} {fd : FuncData} {ps ks : List Str} {idx : List Nat} {kws : List Keyword} {x : Str} {pp pos : Pos} {p : List D → W D} {pk : Env → W (List D)} {mg : Str → Option Value} {base : Heap}
end
end LP
namespace LP.K74
open PySem PySem.Spec PyProof.Rows L2 PK LP
open LP.HD
def bCop (self : List D → W D) (env : Env) : W Fl := (thenW (((((getW env 0).bind (isiW "tuple")).bind asB).bind fun k => W.ret !k).bind fun k => W.ite k ((getW env 0).bind fun d => W.ret (.rt d)) (W.ret (.nx env)))
  fun env => ((((lcD (fun d env => W.ret (env.set 1 (some d))) (fun env => (W.ret true)) (fun env => (((getW env 1).bind fun d => (W.ret []).bind fun ds => W.ret (d :: ds)).bind self)) [1] (fun env => ((getW env 0).bind walkTW)) env).bind fun d => (W.ret []).bind fun ds => W.ret (d :: ds)).bind tupleW).bind fun d => W.ret (.rt d)))
def fCop : Nat → List D → W D
  | 0 => fun _ => W.fail
  | n + 1 => runB 1 2 (bCop (fCop n))
def bWith (env : Env) : W Fl := (((((((getW env 1).bind fun x => (getW env 0).bind fun y => indW x y).bind asB).bind fun k => W.ite k (getW env 0) (((((((getW env 0).bind fun d => (starW d).bind fun xs => ((getW env 1).bind fun d => (W.ret []).bind fun ds => W.ret (d :: ds)).bind fun ds => W.ret (xs ++ ds)).bind lstW).bind fun d => (W.ret []).bind fun ds => W.ret (d :: ds)).bind sortPW).bind fun d => (W.ret []).bind fun ds => W.ret (d :: ds)).bind tupleW)).bind fun d => (W.ret []).bind fun ds => W.ret (d :: ds)).bind (fCop 12)).bind fun d => W.ret (.rt d))
def fWith : List D → W D := runB 2 2 bWith
def bWithout (env : Env) : W Fl := ((((lcD (fun d env => W.ret (env.set 2 (some d))) (fun env => (((getW env 2).bind fun x => (getW env 1).bind fun y => neW x y).bind asB)) (fun env => (((getW env 2).bind fun d => (W.ret []).bind fun ds => W.ret (d :: ds)).bind (fCop 12))) [2] (fun env => ((getW env 0).bind walkTW)) env).bind fun d => (W.ret []).bind fun ds => W.ret (d :: ds)).bind tupleW).bind fun d => W.ret (.rt d))
def fWithout : List D → W D := runB 2 3 bWithout
def bUntil (env : Env) : W Fl := ((((lcD (fun d env => W.ret (env.set 2 (some d))) (fun env => ((((getW env 1).bind fun x => (W.ret .non).bind fun y => isW x y).bind asB).bind fun k => W.ite k (W.ret true) ((((getW env 2).bind fun x => (W.ret (.int 0)).bind fun y => ixW x y).bind fun x => (getW env 1).bind fun y => leW x y).bind asB))) (fun env => (((getW env 2).bind fun d => (W.ret []).bind fun ds => W.ret (d :: ds)).bind (fCop 12))) [2] (fun env => ((getW env 0).bind walkTW)) env).bind fun d => (W.ret []).bind fun ds => W.ret (d :: ds)).bind tupleW).bind fun d => W.ret (.rt d))
def fUntil : List D → W D := runB 2 3 bUntil
def bClocks_1 (env : Env) : W Fl := (thenW ((((((getW env 1).bind fun x => (lcD (fun d env => W.ret (env.set 4 (some d))) (fun env => (W.ret true)) (fun env => ((getW env 4).bind fun x => (W.ret (.int 1)).bind fun y => addW x y)) [4] (fun env => ((getW env 1).bind walkLW)) env).bind fun y => addW x y).bind fun x => (lcD (fun d env => W.ret (env.set 4 (some d))) (fun env => (W.ret true)) (fun env => (((W.ret (.int 0)).bind fun d => (((getW env 4).bind fun x => (W.ret (.int 1)).bind fun y => subW x y).bind fun d => (W.ret []).bind fun ds => W.ret (d :: ds)).bind fun ds => W.ret (d :: ds)).bind max2W)) [4] (fun env => ((getW env 1).bind walkLW)) env).bind fun y => addW x y).bind fun d => (W.ret []).bind fun ds => W.ret (d :: ds)).bind sortSetW).bind fun d => W.ret (.nx (env.set 3 (some d))))
  fun env => (((getW env 3).bind fun x => (((W.ret .non).bind fun d => (W.ret []).bind fun ds => W.ret (d :: ds)).bind lstW).bind fun y => addW x y).bind fun d => W.ret (.rt d)))
def bClocks (env : Env) : W Fl := (thenW ((lcD (fun d env => W.ret (env.set 2 (some d))) (fun env => (W.ret true)) (fun env => ((getW env 2).bind fun x => (W.ret (.int 0)).bind fun y => ixW x y)) [2] (fun env => ((getW env 0).bind walkLW)) env).bind fun d => W.ret (.nx (env.set 1 (some d))))
  fun env => (bClocks_1 env))
def fClocks : List D → W D := runB 1 5 bClocks
def bUpTo (env : Env) : W Fl := ((lcD (fun d env => W.ret (env.set 2 (some d))) (fun env => ((((getW env 1).bind fun x => (W.ret .non).bind fun y => isW x y).bind asB).bind fun k => W.ite k (W.ret true) ((((getW env 2).bind fun x => (W.ret (.int 0)).bind fun y => ixW x y).bind fun x => (getW env 1).bind fun y => leW x y).bind asB))) (fun env => (getW env 2)) [2] (fun env => ((getW env 0).bind walkLW)) env).bind fun d => W.ret (.rt d))
def fUpTo : List D → W D := runB 2 3 bUpTo
def bLaw_1 (env : Env) : LM.M Fl := (LM.M.lift ((getW env 9).bind fun d => W.ret (.nx (env.set 4 (some d)))))
def bLaw_2 (env : Env) : LM.M Fl := (LM.thenM (((((LM.M.lift (getW env 6)).bind LM.neNilS).bind LM.asBM).bind fun k => LM.M.ite k (((((((LM.M.lift (getW env 9)).bind fun d => (((LM.M.lift (getW env 6)).bind fun d => (LM.M.lift (W.ret (.int 0))).bind fun y => LM.ixSL d y).bind fun d => (LM.M.ret []).bind fun ds => LM.M.ret (d :: ds)).bind fun ds => LM.M.ret (d :: ds)).bind fun ds => LM.M.lift (fWithout ds)).bind fun d => (LM.M.ret []).bind fun ds => LM.M.ret (d :: ds)).bind fun ds => LM.M.lift (reprD ds)).bind fun x => (LM.M.lift (((getW env 9).bind fun d => (W.ret []).bind fun ds => W.ret (d :: ds)).bind reprD)).bind fun y => LM.M.lift (neW x y)).bind LM.asBM) (LM.M.ret false)).bind fun k => LM.M.ite k (LM.M.lift ((W.ret (.bl false)).bind fun d => W.ret (.rt d))) (LM.M.ret (.nx env)))
  fun env => (bLaw_1 env))
def bLaw_3 (env : Env) : LM.M Fl := (LM.thenM (LM.M.lift (((((((((getW env 9).bind fun d => ((getW env 7).bind fun d => (W.ret []).bind fun ds => W.ret (d :: ds)).bind fun ds => W.ret (d :: ds)).bind fWith).bind fun d => (W.ret []).bind fun ds => W.ret (d :: ds)).bind reprD).bind fun x => (((getW env 9).bind fun d => (W.ret []).bind fun ds => W.ret (d :: ds)).bind reprD).bind fun y => neW x y).bind asB).bind fun k => W.ite k (W.ret true) (((((((getW env 9).bind fun d => ((getW env 7).bind fun d => (W.ret []).bind fun ds => W.ret (d :: ds)).bind fun ds => W.ret (d :: ds)).bind fWithout).bind fun d => (W.ret []).bind fun ds => W.ret (d :: ds)).bind reprD).bind fun x => (((getW env 4).bind fun d => (W.ret []).bind fun ds => W.ret (d :: ds)).bind reprD).bind fun y => neW x y).bind asB)).bind fun k => W.ite k ((W.ret (.bl false)).bind fun d => W.ret (.rt d)) (W.ret (.nx env))))
  fun env => (bLaw_2 env))
def bLaw_4 (env : Env) : LM.M Fl := (LM.thenM (((LM.M.lift (((((((getW env 4).bind fun d => ((getW env 7).bind fun d => (W.ret []).bind fun ds => W.ret (d :: ds)).bind fun ds => W.ret (d :: ds)).bind tupW).bind fun d => (W.ret []).bind fun ds => W.ret (d :: ds)).bind reprD).bind fun x => (getW env 8).bind fun y => neW x y).bind asB)).bind fun k => LM.M.ite k (LM.M.ret true) (((LM.M.lift (((getW env 9).bind fun d => (W.ret []).bind fun ds => W.ret (d :: ds)).bind reprD)).bind fun x => (((((((LM.M.lift (getW env 5)).bind fun d => (LM.M.ret []).bind fun ds => LM.M.ret (d :: ds)).bind LM.sortS).bind fun d => (LM.M.ret []).bind fun ds => LM.M.ret (d :: ds)).bind fun ds => LM.M.lift (tupleW ds)).bind fun d => (LM.M.ret []).bind fun ds => LM.M.ret (d :: ds)).bind fun ds => LM.M.lift (reprD ds)).bind fun y => LM.M.lift (neW x y)).bind LM.asBM)).bind fun k => LM.M.ite k (LM.M.lift ((W.ret (.bl false)).bind fun d => W.ret (.rt d))) (LM.M.ret (.nx env)))
  fun env => (bLaw_3 env))
def bLaw_5 (env : Env) : LM.M Fl := (LM.thenM (LM.M.lift ((((getW env 4).bind fun d => ((getW env 7).bind fun d => (W.ret []).bind fun ds => W.ret (d :: ds)).bind fun ds => W.ret (d :: ds)).bind fWith).bind fun d => W.ret (.nx (env.set 9 (some d)))))
  fun env => (bLaw_4 env))
def bLaw_6 (env : Env) : LM.M Fl := (LM.thenM (LM.M.lift ((((((getW env 4).bind fun d => ((getW env 7).bind fun d => (W.ret []).bind fun ds => W.ret (d :: ds)).bind fun ds => W.ret (d :: ds)).bind tupW).bind fun d => (W.ret []).bind fun ds => W.ret (d :: ds)).bind reprD).bind fun d => W.ret (.nx (env.set 8 (some d)))))
  fun env => (bLaw_5 env))
def bLaw_7 (env : Env) : LM.M Fl := (LM.thenM (((LM.M.lift (getW env 5)).bind fun d => (LM.lstAt d).bind fun _ => (LM.M.lift (getW env 7)).bind fun y => LM.appS d y).bind fun _ => LM.M.ret (.nx env))
  fun env => (bLaw_6 env))
def bLaw_8 (env : Env) : LM.M Fl := (LM.thenM (((LM.M.lift (getW env 6)).bind fun d => (LM.lstAt d).bind fun _ => ((((LM.M.lift (getW env 1)).bind fun d => ((((LM.M.lift (getW env 6)).bind fun d => (LM.M.ret []).bind fun ds => LM.M.ret (d :: ds)).bind LM.lenS).bind fun d => (LM.M.ret []).bind fun ds => LM.M.ret (d :: ds)).bind fun ds => LM.M.ret (d :: ds)).bind fDip).bind fun d => (LM.M.ret []).bind fun ds => LM.M.ret (d :: ds)).bind fun ds => LM.popM d ds).bind fun d => LM.M.ret (.nx (env.set 7 (some d))))
  fun env => (bLaw_7 env))
def bLaw_9 (env : Env) : W Fl := ((((((((((getW env 4).bind fun d => ((getW env 11).bind fun d => (W.ret []).bind fun ds => W.ret (d :: ds)).bind fun ds => W.ret (d :: ds)).bind fun ds => (W.ret []).bind fun zs => callN 2 0 0 0 fUntil ds zs).bind fun d => (W.ret []).bind fun ds => W.ret (d :: ds)).bind reprD).bind fun d => ((((((getW env 4).bind fun d => (W.ret []).bind fun ds => W.ret (d :: ds)).bind fun ds => ((getW env 11).bind fun d => (W.ret []).bind fun ds => W.ret (d :: ds)).bind fun zs => callN 1 1 0 0 fUntil ds zs).bind fun d => (W.ret []).bind fun ds => W.ret (d :: ds)).bind reprD).bind fun d => (W.ret []).bind fun ds => W.ret (d :: ds)).bind fun ds => W.ret (d :: ds)).bind lstW).bind fun x => (((getW env 12).bind fun d => ((getW env 12).bind fun d => (W.ret []).bind fun ds => W.ret (d :: ds)).bind fun ds => W.ret (d :: ds)).bind lstW).bind fun y => neTxW x y).bind asB).bind fun k => W.ite k ((W.ret (.bl false)).bind fun d => W.ret (.rt d)) (W.ret (.nx env)))
def bLaw_10 (env : Env) : W Fl := (thenW ((((((((getW env 10).bind fun d => ((getW env 11).bind fun d => (W.ret []).bind fun ds => W.ret (d :: ds)).bind fun ds => W.ret (d :: ds)).bind fUpTo).bind fun d => (W.ret []).bind fun ds => W.ret (d :: ds)).bind tupleW).bind fun d => (W.ret []).bind fun ds => W.ret (d :: ds)).bind reprD).bind fun d => W.ret (.nx (env.set 12 (some d))))
  fun env => (bLaw_9 env))
def bLaw_11 (env : Env) : LM.M Fl := (LM.thenM (LM.M.lift (((((getW env 10).bind fun d => (W.ret []).bind fun ds => W.ret (d :: ds)).bind fClocks).bind walkLW).bind fun ds => forW (fun d env => W.ret (env.set 11 (some d))) (fun env => (bLaw_10 env)) ds env))
  fun env => (LM.M.lift (((((((((getW env 4).bind fun d => (W.ret []).bind fun ds => W.ret (d :: ds)).bind fun ds => (W.ret []).bind fun zs => callN 1 0 0 1 fUntil ds zs).bind fun d => (((((W.ret []).bind tupW).bind fun d => (W.ret []).bind fun ds => W.ret (d :: ds)).bind fun ds => (W.ret []).bind fun zs => callN 1 0 0 1 fUntil ds zs).bind fun d => (((((W.ret []).bind tupW).bind fun d => (((getW env 3).bind fun x => (W.ret (.int 0)).bind fun y => ixW x y).bind fun d => (W.ret []).bind fun ds => W.ret (d :: ds)).bind fun ds => W.ret (d :: ds)).bind fWithout).bind fun d => (W.ret []).bind fun ds => W.ret (d :: ds)).bind fun ds => W.ret (d :: ds)).bind fun ds => W.ret (d :: ds)).bind lstW).bind fun d => (W.ret []).bind fun ds => W.ret (d :: ds)).bind reprD).bind fun x => (((((getW env 4).bind fun d => (((W.ret []).bind tupW).bind fun d => (((W.ret []).bind tupW).bind fun d => (W.ret []).bind fun ds => W.ret (d :: ds)).bind fun ds => W.ret (d :: ds)).bind fun ds => W.ret (d :: ds)).bind lstW).bind fun d => (W.ret []).bind fun ds => W.ret (d :: ds)).bind reprD).bind fun y => eqW x y).bind fun d => W.ret (.rt d))))
def bLaw_12 (env : Env) : LM.M Fl := (LM.thenM (LM.M.lift ((((getW env 4).bind fun d => (W.ret []).bind fun ds => W.ret (d :: ds)).bind listW).bind fun d => W.ret (.nx (env.set 10 (some d)))))
  fun env => (bLaw_11 env))
def bLaw_13 (env : Env) : LM.M Fl := (LM.thenM (LM.whileM (fun env => (((LM.M.lift (getW env 6)).bind LM.neNilS).bind LM.asBM)) (fun env => (bLaw_8 env)) env)
  fun env => (bLaw_12 env))
def bLaw_14 (env : Env) : LM.M Fl := (LM.thenM (((LM.M.lift ((W.ret []).bind tupW)).bind fun d => ((((LM.M.ret []).bind fun ds => LM.M.lift (lstW ds)).bind LM.alloc).bind fun d => (((((LM.M.lift (getW env 3)).bind fun d => (LM.M.ret []).bind fun ds => LM.M.ret (d :: ds)).bind fun ds => LM.M.lift (listW ds)).bind LM.alloc).bind fun d => (LM.M.ret []).bind fun ds => LM.M.ret (d :: ds)).bind fun ds => LM.M.ret (d :: ds)).bind fun ds => LM.M.ret (d :: ds)).bind (LM.par3M 4 5 6 env))
  fun env => (bLaw_13 env))
def bLaw_15 (env : Env) : LM.M Fl := (LM.thenM ((((LM.M.lift (getW env 1)).bind fun d => ((LM.M.lift (W.ret (.int 12))).bind fun d => ((LM.M.lift (getW env 2)).bind fun d => (LM.M.ret []).bind fun ds => LM.M.ret (d :: ds)).bind fun ds => LM.M.ret (d :: ds)).bind fun ds => LM.M.ret (d :: ds)).bind fSTale).bind fun d => LM.M.ret (.nx (env.set 3 (some d))))
  fun env => (bLaw_14 env))
def bLaw (env : Env) : LM.M Fl := (LM.thenM (LM.M.lift ((((W.ret (.str "open")).bind fun d => ((W.ret (.str "begin")).bind fun d => ((W.ret (.str "lay")).bind fun d => ((W.ret (.str "lay")).bind fun d => ((W.ret (.str "lay")).bind fun d => ((W.ret (.str "lay")).bind fun d => ((W.ret (.str "lay")).bind fun d => ((W.ret (.str "off")).bind fun d => ((W.ret (.str "apart")).bind fun d => ((W.ret (.str "lend")).bind fun d => ((W.ret (.str "bring")).bind fun d => (W.ret []).bind fun ds => W.ret (d :: ds)).bind fun ds => W.ret (d :: ds)).bind fun ds => W.ret (d :: ds)).bind fun ds => W.ret (d :: ds)).bind fun ds => W.ret (d :: ds)).bind fun ds => W.ret (d :: ds)).bind fun ds => W.ret (d :: ds)).bind fun ds => W.ret (d :: ds)).bind fun ds => W.ret (d :: ds)).bind fun ds => W.ret (d :: ds)).bind fun ds => W.ret (d :: ds)).bind lstW).bind fun d => W.ret (.nx (env.set 2 (some d)))))
  fun env => (bLaw_15 env))
end LP.K74
namespace LP.K74
open PySem PySem.Spec PyProof.Rows L2 PK LP RZ LP.HD
def topS (i : Nat) : Stmt := PySem.Challenge.pw_partkits_k74_tales.main.body.getD i (.Pass ⟨0, 0, 0, 0⟩)
section
variable {Γ : Sig} {mg : Str → Option Value} {base : Heap}
abbrev NDip : List Str := ["_law_hand_here", "_law_many", "_law_cells", "_law_at", "_law_rest", "_law_count", "_law_cell", "_law_mixed"]
theorem scDip : FnScope NDip ["_law_hand_here", "_law_many"] (defScope (topS 8)) := ⟨rfl, rfl, rfl, by decide +kernel, rfl, by decide +kernel, by decide +kernel⟩
theorem ok_Dip {f : Addr} {fd : FuncData} (F : Fun Γ.K "_law_dip" "_law_dip" (topS 8) f fd) (hB : NoB mg BL)  :
    FnOk Γ.P Γ.w Γ.K mg base CX0 1 f fd ["_law_hand_here", "_law_many"] (LM.liF Γ fDip) :=
  LM.ok_run F scDip rfl rfl (fun al cdv A outer s H E hr =>
  (LM.lss_cons (O2 := []) (LM.ls_unpS (n := 4) (vs := [2, 3, 4, 5]) rfl rfl (LM.fr fun _ _ => (le_var 0 (by decide) (pv 0))) (fun _ _ => (lgs_cons (lg_name 2 (by decide) (by decide) (pg_name (i := 2) scDip.nd rfl (.inl rfl))) (lgs_cons (lg_name 3 (by decide) (by decide) (pg_name (i := 3) scDip.nd rfl (.inl rfl))) (lgs_cons (lg_name 4 (by decide) (by decide) (pg_name (i := 4) scDip.nd rfl (.inl rfl))) (lgs_cons (lg_name 5 (by decide) (by decide) (pg_name (i := 5) scDip.nd rfl (.inl rfl))) lgs_nil))))))
  (LM.lss_cons (O2 := []) (LM.ls_isetS (LM.fr fun _ _ => (le_var 0 (by decide) (pv 0))) (LM.fr fun _ _ => le_int) (LM.fr fun _ _ => (le_add rfl (lb_var 5 (pv 5)) (lb le_int))) (ps_asg (LM.fr fun _ _ => (le_add rfl (lb_var 5 (pv 5)) (lb le_int))) (pg_sub (LM.fr fun _ _ => (le_var 0 (by decide) (pv 0))) (LM.fr fun _ _ => le_int) set_list)))
  (LM.lss_cons (O2 := []) (LM.ls_if (O' := []) (LM.frT fun _ _ => (lt_gt (lb_var 4 (pv 4)) (lb le_int)))
  (LM.lss_cons (O2 := []) (LM.ls_isetS (LM.fr fun _ _ => (le_var 0 (by decide) (pv 0))) (LM.fr fun _ _ => le_int) (LM.fr fun _ _ => (le_fdiv (lb_var 4 (pv 4)) (lb_var 1 (pv 1)))) (ps_asg (LM.fr fun _ _ => (le_fdiv (lb_var 4 (pv 4)) (lb_var 1 (pv 1)))) (pg_sub (LM.fr fun _ _ => (le_var 0 (by decide) (pv 0))) (LM.fr fun _ _ => le_int) set_list)))
  (LM.lss_one (LM.frS fun _ _ => (ls_ret (le_mod (lb_var 4 (pv 4)) (lb_var 1 (pv 1))))))) LM.lss_nil)
  (LM.lss_cons (O2 := []) (LM.ls_isetS (LM.fr fun _ _ => (le_var 0 (by decide) (pv 0))) (LM.fr fun _ _ => le_int) (LM.fr fun _ _ => (le_add rfl (lb_var 3 (pv 3)) (lb le_int))) (ps_asg (LM.fr fun _ _ => (le_add rfl (lb_var 3 (pv 3)) (lb le_int))) (pg_sub (LM.fr fun _ _ => (le_var 0 (by decide) (pv 0))) (LM.fr fun _ _ => le_int) set_list)))
  (LM.lss_cons (O2 := []) (LM.ls_set (O' := []) (i := 6) scDip.nd rfl (.inl rfl) (LM.le_if (LM.lt_neNilS hr rfl (LM.lb_var 2 (pv 2))) (LM.le_ixSL rfl (fun _ _ => rfl) (LM.lb_var 2 (pv 2)) (LM.lb (LM.le_mod (LM.lb_var 3 (pv 3)) (LM.lb (LM.le_lenS rfl (by rfl) (hB "len" (by decide +kernel)) (LM.lab_cons (LM.lb_var 2 (pv 2)) LM.lab_nil)))))) (LM.fr fun _ _ => le_int)))
  (LM.lss_cons (O2 := []) (LM.ls_if (O' := []) (PW.pt (LM.lw_and (LM.frT fun _ _ => (lt_ge (lb_var 6 (pv 6)) (lb (le_pow (lb le_int) (lb le_int))))) (LM.lw_and1 (LM.lt_lt (LM.lb_var 3 (pv 3)) (LM.lb (LM.le_lenS rfl (by rfl) (hB "len" (by decide +kernel)) (LM.lab_cons (LM.lb_var 2 (pv 2)) LM.lab_nil)))))))
  (LM.lss_cons (O2 := []) (LM.ls_isetS (LM.fr fun _ _ => (le_var 0 (by decide) (pv 0))) (LM.fr fun _ _ => le_int) (LM.fr fun _ _ => (le_fdiv (lb_var 6 (pv 6)) (lb_var 1 (pv 1)))) (ps_asg (LM.fr fun _ _ => (le_fdiv (lb_var 6 (pv 6)) (lb_var 1 (pv 1)))) (pg_sub (LM.fr fun _ _ => (le_var 0 (by decide) (pv 0))) (LM.fr fun _ _ => le_int) set_list)))
  (LM.lss_one (LM.frS fun _ _ => (ls_ret (le_mod (lb_var 6 (pv 6)) (lb_var 1 (pv 1))))))) LM.lss_nil)
  (LM.lss_cons (O2 := []) (LM.frS fun _ _ => (ls_set (O' := []) (i := 7) scDip.nd rfl (.inl rfl) (le_add rfl (lb (le_add rfl (lb (le_add rfl (lb (le_mod (lb_var 6 (pv 6)) (lb le_int))) (lb (le_mul rfl (lb (le_mul rfl (lb le_int) (lb_var 5 (pv 5)))) (lb_var 5 (pv 5)))))) (lb (le_mul rfl (lb le_int) (lb_var 5 (pv 5)))))) (lb le_int))))
  (LM.lss_cons (O2 := []) (LM.frS fun _ _ => (ls_set (O' := []) (i := 7) scDip.nd rfl (.inl rfl) (le_mod (lb (le_mul rfl (lb_var 7 (pv 7)) (lb_var 7 (pv 7)))) (lb le_int))))
  (LM.lss_cons (O2 := []) (LM.frS fun _ _ => (ls_set (O' := []) (i := 7) scDip.nd rfl (.inl rfl) (le_mod (lb (le_pow (lb (le_add rfl (lb (le_add rfl (lb_var 7 (pv 7)) (lb (le_mul rfl (lb le_int) (lb_var 5 (pv 5)))))) (lb le_int))) (lb le_int))) (lb le_int))))
  (LM.lss_cons (O2 := []) (LM.frS fun _ _ => (ls_set (O' := []) (i := 7) scDip.nd rfl (.inl rfl) (le_mod (lb (le_pow (lb (le_add rfl (lb (le_add rfl (lb_var 7 (pv 7)) (lb (le_mul rfl (lb (le_mod (lb_var 6 (pv 6)) (lb le_int))) (lb le_int))))) (lb_var 5 (pv 5)))) (lb le_int))) (lb le_int))))
  (LM.lss_one (LM.frS fun _ _ => (ls_ret (le_mod (lb (le_fdiv (lb_var 7 (pv 7)) (lb le_int))) (lb_var 1 (pv 1)))))))))))))))))
abbrev NSRows : List Str := ["_law_hand_here", "_law_most_now", "_law_found", "_law_k", "_law_form", "_law_shade", "_law_few", "_law_more"]
theorem scSRows : FnScope NSRows ["_law_hand_here", "_law_most_now"] (defScope (topS 9)) := ⟨rfl, rfl, rfl, by decide +kernel, rfl, by decide +kernel, by decide +kernel⟩
theorem ok_SRows {f : Addr} {fd : FuncData} (F : Fun Γ.K "_law_some_rows" "_law_some_rows" (topS 9) f fd) (hB : NoB mg BL)  {gDip : Addr} {dDip : FuncData} (CDip : LM.CalM Γ mg base 1 "_law_dip" gDip dDip ["_law_hand_here", "_law_many"] fDip) :
    FnOk Γ.P Γ.w Γ.K mg base CX0 2 f fd ["_law_hand_here", "_law_most_now"] (LM.liF Γ fSRows) :=
  LM.ok_run F scSRows rfl rfl (fun al cdv A outer s H E hr =>
  (LM.lss_cons (O2 := [2]) (LM.frS fun _ _ => (ls_own (O' := []) (i := 2) scSRows.nd rfl (.inl rfl) (ln_lst la_nil)))
  (LM.lss_cons (O2 := []) (LM.ls_for (vs := [3]) PassesOwn.never rfl (LM.li_range (by rfl) (hB "range" (by decide +kernel)) (LM.la_cons (LM.le_call CDip rfl rfl rfl rfl rfl (hr.mono (by decide)) (by rfl) (LM.la_cons (LM.fr fun _ _ => (le_var 0 (by decide) (pv 0))) (LM.la_cons (LM.fr fun _ _ => (le_add rfl (lb_var 1 (pv 1)) (lb le_int))) LM.la_nil))) LM.la_nil)) (LM.frG fun _ _ => (lg_name 3 (by decide) (by decide) (pg_name (i := 3) scSRows.nd rfl (.inl rfl))))
  (LM.lss_cons (O2 := [2]) (LM.ls_set (O' := [2]) (i := 4) scSRows.nd rfl (.inl rfl) (LM.le_item rfl (fun _ _ => rfl) (LM.lb (LM.fr fun _ _ => (le_lst (la_cons le_str (la_cons le_str (la_cons le_str la_nil)))))) (LM.lb (LM.le_call CDip rfl rfl rfl rfl rfl (hr.mono (by decide)) (by rfl) (LM.la_cons (LM.fr fun _ _ => (le_var 0 (by decide) (pv 0))) (LM.la_cons (LM.fr fun _ _ => le_int) LM.la_nil))))))
  (LM.lss_cons (O2 := [2]) (LM.ls_set (O' := [2]) (i := 5) scSRows.nd rfl (.inl rfl) (LM.le_item rfl (fun _ _ => rfl) (LM.lb (LM.fr fun _ _ => (le_lst (la_cons le_str (la_cons le_str (la_cons le_str (la_cons le_str la_nil))))))) (LM.lb (LM.le_call CDip rfl rfl rfl rfl rfl (hr.mono (by decide)) (by rfl) (LM.la_cons (LM.fr fun _ _ => (le_var 0 (by decide) (pv 0))) (LM.la_cons (LM.fr fun _ _ => le_int) LM.la_nil))))))
  (LM.lss_cons (O2 := [2]) (LM.ls_par (i := 6) (j := 7) rfl scSRows.nd rfl rfl (by decide) rfl rfl (LM.la_cons (LM.le_add rfl (LM.lb (LM.fr fun _ _ => le_int)) (LM.lb (LM.le_call CDip rfl rfl rfl rfl rfl (hr.mono (by decide)) (by rfl) (LM.la_cons (LM.fr fun _ _ => (le_var 0 (by decide) (pv 0))) (LM.la_cons (LM.fr fun _ _ => le_int) LM.la_nil))))) (LM.la_cons (LM.le_add rfl (LM.lb (LM.fr fun _ _ => le_int)) (LM.lb (LM.le_call CDip rfl rfl rfl rfl rfl (hr.mono (by decide)) (by rfl) (LM.la_cons (LM.fr fun _ _ => (le_var 0 (by decide) (pv 0))) (LM.la_cons (LM.fr fun _ _ => le_int) LM.la_nil))))) LM.la_nil)) (by rfl) (by decide) (by decide))
  (LM.lss_last (LM.ls_append (i := 2) (by decide) (pe_bm PySem.F.plainAttrs_list PySem.F.slot_list_append PySem.F.type_list_append mt_append (pv 2) (pa_cons (LM.le_tup (LM.la_cons (LM.fr fun _ _ => (le_var 4 (by decide) (pv 4))) (LM.la_cons (LM.fr fun _ _ => (le_var 5 (by decide) (pv 5))) (LM.la_cons (LM.le_item rfl (fun _ _ => rfl) (LM.lb (LM.fr fun _ _ => (le_lst (la_cons (le_var 6 (by decide) (pv 6)) (la_cons (le_var 7 (by decide) (pv 7)) (la_cons (le_pow (lb le_int) (lb le_int)) la_nil)))))) (LM.lb (LM.le_fdiv (LM.lb (LM.le_call CDip rfl rfl rfl rfl rfl (hr.mono (by decide)) (by rfl) (LM.la_cons (LM.fr fun _ _ => (le_var 0 (by decide) (pv 0))) (LM.la_cons (LM.fr fun _ _ => le_int) LM.la_nil)))) (LM.lb (LM.fr fun _ _ => le_int))))) LM.la_nil)))) pa_nil))))))))
  (LM.lss_one (LM.frS fun _ _ => (ls_ret (le_tuple rfl (by rfl) (hB "tuple" (by decide +kernel)) (lab_cons (lb_var 2 (pv 2)) lab_nil))))))))
abbrev NSWant : List Str := ["_law_hand_here", "_law_shades"]
theorem scSWant : FnScope NSWant ["_law_hand_here"] (defScope (topS 10)) := ⟨rfl, rfl, rfl, by decide +kernel, rfl, by decide +kernel, by decide +kernel⟩
theorem ok_SWant {f : Addr} {fd : FuncData} (F : Fun Γ.K "_law_some_want" "_law_some_want" (topS 10) f fd) (hB : NoB mg BL)  {gDip : Addr} {dDip : FuncData} (CDip : LM.CalM Γ mg base 1 "_law_dip" gDip dDip ["_law_hand_here", "_law_many"] fDip) :
    FnOk Γ.P Γ.w Γ.K mg base CX0 2 f fd ["_law_hand_here"] (LM.liF Γ fSWant) :=
  LM.ok_run F scSWant rfl rfl (fun al cdv A outer s H E hr =>
  (LM.lss_cons (O2 := []) (LM.ls_set (O' := []) (i := 1) scSWant.nd rfl (.inl rfl) (LM.le_item rfl (fun _ _ => rfl) (LM.lb (LM.fr fun _ _ => (le_lst (la_cons (le_lst la_nil) (la_cons (le_lst (la_cons le_str la_nil)) (la_cons (le_lst (la_cons le_str la_nil)) (la_cons (le_lst (la_cons le_str (la_cons le_str la_nil))) (la_cons (le_lst (la_cons le_str (la_cons le_str (la_cons le_str la_nil)))) la_nil)))))))) (LM.lb (LM.le_call CDip rfl rfl rfl rfl rfl (hr.mono (by decide)) (by rfl) (LM.la_cons (LM.fr fun _ _ => (le_var 0 (by decide) (pv 0))) (LM.la_cons (LM.fr fun _ _ => le_int) LM.la_nil))))))
  (LM.lss_one (LM.ls_ret (LM.le_tup (LM.la_cons (LM.le_item rfl (fun _ _ => rfl) (LM.lb (LM.fr fun _ _ => (le_lst (la_cons le_str (la_cons le_str (la_cons le_str la_nil)))))) (LM.lb (LM.le_call CDip rfl rfl rfl rfl rfl (hr.mono (by decide)) (by rfl) (LM.la_cons (LM.fr fun _ _ => (le_var 0 (by decide) (pv 0))) (LM.la_cons (LM.fr fun _ _ => le_int) LM.la_nil))))) (LM.la_cons (LM.fr fun _ _ => (le_tuple rfl (by rfl) (hB "tuple" (by decide +kernel)) (lab_cons (lb_var 1 (pv 1)) lab_nil))) (LM.la_cons (LM.le_add rfl (LM.lb (LM.fr fun _ _ => le_int)) (LM.lb (LM.le_call CDip rfl rfl rfl rfl rfl (hr.mono (by decide)) (by rfl) (LM.la_cons (LM.fr fun _ _ => (le_var 0 (by decide) (pv 0))) (LM.la_cons (LM.fr fun _ _ => le_int) LM.la_nil))))) LM.la_nil))))))))
abbrev NSSheet : List Str := ["_law_hand_here", "_law_found", "_law_k", "_law_ways", "_law_j", "_law_i"]
theorem scSSheet : FnScope NSSheet ["_law_hand_here"] (defScope (topS 11)) := ⟨rfl, rfl, rfl, by decide +kernel, rfl, by decide +kernel, by decide +kernel⟩
theorem ok_SSheet {f : Addr} {fd : FuncData} (F : Fun Γ.K "_law_some_sheet" "_law_some_sheet" (topS 11) f fd) (hB : NoB mg BL)  {gDip : Addr} {dDip : FuncData} (CDip : LM.CalM Γ mg base 1 "_law_dip" gDip dDip ["_law_hand_here", "_law_many"] fDip) {gSWant : Addr} {dSWant : FuncData} (CSWant : LM.CalM Γ mg base 2 "_law_some_want" gSWant dSWant ["_law_hand_here"] fSWant) :
    FnOk Γ.P Γ.w Γ.K mg base CX0 3 f fd ["_law_hand_here"] (LM.liF Γ fSSheet) :=
  LM.ok_run F scSSheet rfl rfl (fun al cdv A outer s H E hr =>
  (LM.lss_cons (O2 := [1]) (LM.frS fun _ _ => (ls_own (O' := []) (i := 1) scSSheet.nd rfl (.inl rfl) (ln_lst la_nil)))
  (LM.lss_cons (O2 := []) (LM.ls_for (vs := [2]) PassesOwn.never rfl (LM.li_range (by rfl) (hB "range" (by decide +kernel)) (LM.la_cons (LM.le_item rfl (fun _ _ => rfl) (LM.lb (LM.fr fun _ _ => (le_lst (la_cons le_int (la_cons le_int (la_cons le_int (la_cons le_int la_nil))))))) (LM.lb (LM.le_fdiv (LM.lb (LM.le_call CDip rfl rfl rfl rfl rfl (hr.mono (by decide)) (by rfl) (LM.la_cons (LM.fr fun _ _ => (le_var 0 (by decide) (pv 0))) (LM.la_cons (LM.fr fun _ _ => le_int) LM.la_nil)))) (LM.lb (LM.fr fun _ _ => le_int))))) LM.la_nil)) (LM.frG fun _ _ => (lg_name 2 (by decide) (by decide) (pg_name (i := 2) scSSheet.nd rfl (.inl rfl))))
  (LM.lss_cons (O2 := [3, 1]) (LM.frS fun _ _ => (ls_own (O' := [1]) (i := 3) scSSheet.nd rfl (.inl rfl) (ln_lst la_nil)))
  (LM.lss_cons (O2 := [1]) (LM.ls_for (vs := [4]) PassesOwn.never rfl (LM.li_range (by rfl) (hB "range" (by decide +kernel)) (LM.la_cons (LM.le_item rfl (fun _ _ => rfl) (LM.lb (LM.fr fun _ _ => (le_lst (la_cons le_int (la_cons le_int (la_cons le_int (la_cons le_int la_nil))))))) (LM.lb (LM.le_call CDip rfl rfl rfl rfl rfl (hr.mono (by decide)) (by rfl) (LM.la_cons (LM.fr fun _ _ => (le_var 0 (by decide) (pv 0))) (LM.la_cons (LM.fr fun _ _ => le_int) LM.la_nil))))) LM.la_nil)) (LM.frG fun _ _ => (lg_name 4 (by decide) (by decide) (pg_name (i := 4) scSSheet.nd rfl (.inl rfl))))
  (LM.lss_last (LM.ls_append (i := 3) (by decide) (pe_bm PySem.F.plainAttrs_list PySem.F.slot_list_append PySem.F.type_list_append mt_append (pv 3) (pa_cons (LM.le_tuple rfl (by rfl) (hB "tuple" (by decide +kernel)) (LM.lab_cons (LM.lb (LM.le_new (LM.ln_lc (own := [("_law_i", 5)]) rfl scSSheet.nd (LM.li_range (by rfl) (hB "range" (by decide +kernel)) (LM.la_cons (LM.le_item rfl (fun _ _ => rfl) (LM.lb (LM.fr fun _ _ => (le_lst (la_cons le_int (la_cons le_int (la_cons le_int (la_cons le_int la_nil))))))) (LM.lb (LM.le_call CDip rfl rfl rfl rfl rfl (hr.mono (by decide)) (by rfl) (LM.la_cons (LM.fr fun _ _ => (le_var 0 (by decide) (pv 0))) (LM.la_cons (LM.fr fun _ _ => le_int) LM.la_nil))))) LM.la_nil)) (blkOk_by (N := NSSheet) (sc := defScope (topS 11)) (own := [("_law_i", 5)]) (by decide +kernel)) (by decide) (fun _ _ _ _ _ => (LM.frG fun _ _ => (lg_name 5 (by decide) (by decide) (pg_name (i := 5) scSSheet.nd rfl (.inl rfl))))) (fun _ _ _ _ _ => LM.lts_nil) (fun _ _ _ _ _ => (LM.le_call CSWant rfl rfl rfl rfl rfl (hr.mono (by decide)) (by rfl) (LM.la_cons (LM.fr fun _ _ => (le_var 0 (by decide) (pv 0))) LM.la_nil)))))) LM.lab_nil)) pa_nil)))))
  (LM.lss_last (LM.frS fun _ _ => (ls_append (i := 1) (by decide) (pe_bm PySem.F.plainAttrs_list PySem.F.slot_list_append PySem.F.type_list_append mt_append (pv 1) (pa_cons (le_tuple rfl (by rfl) (hB "tuple" (by decide +kernel)) (lab_cons (lb_var 3 (pv 3)) lab_nil)) pa_nil))))))))
  (LM.lss_one (LM.frS fun _ _ => (ls_ret (le_tuple rfl (by rfl) (hB "tuple" (by decide +kernel)) (lab_cons (lb_var 1 (pv 1)) lab_nil))))))))
abbrev NSLaying : List Str := ["_law_hand_here", "_law_name", "_law_sheet", "_law_row", "_law_ways", "_law_way", "_law_wants", "_law_want", "_law_shades", "_law_shade", "_law_word"]
theorem scSLaying : FnScope NSLaying ["_law_hand_here", "_law_name", "_law_sheet"] (defScope (topS 12)) := ⟨rfl, rfl, rfl, by decide +kernel, rfl, by decide +kernel, by decide +kernel⟩
theorem ok_SLaying {f : Addr} {fd : FuncData} (F : Fun Γ.K "_law_some_laying" "_law_some_laying" (topS 12) f fd) (hB : NoB mg BL)  {gDip : Addr} {dDip : FuncData} (CDip : LM.CalM Γ mg base 1 "_law_dip" gDip dDip ["_law_hand_here", "_law_many"] fDip) :
    FnOk Γ.P Γ.w Γ.K mg base CX0 2 f fd ["_law_hand_here", "_law_name", "_law_sheet"] (LM.liF Γ fSLaying) :=
  LM.ok_run F scSLaying rfl rfl (fun al cdv A outer s H E hr =>
  (LM.lss_cons (O2 := []) (LM.ls_set (O' := []) (i := 3) scSLaying.nd rfl (.inl rfl) (LM.le_call CDip rfl rfl rfl rfl rfl (hr.mono (by decide)) (by rfl) (LM.la_cons (LM.fr fun _ _ => (le_var 0 (by decide) (pv 0))) (LM.la_cons (LM.le_add rfl (LM.lb (LM.fr fun _ _ => (le_len rfl (by rfl) (hB "len" (by decide +kernel)) (lab_cons (lb_var 2 (pv 2)) lab_nil)))) (LM.lb (LM.le_intOf (by rfl) (hB "int" (by decide +kernel)) (LM.lab_cons (LM.lb (LM.le_or (LM.fr fun _ _ => (le_eq hr rfl (lb_var 2 (pv 2)) (lb (le_tup la_nil)))) (LM.le_one (LM.le_eq hr rfl (LM.lb (LM.le_call CDip rfl rfl rfl rfl rfl (hr.mono (by decide)) (by rfl) (LM.la_cons (LM.fr fun _ _ => (le_var 0 (by decide) (pv 0))) (LM.la_cons (LM.fr fun _ _ => le_int) LM.la_nil)))) (LM.lb (LM.fr fun _ _ => le_int)))))) LM.lab_nil)))) LM.la_nil))))
  (LM.lss_cons (O2 := []) (LM.frS fun _ _ => (ls_set (O' := []) (i := 4) scSLaying.nd rfl (.inl rfl) (le_if (lt_lt (lb_var 3 (pv 3)) (lb (le_len rfl (by rfl) (hB "len" (by decide +kernel)) (lab_cons (lb_var 2 (pv 2)) lab_nil)))) (le_item rfl (fun _ _ => rfl) (lb_var 2 (pv 2)) (lb_var 3 (pv 3))) (le_tup (la_cons (le_tup la_nil) la_nil)))))
  (LM.lss_cons (O2 := []) (LM.ls_set (O' := []) (i := 5) scSLaying.nd rfl (.inl rfl) (LM.le_call CDip rfl rfl rfl rfl rfl (hr.mono (by decide)) (by rfl) (LM.la_cons (LM.fr fun _ _ => (le_var 0 (by decide) (pv 0))) (LM.la_cons (LM.le_add rfl (LM.lb (LM.fr fun _ _ => (le_len rfl (by rfl) (hB "len" (by decide +kernel)) (lab_cons (lb_var 4 (pv 4)) lab_nil)))) (LM.lb (LM.le_intOf (by rfl) (hB "int" (by decide +kernel)) (LM.lab_cons (LM.lb (LM.le_eq hr rfl (LM.lb (LM.le_call CDip rfl rfl rfl rfl rfl (hr.mono (by decide)) (by rfl) (LM.la_cons (LM.fr fun _ _ => (le_var 0 (by decide) (pv 0))) (LM.la_cons (LM.fr fun _ _ => le_int) LM.la_nil)))) (LM.lb (LM.fr fun _ _ => le_int)))) LM.lab_nil)))) LM.la_nil))))
  (LM.lss_cons (O2 := []) (LM.frS fun _ _ => (ls_set (O' := []) (i := 6) scSLaying.nd rfl (.inl rfl) (le_if (lt_lt (lb_var 5 (pv 5)) (lb (le_len rfl (by rfl) (hB "len" (by decide +kernel)) (lab_cons (lb_var 4 (pv 4)) lab_nil)))) (le_item rfl (fun _ _ => rfl) (lb_var 4 (pv 4)) (lb_var 5 (pv 5))) (le_tup la_nil))))
  (LM.lss_cons (O2 := []) (LM.ls_set (O' := []) (i := 7) scSLaying.nd rfl (.inl rfl) (LM.le_call CDip rfl rfl rfl rfl rfl (hr.mono (by decide)) (by rfl) (LM.la_cons (LM.fr fun _ _ => (le_var 0 (by decide) (pv 0))) (LM.la_cons (LM.le_add rfl (LM.lb (LM.fr fun _ _ => (le_len rfl (by rfl) (hB "len" (by decide +kernel)) (lab_cons (lb_var 6 (pv 6)) lab_nil)))) (LM.lb (LM.le_intOf (by rfl) (hB "int" (by decide +kernel)) (LM.lab_cons (LM.lb (LM.le_or (LM.fr fun _ _ => (le_eq hr rfl (lb_var 6 (pv 6)) (lb (le_tup la_nil)))) (LM.le_one (LM.le_eq hr rfl (LM.lb (LM.le_call CDip rfl rfl rfl rfl rfl (hr.mono (by decide)) (by rfl) (LM.la_cons (LM.fr fun _ _ => (le_var 0 (by decide) (pv 0))) (LM.la_cons (LM.fr fun _ _ => le_int) LM.la_nil)))) (LM.lb (LM.fr fun _ _ => le_int)))))) LM.lab_nil)))) LM.la_nil))))
  (LM.lss_cons (O2 := []) (LM.frS fun _ _ => (ls_set (O' := []) (i := 8) scSLaying.nd rfl (.inl rfl) (le_tup (la_cons le_str (la_cons le_str (la_cons le_str (la_cons le_str la_nil)))))))
  (LM.lss_cons (O2 := []) (LM.frS fun _ _ => (ls_if (O' := []) (PW.pt (lw_and (lt_lt (lb_var 7 (pv 7)) (lb (le_len rfl (by rfl) (hB "len" (by decide +kernel)) (lab_cons (lb_var 6 (pv 6)) lab_nil)))) (lw_and1 (lt_ne hr rfl (lb (le_item rfl (fun _ _ => rfl) (lb (le_item rfl (fun _ _ => rfl) (lb_var 6 (pv 6)) (lb_var 7 (pv 7)))) (lb le_int))) (lb (le_tup la_nil))))))
  (lss_last (ls_set (O' := []) (i := 8) scSLaying.nd rfl (.inl rfl) (le_item rfl (fun _ _ => rfl) (lb (le_item rfl (fun _ _ => rfl) (lb_var 6 (pv 6)) (lb_var 7 (pv 7)))) (lb le_int)))) lss_nil))
  (LM.lss_cons (O2 := []) (LM.ls_set (O' := []) (i := 9) scSLaying.nd rfl (.inl rfl) (LM.le_if (LM.lt_gt (LM.lb (LM.le_call CDip rfl rfl rfl rfl rfl (hr.mono (by decide)) (by rfl) (LM.la_cons (LM.fr fun _ _ => (le_var 0 (by decide) (pv 0))) (LM.la_cons (LM.fr fun _ _ => le_int) LM.la_nil)))) (LM.lb (LM.fr fun _ _ => le_int))) (LM.le_item rfl (fun _ _ => rfl) (LM.lb_var 8 (pv 8)) (LM.lb (LM.le_call CDip rfl rfl rfl rfl rfl (hr.mono (by decide)) (by rfl) (LM.la_cons (LM.fr fun _ _ => (le_var 0 (by decide) (pv 0))) (LM.la_cons (LM.fr fun _ _ => (le_len rfl (by rfl) (hB "len" (by decide +kernel)) (lab_cons (lb_var 8 (pv 8)) lab_nil))) LM.la_nil))))) (LM.fr fun _ _ => le_str)))
  (LM.lss_cons (O2 := []) (LM.ls_set (O' := []) (i := 10) scSLaying.nd rfl (.inl rfl) (LM.le_item rfl (fun _ _ => rfl) (LM.lb (LM.fr fun _ _ => (le_lst (la_cons le_str (la_cons le_str (la_cons le_str (la_cons le_str la_nil))))))) (LM.lb (LM.le_call CDip rfl rfl rfl rfl rfl (hr.mono (by decide)) (by rfl) (LM.la_cons (LM.fr fun _ _ => (le_var 0 (by decide) (pv 0))) (LM.la_cons (LM.fr fun _ _ => le_int) LM.la_nil))))))
  (LM.lss_one (LM.ls_ret (LM.le_tup (LM.la_cons (LM.fr fun _ _ => (le_var 10 (by decide) (pv 10))) (LM.la_cons (LM.fr fun _ _ => (le_var 1 (by decide) (pv 1))) (LM.la_cons (LM.fr fun _ _ => (le_var 3 (by decide) (pv 3))) (LM.la_cons (LM.fr fun _ _ => (le_var 5 (by decide) (pv 5))) (LM.la_cons (LM.fr fun _ _ => (le_var 7 (by decide) (pv 7))) (LM.la_cons (LM.fr fun _ _ => (le_var 9 (by decide) (pv 9))) (LM.la_cons (LM.le_item rfl (fun _ _ => rfl) (LM.lb (LM.fr fun _ _ => (le_lst (la_cons le_int (la_cons le_int (la_cons le_int (la_cons le_int (la_cons le_int (la_cons le_int la_nil))))))))) (LM.lb (LM.le_call CDip rfl rfl rfl rfl rfl (hr.mono (by decide)) (by rfl) (LM.la_cons (LM.fr fun _ _ => (le_var 0 (by decide) (pv 0))) (LM.la_cons (LM.fr fun _ _ => le_int) LM.la_nil))))) LM.la_nil))))))))))))))))))))
abbrev NSDeed : List Str := ["_law_hand_here", "_law_sheets", "_law_menu", "_law_word", "_law_name", "_law_rows"]
theorem scSDeed : FnScope NSDeed ["_law_hand_here", "_law_sheets", "_law_menu"] (defScope (topS 13)) := ⟨rfl, rfl, rfl, by decide +kernel, rfl, by decide +kernel, by decide +kernel⟩
theorem ok_SDeed {f : Addr} {fd : FuncData} (F : Fun Γ.K "_law_some_deed" "_law_some_deed" (topS 13) f fd) (hB : NoB mg BL)  {gDip : Addr} {dDip : FuncData} (CDip : LM.CalM Γ mg base 1 "_law_dip" gDip dDip ["_law_hand_here", "_law_many"] fDip) {gSLaying : Addr} {dSLaying : FuncData} (CSLaying : LM.CalM Γ mg base 2 "_law_some_laying" gSLaying dSLaying ["_law_hand_here", "_law_name", "_law_sheet"] fSLaying) {gSRows : Addr} {dSRows : FuncData} (CSRows : LM.CalM Γ mg base 2 "_law_some_rows" gSRows dSRows ["_law_hand_here", "_law_most_now"] fSRows) {gSSheet : Addr} {dSSheet : FuncData} (CSSheet : LM.CalM Γ mg base 3 "_law_some_sheet" gSSheet dSSheet ["_law_hand_here"] fSSheet) :
    FnOk Γ.P Γ.w Γ.K mg base CX0 4 f fd ["_law_hand_here", "_law_sheets", "_law_menu"] (LM.liF Γ fSDeed) :=
  LM.ok_run F scSDeed rfl rfl (fun al cdv A outer s H E hr =>
  (LM.lss_cons (O2 := []) (LM.ls_set (O' := []) (i := 3) scSDeed.nd rfl (.inl rfl) (LM.le_item rfl (fun _ _ => rfl) (LM.lb_var 2 (pv 2)) (LM.lb (LM.le_call CDip rfl rfl rfl rfl rfl (hr.mono (by decide)) (by rfl) (LM.la_cons (LM.fr fun _ _ => (le_var 0 (by decide) (pv 0))) (LM.la_cons (LM.fr fun _ _ => (le_len rfl (by rfl) (hB "len" (by decide +kernel)) (lab_cons (lb_var 2 (pv 2)) lab_nil))) LM.la_nil))))))
  (LM.lss_cons (O2 := []) (LM.ls_set (O' := []) (i := 4) scSDeed.nd rfl (.inl rfl) (LM.le_item rfl (fun _ _ => rfl) (LM.lb (LM.fr fun _ _ => (le_lst (la_cons le_str (la_cons le_str (la_cons le_str la_nil)))))) (LM.lb (LM.le_call CDip rfl rfl rfl rfl rfl (hr.mono (by decide)) (by rfl) (LM.la_cons (LM.fr fun _ _ => (le_var 0 (by decide) (pv 0))) (LM.la_cons (LM.fr fun _ _ => le_int) LM.la_nil))))))
  (LM.lss_cons (O2 := []) (LM.ls_if (O' := []) (LM.frT fun _ _ => (lt_eq hr rfl (lb_var 3 (pv 3)) (lb le_str)))
  (LM.lss_one (LM.ls_ret (LM.le_tup (LM.la_cons (LM.fr fun _ _ => le_str) (LM.la_cons (LM.le_call CSRows rfl rfl rfl rfl rfl (hr.mono (by decide)) (by rfl) (LM.la_cons (LM.fr fun _ _ => (le_var 0 (by decide) (pv 0))) (LM.la_cons (LM.fr fun _ _ => le_int) LM.la_nil))) (LM.la_cons (LM.le_call CSRows rfl rfl rfl rfl rfl (hr.mono (by decide)) (by rfl) (LM.la_cons (LM.fr fun _ _ => (le_var 0 (by decide) (pv 0))) (LM.la_cons (LM.fr fun _ _ => le_int) LM.la_nil))) LM.la_nil)))))) LM.lss_nil)
  (LM.lss_cons (O2 := []) (LM.ls_if (O' := []) (PW.pt (LM.lw_or (LM.frT fun _ _ => (lt_eq hr rfl (lb_var 3 (pv 3)) (lb le_str))) (LM.lw_or1 (PW.pt (LM.lw_and (LM.frT fun _ _ => (lt_ne hr rfl (lb_var 3 (pv 3)) (lb le_str))) (LM.lw_and (LM.frT fun _ _ => (lt_ne hr rfl (lb_var 3 (pv 3)) (lb le_str))) (LM.lw_and1 (LM.lt_notinK hr (LM.fr fun _ _ => (le_var 4 (by decide) (pv 4))) (LM.fr fun _ _ => (le_var 1 (by decide) (pv 1))) (by rfl)))))))))
  (LM.lss_cons (O2 := []) (LM.ls_expr (LM.le_setdS (LM.fr fun _ _ => (le_var 1 (by decide) (pv 1))) (LM.fr fun _ _ => (le_var 4 (by decide) (pv 4))) (LM.le_call CSSheet rfl rfl rfl rfl rfl (hr.mono (by decide)) (by rfl) (LM.la_cons (LM.fr fun _ _ => (le_var 0 (by decide) (pv 0))) LM.la_nil)) ⟨rfl, rfl, rfl, rfl⟩))
  (LM.lss_one (LM.ls_ret (LM.le_tup (LM.la_cons (LM.fr fun _ _ => le_str) (LM.la_cons (LM.fr fun _ _ => (le_var 4 (by decide) (pv 4))) (LM.la_cons (LM.le_dgetS hr (LM.fr fun _ _ => (le_var 1 (by decide) (pv 1))) (LM.fr fun _ _ => (le_var 4 (by decide) (pv 4))) (fun _ _ => rfl)) LM.la_nil))))))) LM.lss_nil)
  (LM.lss_cons (O2 := []) (LM.ls_if (O' := []) (LM.frT fun _ _ => (PW.pt (lw_or (lt_eq hr rfl (lb_var 3 (pv 3)) (lb le_str)) (lw_or1 (lt_eq hr rfl (lb_var 3 (pv 3)) (lb le_str))))))
  (LM.lss_one (LM.ls_ret (LM.le_call CSLaying rfl rfl rfl rfl rfl (hr.mono (by decide)) (by rfl) (LM.la_cons (LM.fr fun _ _ => (le_var 0 (by decide) (pv 0))) (LM.la_cons (LM.fr fun _ _ => (le_var 4 (by decide) (pv 4))) (LM.la_cons (LM.le_dgetS hr (LM.fr fun _ _ => (le_var 1 (by decide) (pv 1))) (LM.fr fun _ _ => (le_var 4 (by decide) (pv 4))) (fun _ _ => rfl)) LM.la_nil)))))) LM.lss_nil)
  (LM.lss_cons (O2 := []) (LM.ls_set (O' := []) (i := 5) scSDeed.nd rfl (.inl rfl) (LM.le_call CSRows rfl rfl rfl rfl rfl (hr.mono (by decide)) (by rfl) (LM.la_cons (LM.fr fun _ _ => (le_var 0 (by decide) (pv 0))) (LM.la_cons (LM.le_item rfl (fun _ _ => rfl) (LM.lb (LM.fr fun _ _ => (le_lst (la_cons le_int (la_cons le_int la_nil))))) (LM.lb (LM.le_call CDip rfl rfl rfl rfl rfl (hr.mono (by decide)) (by rfl) (LM.la_cons (LM.fr fun _ _ => (le_var 0 (by decide) (pv 0))) (LM.la_cons (LM.fr fun _ _ => le_int) LM.la_nil))))) LM.la_nil))))
  (LM.lss_one (LM.ls_ret (LM.le_tup (LM.la_cons (LM.fr fun _ _ => (le_var 3 (by decide) (pv 3))) (LM.la_cons (LM.le_if (LM.frT fun _ _ => (lt_eq hr rfl (lb_var 3 (pv 3)) (lb le_str))) (LM.fr fun _ _ => (le_var 4 (by decide) (pv 4))) (LM.le_item rfl (fun _ _ => rfl) (LM.lb (LM.fr fun _ _ => (le_lst (la_cons le_str (la_cons le_str la_nil))))) (LM.lb (LM.le_call CDip rfl rfl rfl rfl rfl (hr.mono (by decide)) (by rfl) (LM.la_cons (LM.fr fun _ _ => (le_var 0 (by decide) (pv 0))) (LM.la_cons (LM.fr fun _ _ => le_int) LM.la_nil)))))) (LM.la_cons (LM.fr fun _ _ => (le_var 5 (by decide) (pv 5))) LM.la_nil)))))))))))))
abbrev NSTale : List Str := ["_law_hand_here", "_law_most_now", "_law_menu", "_law_sheets", "_law_clock", "_law_kit", "_law_form", "_law_pages", "_law_k"]
theorem scSTale : FnScope NSTale ["_law_hand_here", "_law_most_now", "_law_menu"] (defScope (topS 14)) := ⟨rfl, rfl, rfl, by decide +kernel, rfl, by decide +kernel, by decide +kernel⟩
theorem ok_STale {f : Addr} {fd : FuncData} (F : Fun Γ.K "_law_some_tale" "_law_some_tale" (topS 14) f fd) (hB : NoB mg BL)  {gDip : Addr} {dDip : FuncData} (CDip : LM.CalM Γ mg base 1 "_law_dip" gDip dDip ["_law_hand_here", "_law_many"] fDip) {gSDeed : Addr} {dSDeed : FuncData} (CSDeed : LM.CalM Γ mg base 4 "_law_some_deed" gSDeed dSDeed ["_law_hand_here", "_law_sheets", "_law_menu"] fSDeed) {gSRows : Addr} {dSRows : FuncData} (CSRows : LM.CalM Γ mg base 2 "_law_some_rows" gSRows dSRows ["_law_hand_here", "_law_most_now"] fSRows) :
    FnOk Γ.P Γ.w Γ.K mg base CX0 5 f fd ["_law_hand_here", "_law_most_now", "_law_menu"] (LM.liF Γ fSTale) :=
  LM.ok_run F scSTale rfl rfl (fun al cdv A outer s H E hr =>
  (LM.lss_cons (O2 := []) (LM.ls_par (i := 3) (j := 4) rfl scSTale.nd rfl rfl (by decide) rfl rfl (LM.la_cons LM.le_newK0 (LM.la_cons (LM.le_call CDip rfl rfl rfl rfl rfl (hr.mono (by decide)) (by rfl) (LM.la_cons (LM.fr fun _ _ => (le_var 0 (by decide) (pv 0))) (LM.la_cons (LM.fr fun _ _ => le_int) LM.la_nil))) LM.la_nil)) (by rfl) (by decide) (by decide))
  (LM.lss_cons (O2 := []) (LM.ls_lcF (O' := []) (i := 5) (own := [("_law_form", 6)]) rfl scSTale.nd rfl rfl (sw_true rfl rfl rfl (by decide +kernel)) (LM.li_tup (LM.fr fun _ _ => (le_tup (la_cons le_str (la_cons le_str (la_cons le_str la_nil))))) rfl) (blkOk_by (N := NSTale) (sc := defScope (topS 14)) (own := [("_law_form", 6)]) (by decide +kernel)) (by decide) (fun _ _ _ _ _ => (LM.frG fun _ _ => (lg_name 6 (by decide) (by decide) (pg_name (i := 6) scSTale.nd rfl (.inl rfl))))) (fun _ _ _ _ _ => LM.lts_nil) (fun _ _ _ _ _ => (LM.le_tup (LM.la_cons (LM.fr fun _ _ => (le_var 6 (by decide) (pv 6))) (LM.la_cons (LM.fr fun _ _ => le_str) (LM.la_cons (LM.le_add rfl (LM.lb (LM.fr fun _ _ => le_int)) (LM.lb (LM.le_call CDip rfl rfl rfl rfl rfl (hr.mono (by decide)) (by rfl) (LM.la_cons (LM.fr fun _ _ => (le_var 0 (by decide) (pv 0))) (LM.la_cons (LM.fr fun _ _ => le_int) LM.la_nil))))) LM.la_nil))))))
  (LM.lss_cons (O2 := []) (LM.ls_set (O' := []) (i := 5) scSTale.nd rfl (.inl rfl) (LM.le_add rfl (LM.lb_var 5 (pv 5)) (LM.lb (LM.le_new (LM.ln_lc (own := [("_law_form", 6)]) rfl scSTale.nd (LM.li_tup (LM.fr fun _ _ => (le_tup (la_cons le_str (la_cons le_str (la_cons le_str la_nil))))) rfl) (blkOk_by (N := NSTale) (sc := defScope (topS 14)) (own := [("_law_form", 6)]) (by decide +kernel)) (by decide) (fun _ _ _ _ _ => (LM.frG fun _ _ => (lg_name 6 (by decide) (by decide) (pg_name (i := 6) scSTale.nd rfl (.inl rfl))))) (fun _ _ _ _ _ => LM.lts_nil) (fun _ _ _ _ _ => (LM.le_tup (LM.la_cons (LM.fr fun _ _ => (le_var 6 (by decide) (pv 6))) (LM.la_cons (LM.fr fun _ _ => le_str) (LM.la_cons (LM.le_add rfl (LM.lb (LM.fr fun _ _ => le_int)) (LM.lb (LM.le_call CDip rfl rfl rfl rfl rfl (hr.mono (by decide)) (by rfl) (LM.la_cons (LM.fr fun _ _ => (le_var 0 (by decide) (pv 0))) (LM.la_cons (LM.fr fun _ _ => le_int) LM.la_nil))))) LM.la_nil))))))))))
  (LM.lss_cons (O2 := [7]) (LM.ls_own (O' := []) (i := 7) scSTale.nd rfl (.inl rfl) (LM.ln_lst (LM.la_cons (LM.le_tup (LM.la_cons (LM.fr fun _ _ => (le_var 4 (by decide) (pv 4))) (LM.la_cons (LM.fr fun _ _ => le_int) (LM.la_cons (LM.le_tup (LM.la_cons (LM.fr fun _ _ => le_str) (LM.la_cons (LM.fr fun _ _ => (le_tuple rfl (by rfl) (hB "tuple" (by decide +kernel)) (lab_cons (lb_var 5 (pv 5)) lab_nil))) (LM.la_cons (LM.le_call CSRows rfl rfl rfl rfl rfl (hr.mono (by decide)) (by rfl) (LM.la_cons (LM.fr fun _ _ => (le_var 0 (by decide) (pv 0))) (LM.la_cons (LM.fr fun _ _ => le_int) LM.la_nil))) LM.la_nil)))) LM.la_nil)))) LM.la_nil)))
  (LM.lss_cons (O2 := []) (LM.ls_for (vs := [8]) PassesOwn.never rfl (LM.li_range (by rfl) (hB "range" (by decide +kernel)) (LM.la_cons (LM.le_add rfl (LM.lb (LM.fr fun _ _ => le_int)) (LM.lb (LM.le_call CDip rfl rfl rfl rfl rfl (hr.mono (by decide)) (by rfl) (LM.la_cons (LM.fr fun _ _ => (le_var 0 (by decide) (pv 0))) (LM.la_cons (LM.fr fun _ _ => (le_var 1 (by decide) (pv 1))) LM.la_nil))))) LM.la_nil)) (LM.frG fun _ _ => (lg_name 8 (by decide) (by decide) (pg_name (i := 8) scSTale.nd rfl (.inl rfl))))
  (LM.lss_cons (O2 := [7]) (LM.ls_set (O' := [7]) (i := 4) scSTale.nd rfl (.inl rfl) (LM.le_add rfl (LM.lb_var 4 (pv 4)) (LM.lb (LM.le_item rfl (fun _ _ => rfl) (LM.lb (LM.fr fun _ _ => (le_lst (la_cons le_int (la_cons le_int (la_cons le_int (la_cons le_int la_nil))))))) (LM.lb (LM.le_call CDip rfl rfl rfl rfl rfl (hr.mono (by decide)) (by rfl) (LM.la_cons (LM.fr fun _ _ => (le_var 0 (by decide) (pv 0))) (LM.la_cons (LM.fr fun _ _ => le_int) LM.la_nil))))))))
  (LM.lss_last (LM.ls_append (i := 7) (by decide) (pe_bm PySem.F.plainAttrs_list PySem.F.slot_list_append PySem.F.type_list_append mt_append (pv 7) (pa_cons (LM.le_tup (LM.la_cons (LM.fr fun _ _ => (le_var 4 (by decide) (pv 4))) (LM.la_cons (LM.fr fun _ _ => (le_add rfl (lb_var 8 (pv 8)) (lb le_int))) (LM.la_cons (LM.le_call CSDeed rfl rfl rfl rfl rfl (hr.mono (by decide)) (by rfl) (LM.la_cons (LM.fr fun _ _ => (le_var 0 (by decide) (pv 0))) (LM.la_cons (LM.fr fun _ _ => (le_var 3 (by decide) (pv 3))) (LM.la_cons (LM.fr fun _ _ => (le_var 2 (by decide) (pv 2))) LM.la_nil)))) LM.la_nil)))) pa_nil))))))
  (LM.lss_one (LM.frS fun _ _ => (ls_ret (le_var 7 (by decide) (pv 7)))))))))))
abbrev NCop : List Str := ["thing", "inner"]
theorem scCop : FnScope NCop ["thing"] (defScope (topS 1)) := ⟨rfl, rfl, rfl, by decide +kernel, rfl, by decide +kernel, by decide +kernel⟩
theorem ok_Cop {f : Addr} {fd : FuncData} (n : Nat) (F : Fun Γ.K "copied" "copied" (topS 1) f fd) (hB : NoB mg BL)  (CCop : CalV Γ mg base (n + 1) "copied" f fd ["thing"] (fCop n)) :
    FnOk Γ.P Γ.w Γ.K mg base CX0 (n + 1 + 1) f fd ["thing"] (liF Γ (fCop (n + 1))) :=
  ok_run F scCop rfl rfl (fun fe cdv A outer s H E hr =>
  (lss_cons (O2 := []) (ls_if (O' := []) (lt_not (lt_val (le_isi (T := "tuple") (by decide) rfl (by rfl) (hB "isinstance" (by decide +kernel)) (by rfl) (hB "tuple" (by decide +kernel)) (by decide +kernel) (by decide) (by decide) (lb_var 0 (pv 0)))))
  (lss_one (ls_ret (le_var 0 (by decide) (pv 0)))) lss_nil)
  (lss_one (ls_ret (le_tuple rfl (by rfl) (hB "tuple" (by decide +kernel)) (lab_cons (lb (le_new (ln_lc (own := [("inner", 1)]) rfl scCop.nd (li_tup (le_var 0 (by decide) (pv 0)) rfl) (blkOk_by (N := NCop) (sc := defScope (topS 1)) (own := [("inner", 1)]) (by decide +kernel)) (by decide) (fun _ _ _ _ _ => (lg_name 1 (by decide) (by decide) (pg_name (i := 1) scCop.nd rfl (.inl rfl)))) (fun _ _ _ _ _ => lts_nil) (fun _ _ _ _ _ => (le_call CCop rfl rfl rfl rfl rfl (hr.mono (by omega)) (by rfl) (la_cons (le_var 1 (by decide) (pv 1)) la_nil)))))) lab_nil))))))
abbrev NWith : List Str := ["tale", "page"]
theorem scWith : FnScope NWith ["tale", "page"] (defScope (topS 3)) := ⟨rfl, rfl, rfl, by decide +kernel, rfl, by decide +kernel, by decide +kernel⟩
theorem ok_With {f : Addr} {fd : FuncData} (F : Fun Γ.K "with_page" "with_page" (topS 3) f fd) (hB : NoB mg BL)  {gCop : Addr} {dCop : FuncData} (CCop : CalV Γ mg base 13 "copied" gCop dCop ["thing"] (fCop 12)) :
    FnOk Γ.P Γ.w Γ.K mg base CX0 14 f fd ["tale", "page"] (liF Γ fWith) :=
  ok_run F scWith rfl rfl (fun fe cdv A outer s H E hr =>
  (lss_one (ls_ret (le_call CCop rfl rfl rfl rfl rfl (hr.mono (by decide)) (by rfl) (la_cons (le_if (lt_ind hr rfl (by rfl) (lb_var 1 (pv 1)) (lb_var 0 (pv 0))) (le_var 0 (by decide) (pv 0)) (le_tuple rfl (by rfl) (hB "tuple" (by decide +kernel)) (lab_cons (lb (le_sortP hr rfl (by rfl) (hB "sorted" (by decide +kernel)) (lab_cons (lb (le_lst (la_star rfl (le_var 0 (by decide) (pv 0)) (la_cons (le_var 1 (by decide) (pv 1)) la_nil)))) lab_nil))) lab_nil))) la_nil)))))
abbrev NWithout : List Str := ["tale", "page", "own"]
theorem scWithout : FnScope NWithout ["tale", "page"] (defScope (topS 4)) := ⟨rfl, rfl, rfl, by decide +kernel, rfl, by decide +kernel, by decide +kernel⟩
theorem ok_Without {f : Addr} {fd : FuncData} (F : Fun Γ.K "without_page" "without_page" (topS 4) f fd) (hB : NoB mg BL)  {gCop : Addr} {dCop : FuncData} (CCop : CalV Γ mg base 13 "copied" gCop dCop ["thing"] (fCop 12)) :
    FnOk Γ.P Γ.w Γ.K mg base CX0 14 f fd ["tale", "page"] (liF Γ fWithout) :=
  ok_run F scWithout rfl rfl (fun fe cdv A outer s H E hr =>
  (lss_one (ls_ret (le_tuple rfl (by rfl) (hB "tuple" (by decide +kernel)) (lab_cons (lb (le_new (ln_lc (own := [("own", 2)]) rfl scWithout.nd (li_tup (le_var 0 (by decide) (pv 0)) rfl) (blkOk_by (N := NWithout) (sc := defScope (topS 4)) (own := [("own", 2)]) (by decide +kernel)) (by decide) (fun _ _ _ _ _ => (lg_name 2 (by decide) (by decide) (pg_name (i := 2) scWithout.nd rfl (.inl rfl)))) (fun _ _ _ _ _ => (lts_one (lt_ne hr rfl (lb_var 2 (pv 2)) (lb_var 1 (pv 1))))) (fun _ _ _ _ _ => (le_call CCop rfl rfl rfl rfl rfl (hr.mono (by decide)) (by rfl) (la_cons (le_var 2 (by decide) (pv 2)) la_nil)))))) lab_nil)))))
abbrev NUntil : List Str := ["tale", "hour", "page"]
theorem scUntil : FnScope NUntil ["tale", "hour"] (defScope (topS 5)) := ⟨rfl, rfl, rfl, by decide +kernel, rfl, by decide +kernel, by decide +kernel⟩
theorem ok_Until {f : Addr} {fd : FuncData} (F : FunD Γ.K "until" "until" (defArgs (topS 5)) (defBody (topS 5)) (defScope (topS 5)) [.non] [] f fd) (hB : NoB mg BL)  {gCop : Addr} {dCop : FuncData} (CCop : CalV Γ mg base 13 "copied" gCop dCop ["thing"] (fCop 12)) :
    FnOk Γ.P Γ.w Γ.K mg base CX0 14 f fd ["tale", "hour"] (liF Γ fUntil) :=
  ok_runD F scUntil rfl rfl (fun fe cdv A outer s H E hr =>
  (lss_one (ls_ret (le_tuple rfl (by rfl) (hB "tuple" (by decide +kernel)) (lab_cons (lb (le_new (ln_lc (own := [("page", 2)]) rfl scUntil.nd (li_tup (le_var 0 (by decide) (pv 0)) rfl) (blkOk_by (N := NUntil) (sc := defScope (topS 5)) (own := [("page", 2)]) (by decide +kernel)) (by decide) (fun _ _ _ _ _ => (lg_name 2 (by decide) (by decide) (pg_name (i := 2) scUntil.nd rfl (.inl rfl)))) (fun _ _ _ _ _ => (lts_one (PW.pt (lw_or (lt_is (lb_var 1 (pv 1)) (lb le_non)) (lw_or1 (lt_le (lb (le_item rfl (fun _ _ => rfl) (lb_var 2 (pv 2)) (lb le_int))) (lb_var 1 (pv 1)))))))) (fun _ _ _ _ _ => (le_call CCop rfl rfl rfl rfl rfl (hr.mono (by decide)) (by rfl) (la_cons (le_var 2 (by decide) (pv 2)) la_nil)))))) lab_nil)))))
abbrev NClocks : List Str := ["_law_tape_pages", "_law_every", "_law_page", "_law_some", "_law_one"]
theorem scClocks : FnScope NClocks ["_law_tape_pages"] (defScope (topS 15)) := ⟨rfl, rfl, rfl, by decide +kernel, rfl, by decide +kernel, by decide +kernel⟩
theorem ok_Clocks {f : Addr} {fd : FuncData} (F : Fun Γ.K "_law_clocks" "_law_clocks" (topS 15) f fd) (hB : NoB mg BL)  :
    FnOk Γ.P Γ.w Γ.K mg base CX0 1 f fd ["_law_tape_pages"] (liF Γ fClocks) :=
  ok_run F scClocks rfl rfl (fun fe cdv A outer s H E hr =>
  (lss_cons (O2 := []) (ls_lcF (O' := []) (i := 1) (own := [("_law_page", 2)]) rfl scClocks.nd rfl rfl (sw_true rfl rfl rfl (by decide +kernel)) (li_list (le_var 0 (by decide) (pv 0)) rfl) (blkOk_by (N := NClocks) (sc := defScope (topS 15)) (own := [("_law_page", 2)]) (by decide +kernel)) (by decide) (fun _ _ _ _ _ => (lg_name 2 (by decide) (by decide) (pg_name (i := 2) scClocks.nd rfl (.inl rfl)))) (fun _ _ _ _ _ => lts_nil) (fun _ _ _ _ _ => (le_item rfl (fun _ _ => rfl) (lb_var 2 (pv 2)) (lb le_int))))
  (lss_cons (O2 := []) (ls_set (O' := []) (i := 3) scClocks.nd rfl (.inl rfl) (le_sortSet rfl hr rfl (by rfl) (hB "sorted" (by decide +kernel)) (by rfl) (hB "set" (by decide +kernel)) (lab_cons (lb (le_add rfl (lb (le_add rfl (lb_var 1 (pv 1)) (lb (le_new (ln_lc (own := [("_law_one", 4)]) rfl scClocks.nd (li_list (le_var 1 (by decide) (pv 1)) rfl) (blkOk_by (N := NClocks) (sc := defScope (topS 15)) (own := [("_law_one", 4)]) (by decide +kernel)) (by decide) (fun _ _ _ _ _ => (lg_name 4 (by decide) (by decide) (pg_name (i := 4) scClocks.nd rfl (.inl rfl)))) (fun _ _ _ _ _ => lts_nil) (fun _ _ _ _ _ => (le_add rfl (lb_var 4 (pv 4)) (lb le_int)))))))) (lb (le_new (ln_lc (own := [("_law_one", 4)]) rfl scClocks.nd (li_list (le_var 1 (by decide) (pv 1)) rfl) (blkOk_by (N := NClocks) (sc := defScope (topS 15)) (own := [("_law_one", 4)]) (by decide +kernel)) (by decide) (fun _ _ _ _ _ => (lg_name 4 (by decide) (by decide) (pg_name (i := 4) scClocks.nd rfl (.inl rfl)))) (fun _ _ _ _ _ => lts_nil) (fun _ _ _ _ _ => (le_max2 rfl (by rfl) (hB "max" (by decide +kernel)) (lab_cons (lb le_int) (lab_cons (lb (le_sub (lb_var 4 (pv 4)) (lb le_int))) lab_nil))))))))) lab_nil)))
  (lss_one (ls_ret (le_add rfl (lb_var 3 (pv 3)) (lb (le_lst (la_cons le_non la_nil)))))))))
abbrev NUpTo : List Str := ["_law_pages", "_law_clock", "_law_page"]
theorem scUpTo : FnScope NUpTo ["_law_pages", "_law_clock"] (defScope (topS 16)) := ⟨rfl, rfl, rfl, by decide +kernel, rfl, by decide +kernel, by decide +kernel⟩
theorem ok_UpTo {f : Addr} {fd : FuncData} (F : Fun Γ.K "_law_up_to" "_law_up_to" (topS 16) f fd) (hB : NoB mg BL)  :
    FnOk Γ.P Γ.w Γ.K mg base CX0 1 f fd ["_law_pages", "_law_clock"] (liF Γ fUpTo) :=
  ok_run F scUpTo rfl rfl (fun fe cdv A outer s H E hr =>
  (lss_one (ls_ret (le_new (ln_lc (own := [("_law_page", 2)]) rfl scUpTo.nd (li_list (le_var 0 (by decide) (pv 0)) rfl) (blkOk_by (N := NUpTo) (sc := defScope (topS 16)) (own := [("_law_page", 2)]) (by decide +kernel)) (by decide) (fun _ _ _ _ _ => (lg_name 2 (by decide) (by decide) (pg_name (i := 2) scUpTo.nd rfl (.inl rfl)))) (fun _ _ _ _ _ => (lts_one (PW.pt (lw_or (lt_is (lb_var 1 (pv 1)) (lb le_non)) (lw_or1 (lt_le (lb (le_item rfl (fun _ _ => rfl) (lb_var 2 (pv 2)) (lb le_int))) (lb_var 1 (pv 1)))))))) (fun _ _ _ _ _ => (le_var 2 (by decide) (pv 2))))))))
end
end LP.K74
namespace LP.K74
open PySem PySem.Spec PyProof.Rows L2 PK LP RZ LP.HD
section
variable {Γ : Sig} {mg : Str → Option Value} {base : Heap}
abbrev NLaw : List Str := ["_law_script", "_law_hand_here", "_law_menu", "_law_pages", "_law_tale", "_law_there_now", "_law_left", "_law_page", "_law_handed", "_law_newer_now", "_law_every", "_law_clock", "_law_due"]
theorem scLaw : FnScope NLaw ["_law_script"] (defScope (topS 17)) := ⟨rfl, rfl, rfl, by decide +kernel, rfl, by decide +kernel, by decide +kernel⟩
theorem ok_law {f fF : Addr} {fd fdF : FuncData} (F : Fun Γ.K "law" "law" (topS 17) f fd) (hB : NoB mg BL) (hS : ∀ H p c, Γ.fk H p c → ∃ s, LM.atTap s ∧ LM.Stands Γ [p, c] s (LM.msk [] [p, c] []) H) (Fe : Cal Γ.P Γ.w Γ.K mg base 1 "_law_hand" fF fdF ["_law_script"] (spFeedOf Γ.fk Γ.K)) {gClocks : Addr} {dClocks : FuncData} (CClocks : CalV Γ mg base 1 "_law_clocks" gClocks dClocks ["_law_tape_pages"] fClocks) {gDip : Addr} {dDip : FuncData} (CDip : LM.CalM Γ mg base 1 "_law_dip" gDip dDip ["_law_hand_here", "_law_many"] fDip) {gSTale : Addr} {dSTale : FuncData} (CSTale : LM.CalM Γ mg base 5 "_law_some_tale" gSTale dSTale ["_law_hand_here", "_law_most_now", "_law_menu"] fSTale) {gUpTo : Addr} {dUpTo : FuncData} (CUpTo : CalV Γ mg base 1 "_law_up_to" gUpTo dUpTo ["_law_pages", "_law_clock"] fUpTo) {gWith : Addr} {dWith : FuncData} (CWith : CalV Γ mg base 14 "with_page" gWith dWith ["tale", "page"] fWith) {gWithout : Addr} {dWithout : FuncData} (CWithout : CalV Γ mg base 14 "without_page" gWithout dWithout ["tale", "page"] fWithout) {gNUntil_1 : Addr} {dNUntil_1 : FuncData} (NUntil_1 : CalN Γ mg base 14 "until" gNUntil_1 dNUntil_1 ["tale", "hour"] 1 [] 0 1 fUntil) {gNUntil_1_hour : Addr} {dNUntil_1_hour : FuncData} (NUntil_1_hour : CalN Γ mg base 14 "until" gNUntil_1_hour dNUntil_1_hour ["tale", "hour"] 1 ["hour"] 0 0 fUntil) {gNUntil_2 : Addr} {dNUntil_2 : FuncData} (NUntil_2 : CalN Γ mg base 14 "until" gNUntil_2 dNUntil_2 ["tale", "hour"] 2 [] 0 0 fUntil)
    (hp : ∀ s, LM.atTap s → (bLaw (LM.lawE 13)).wp (fun f _ => ∃ b, f = .rt (.bl b) ∧ b = true) (fun _ _ => False) s) :
    FnG Γ.P Γ.w Γ.K mg base CX0 15 f fd ["_law_script"] (spLawK Γ.K) :=
  LM.law_by (pb := bLaw) (nN := 13) (P0 := LM.atTap) F scLaw rfl (by decide) hS (fun cdv A outer s H E hgd hr => pss_cons (ps_set (i := 1) scLaw.nd rfl (.inl rfl) (pe_call (E := fun _ _ _ => True) Fe.ok (hr.mono (by decide)) (by rfl) Fe.g Fe.kp Fe.b .nil pass0 (pa_cons (pv 0) pa_nil))) (LM.pss_rest fun al H0 =>
  (LM.lss_cons (O2 := []) (LM.frS fun _ _ => (ls_set (O' := []) (i := 2) scLaw.nd rfl (.inl rfl) (le_lst (la_cons le_str (la_cons le_str (la_cons le_str (la_cons le_str (la_cons le_str (la_cons le_str (la_cons le_str (la_cons le_str (la_cons le_str (la_cons le_str (la_cons le_str la_nil))))))))))))))
  (LM.lss_cons (O2 := []) (LM.ls_set (O' := []) (i := 3) scLaw.nd rfl (.inl rfl) (LM.le_call CSTale rfl rfl rfl rfl rfl (hr.mono (by decide)) (by rfl) (LM.la_cons (LM.fr fun _ _ => (le_var 1 (by decide) (pv 1))) (LM.la_cons (LM.fr fun _ _ => le_int) (LM.la_cons (LM.fr fun _ _ => (le_var 2 (by decide) (pv 2))) LM.la_nil)))))
  (LM.lss_cons (O2 := []) (LM.ls_par3 (i := 4) (j := 5) (l := 6) rfl scLaw.nd rfl rfl rfl (by decide) (by decide) (by decide) rfl rfl rfl (LM.la_cons (LM.fr fun _ _ => (le_tup la_nil)) (LM.la_cons (LM.le_alloc (LM.ln_lst LM.la_nil)) (LM.la_cons (LM.le_alloc (LM.ln_list rfl (by rfl) (hB "list" (by decide +kernel)) (LM.lab_cons (LM.lb_var 3 (pv 3)) LM.lab_nil))) LM.la_nil))) (by rfl) (by decide) (by decide) (by decide))
  (LM.lss_cons (O2 := []) (LM.ls_while PassesOwn.never (LM.lt_neNilS hr rfl (LM.lb_var 6 (pv 6)))
  (LM.lss_cons (O2 := []) (LM.ls_set (O' := []) (i := 7) scLaw.nd rfl (.inl rfl) (LM.le_pop (pe_bm PySem.F.plainAttrs_list PySem.F.slot_list_pop PySem.F.type_list_pop mt_popAt (LM.fr fun _ _ => (le_var 6 (by decide) (pv 6))) (LM.la_cons (LM.le_call CDip rfl rfl rfl rfl rfl (hr.mono (by decide)) (by rfl) (LM.la_cons (LM.fr fun _ _ => (le_var 1 (by decide) (pv 1))) (LM.la_cons (LM.le_lenS rfl (by rfl) (hB "len" (by decide +kernel)) (LM.lab_cons (LM.lb_var 6 (pv 6)) LM.lab_nil)) LM.la_nil))) LM.la_nil))))
  (LM.lss_cons (O2 := []) (LM.ls_expr (LM.le_appS (pe_bm PySem.F.plainAttrs_list PySem.F.slot_list_append PySem.F.type_list_append mt_append (LM.fr fun _ _ => (le_var 5 (by decide) (pv 5))) (pa_cons (LM.fr fun _ _ => (le_var 7 (by decide) (pv 7))) pa_nil))))
  (LM.lss_cons (O2 := []) (LM.frS fun _ _ => (ls_set (O' := []) (i := 8) scLaw.nd rfl (.inl rfl) (le_repr hgd hr rfl (by rfl) (hB "repr" (by decide +kernel)) (lab_cons (lb (le_tup (la_cons (le_var 4 (by decide) (pv 4)) (la_cons (le_var 7 (by decide) (pv 7)) la_nil)))) lab_nil))))
  (LM.lss_cons (O2 := []) (LM.frS fun _ _ => (ls_set (O' := []) (i := 9) scLaw.nd rfl (.inl rfl) (le_call CWith rfl rfl rfl rfl rfl (hr.mono (by decide)) (by rfl) (la_cons (le_var 4 (by decide) (pv 4)) (la_cons (le_var 7 (by decide) (pv 7)) la_nil)))))
  (LM.lss_cons (O2 := []) (LM.ls_if (O' := []) (PW.pt (LM.lw_or (LM.frT fun _ _ => (lt_ne hr rfl (lb (le_repr hgd hr rfl (by rfl) (hB "repr" (by decide +kernel)) (lab_cons (lb (le_tup (la_cons (le_var 4 (by decide) (pv 4)) (la_cons (le_var 7 (by decide) (pv 7)) la_nil)))) lab_nil))) (lb_var 8 (pv 8)))) (LM.lw_or1 (LM.lt_ne hr rfl (LM.lb (LM.fr fun _ _ => (le_repr hgd hr rfl (by rfl) (hB "repr" (by decide +kernel)) (lab_cons (lb_var 9 (pv 9)) lab_nil)))) (LM.lb (LM.le_repr hgd hr rfl (by rfl) (hB "repr" (by decide +kernel)) (LM.lab_cons (LM.lb (LM.le_tuple rfl (by rfl) (hB "tuple" (by decide +kernel)) (LM.lab_cons (LM.lb (LM.le_sortS hr rfl (by rfl) (hB "sorted" (by decide +kernel)) (LM.lab_cons (LM.lb_var 5 (pv 5)) LM.lab_nil))) LM.lab_nil))) LM.lab_nil)))))))
  (LM.lss_one (LM.frS fun _ _ => (ls_ret le_bl))) LM.lss_nil)
  (LM.lss_cons (O2 := []) (LM.frS fun _ _ => (ls_if (O' := []) (PW.pt (lw_or (lt_ne hr rfl (lb (le_repr hgd hr rfl (by rfl) (hB "repr" (by decide +kernel)) (lab_cons (lb (le_call CWith rfl rfl rfl rfl rfl (hr.mono (by decide)) (by rfl) (la_cons (le_var 9 (by decide) (pv 9)) (la_cons (le_var 7 (by decide) (pv 7)) la_nil)))) lab_nil))) (lb (le_repr hgd hr rfl (by rfl) (hB "repr" (by decide +kernel)) (lab_cons (lb_var 9 (pv 9)) lab_nil)))) (lw_or1 (lt_ne hr rfl (lb (le_repr hgd hr rfl (by rfl) (hB "repr" (by decide +kernel)) (lab_cons (lb (le_call CWithout rfl rfl rfl rfl rfl (hr.mono (by decide)) (by rfl) (la_cons (le_var 9 (by decide) (pv 9)) (la_cons (le_var 7 (by decide) (pv 7)) la_nil)))) lab_nil))) (lb (le_repr hgd hr rfl (by rfl) (hB "repr" (by decide +kernel)) (lab_cons (lb_var 4 (pv 4)) lab_nil)))))))
  (lss_one (ls_ret le_bl)) lss_nil))
  (LM.lss_cons (O2 := []) (LM.ls_if (O' := []) (PW.pt (LM.lw_and (LM.lt_neNilS hr rfl (LM.lb_var 6 (pv 6))) (LM.lw_and1 (LM.lt_ne hr rfl (LM.lb (LM.le_repr hgd hr rfl (by rfl) (hB "repr" (by decide +kernel)) (LM.lab_cons (LM.lb (LM.le_callL CWithout rfl rfl rfl rfl rfl (hr.mono (by decide)) (by rfl) (LM.la_cons (LM.fr fun _ _ => (le_var 9 (by decide) (pv 9))) (LM.la_cons (LM.le_ixSL rfl (fun _ _ => rfl) (LM.lb_var 6 (pv 6)) (LM.lb (LM.fr fun _ _ => le_int))) LM.la_nil)))) LM.lab_nil))) (LM.lb (LM.fr fun _ _ => (le_repr hgd hr rfl (by rfl) (hB "repr" (by decide +kernel)) (lab_cons (lb_var 9 (pv 9)) lab_nil))))))))
  (LM.lss_one (LM.frS fun _ _ => (ls_ret le_bl))) LM.lss_nil)
  (LM.lss_last (LM.frS fun _ _ => (ls_set (O' := []) (i := 4) scLaw.nd rfl (.inl rfl) (le_var 9 (by decide) (pv 9)))))))))))))
  (LM.lss_cons (O2 := []) (LM.frS fun _ _ => (ls_set (O' := []) (i := 10) scLaw.nd rfl (.inl rfl) (le_list rfl (by rfl) (hB "list" (by decide +kernel)) (lab_cons (lb_var 4 (pv 4)) lab_nil))))
  (LM.lss_cons (O2 := []) (LM.frS fun _ _ => (ls_for (vs := [11]) PassesOwn.never rfl (li_list (le_call CClocks rfl rfl rfl rfl rfl (hr.mono (by decide)) (by rfl) (la_cons (le_var 10 (by decide) (pv 10)) la_nil)) rfl) (lg_name 11 (by decide) (by decide) (pg_name (i := 11) scLaw.nd rfl (.inl rfl)))
  (lss_cons (O2 := []) (ls_set (O' := []) (i := 12) scLaw.nd rfl (.inl rfl) (le_repr hgd hr rfl (by rfl) (hB "repr" (by decide +kernel)) (lab_cons (lb (le_tuple rfl (by rfl) (hB "tuple" (by decide +kernel)) (lab_cons (lb (le_call CUpTo rfl rfl rfl rfl rfl (hr.mono (by decide)) (by rfl) (la_cons (le_var 10 (by decide) (pv 10)) (la_cons (le_var 11 (by decide) (pv 11)) la_nil)))) lab_nil))) lab_nil)))
  (lss_last (ls_if (O' := []) (lt_neTx hr rfl (by rfl) (lb (le_lst (la_cons (le_repr hgd hr rfl (by rfl) (hB "repr" (by decide +kernel)) (lab_cons (lb (le_callN NUntil_2 rfl rfl rfl rfl rfl (hr.mono (by decide)) (by rfl) (la_cons (le_var 4 (by decide) (pv 4)) (la_cons (le_var 11 (by decide) (pv 11)) la_nil)) lk_nil)) lab_nil)) (la_cons (le_repr hgd hr rfl (by rfl) (hB "repr" (by decide +kernel)) (lab_cons (lb (le_callN NUntil_1_hour rfl rfl rfl rfl rfl (hr.mono (by decide)) (by rfl) (la_cons (le_var 4 (by decide) (pv 4)) la_nil) (lk_cons (le_var 11 (by decide) (pv 11)) lk_nil))) lab_nil)) la_nil)))) (lb (le_lst (la_cons (le_var 12 (by decide) (pv 12)) (la_cons (le_var 12 (by decide) (pv 12)) la_nil)))))
  (lss_one (ls_ret le_bl)) lss_nil)))))
  (LM.lss_one (LM.frS fun _ _ => (ls_ret (le_eq hr rfl (lb (le_repr hgd hr rfl (by rfl) (hB "repr" (by decide +kernel)) (lab_cons (lb (le_lst (la_cons (le_callN NUntil_1 rfl rfl rfl rfl rfl (hr.mono (by decide)) (by rfl) (la_cons (le_var 4 (by decide) (pv 4)) la_nil) lk_nil) (la_cons (le_callN NUntil_1 rfl rfl rfl rfl rfl (hr.mono (by decide)) (by rfl) (la_cons (le_tup la_nil) la_nil) lk_nil) (la_cons (le_call CWithout rfl rfl rfl rfl rfl (hr.mono (by decide)) (by rfl) (la_cons (le_tup la_nil) (la_cons (le_item rfl (fun _ _ => rfl) (lb_var 3 (pv 3)) (lb le_int)) la_nil))) la_nil))))) lab_nil))) (lb (le_repr hgd hr rfl (by rfl) (hB "repr" (by decide +kernel)) (lab_cons (lb (le_lst (la_cons (le_var 4 (by decide) (pv 4)) (la_cons (le_tup la_nil) (la_cons (le_tup la_nil) la_nil))))) lab_nil))))))))))))))) hp
end
end LP.K74
/-! What is raised, by value. -/
namespace LP
open PySem PySem.Spec PyProof.Rows L2 PK RZ
/-! ### errors of no, one and two fields -/
def spErr2 (C : Addr) (f g : Str) : Sp := fun vs H Q _ => ∃ (a : Addr) (v u : V), vs = [.ref a, v, u] ∧ H a = some (exo a C none) ∧
  ∀ (dx : Addr), H dx = none → dx ≠ a → Q .non (upd (upd (upd H dx (exd dx [(f, v)])) a (exo a C (some dx))) dx (exd dx [(g, u), (f, v)]))
/-- an error's class that may be raised with two things: c its number, its fields as its dict has them -/
structure Err2 (Γ : Sig) (mg : Str → Option Value) (base : Heap) (k c : Nat) (x : Str) (C fI : Addr) (fd : FuncData) (f g : Str) (ps : List Str) : Prop where
  ok : FnOk Γ.P Γ.w Γ.K mg base CX0 k fI fd ps (spErr2 C f g)
  ex : OexC Γ.K C
  i : PySem.W.findIn Γ.K (.ref C) "__init__" = some (some (.ref fI))
  t : PySem.W.typeIn Γ.K (.ref fI) = some (.type "function")
  b : Binds Γ.K fd ps []
  m : mg x = some (.ref C)
  cl : Γ.cl c = some C
  fl : Γ.fl c = [g, f]
structure Err1 (Γ : Sig) (mg : Str → Option Value) (base : Heap) (k c : Nat) (x : Str) (C fI : Addr) (fd : FuncData) (f : Str) (ps : List Str) : Prop where
  ok : FnOk Γ.P Γ.w Γ.K mg base CX0 k fI fd ps (spErr1 C f)
  ex : OexC Γ.K C
  i : PySem.W.findIn Γ.K (.ref C) "__init__" = some (some (.ref fI))
  t : PySem.W.typeIn Γ.K (.ref fI) = some (.type "function")
  b : Binds Γ.K fd ps []
  m : mg x = some (.ref C)
  cl : Γ.cl c = some C
  fl : Γ.fl c = [f]
/-! ### statements that may raise -/
section
variable {X : Cx} {Γ : Sig} {fe : Fd} {H0 : Hp} {O O1 O2 O' Ob : List Nat} {st : Stmt} {sts a b : List Stmt} {e c : Expr} {es : List Expr} {pos : Pos} {W : WX} {p q : Env → LP.W Fl}
end
/-! ### defs that may raise -/
section
variable {Γ : Sig} {mg : Str → Option Value} {base : Heap}
end
/-- a def by value that may be called, and may raise -/
structure CalX (Γ : Sig) (mg : Str → Option Value) (base : Heap) (k : Nat) (x : Str) (f : Addr)
    (fd : FuncData) (ps : List Str) (p : List D → W D) : Prop where
  ok : FnOk Γ.P Γ.w Γ.K mg base (L2.CX Γ.P Γ.w) k f fd ps (liF Γ p)
  g : mg x = some (.ref f)
  kp : PySem.W.keepIn Γ.K (.ref f) = true
  b : Binds Γ.K fd ps []
/-! ### expressions that may raise -/
section
variable {X : Cx} {Γ : Sig} {fe : Fd} {H0 : Hp} {O : List Nat} {W : WX} {k : Nat} {f : Addr} {fd : FuncData} {ps : List Str} {e : Expr} {es : List Expr} {x : Str} {pp pos : Pos} {p : List D → LP.W D} {pe : Env → LP.W D} {pa : Env → LP.W (List D)}
/-- what is new later was not there before -/
theorem Gr.back {Ξ : Ctx} {H H1 : Hp} {d : Addr} (g : Gr Ξ H H1) (f : Ξ.FI H1) (n : H1 d = none) : H d = none := by
  cases q0 : H d with
  | none => rfl
  | some o =>
    by_cases z : d ∈ Ξ.ff
    · obtain ⟨o', e', _⟩ := Ξ.fex H1 f d z
      rw [n] at e'
      cases e'
    · have := g d o z q0
      rw [n] at this
      cases this
end
end LP
namespace LP
open PySem PySem.Spec PyProof.Rows L2 PK RZ
/-! ### isinstance of what was caught -/
/-- what the class D must say -/
structure ExI (K : PySem.W.Frag) (D : Addr) : Prop where
  c : ExcC K D
  cl : (PySem.W.clsIn K D).isSome = true
section
variable {X : Cx} {a D dd : Addr} {oe : Obj} {pn : List (Addr × Obj)}
end
end LP
namespace LP
open PySem PySem.Spec PyProof.Rows L2 PK RZ
/-- an error's class with two fields, as it is caught by the name cf, and asked for by cn, ck, and four others -/
structure CatchB (Γ : Sig) (mg : Str → Option Value) (cN : Nat) (cf cn ck c1 c2 c3 c4 f1 f2 : Str) : Prop where
  ex : ∃ CF CN CK A1 A2 A3 A4 : Addr, Γ.cl cN = some CN ∧ Γ.fl cN = [f2, f1] ∧ mg cf = some (.ref CF) ∧ PySem.W.exmOne Γ.K (.ref CN) (.ref CF) = some true ∧ ExI Γ.K CN ∧ XfC Γ.K CN ∧ PySem.W.findIn Γ.K (.ref CN) f1 = some none ∧ PySem.W.findIn Γ.K (.ref CN) f2 = some none ∧
    mg cn = some (.ref CN) ∧ mg ck = some (.ref CK) ∧ PySem.W.kitOne Γ.K (.ref CN) (.ref CK) = some true ∧ mg c1 = some (.ref A1) ∧ mg c2 = some (.ref A2) ∧ mg c3 = some (.ref A3) ∧ mg c4 = some (.ref A4) ∧ PySem.W.kitAny Γ.K (.ref CN) [.ref A1, .ref A2, .ref A3, .ref A4] = some false
section
variable {X : Cx} {Γ : Sig} {fe : Fd} {H0 : Hp} {O Ob : List Nat} {i iy j cN : Nat} {body : Expr} {pe : Env → W D} {mg : Str → Option Value} {x y n cf cn ck c1 c2 c3 c4 f1 f2 w : Str} {kt kt2 kw : Nat}
  {p1 p2 ps1 ps2 ps3 pf py pi1 pi2 pi3 pn1 pn2 pn3 pn4 pn5 q1 q2 q3 q4 qt qn qk pc1 pc2 pc3 pyn pun pb pw pa1 pa2 pt2 pif pos' pos : Pos}
end
end LP
namespace LP
open PySem PySem.Spec PyProof.Rows L2 PK RZ
section
variable {K : PySem.W.Frag} {t : Value} {C : Addr} {b : Bool}
end
end LP
namespace LP
open PySem PySem.Spec PyProof.Rows L2 PK LP
end LP
namespace LP
open PySem PySem.Spec PyProof.Rows L2 PK LP
def bPick_1 (env : Env) : LM.M Fl := (LM.thenM ((((LM.M.lift (getW env 0)).bind fun d => (LM.M.lift (W.ret (.str "rest"))).bind fun y => LM.ixS d y).bind fun x => (LM.M.lift (getW env 1)).bind fun y => LM.M.lift (fdivW x y)).bind fun v => (LM.M.lift (getW env 0)).bind fun d => (LM.M.lift (W.ret (.str "rest"))).bind fun y => (LM.putS d y v).bind fun _ => LM.M.ret (.nx env))
  fun env => (LM.M.lift ((getW env 2).bind fun d => W.ret (.rt d))))
def bPick_2 (env : Env) : LM.M Fl := (LM.thenM ((((LM.M.lift (getW env 0)).bind fun d => (LM.M.lift (W.ret (.str "rest"))).bind fun y => LM.ixS d y).bind fun x => (LM.M.lift (getW env 1)).bind fun y => LM.M.lift (modW x y)).bind fun d => LM.M.ret (.nx (env.set 2 (some d))))
  fun env => (bPick_1 env))
def bPick_3 (env : Env) : LM.M Fl := (LM.thenM ((LM.M.lift ((getW env 4).bind fun x => (getW env 1).bind fun y => fdivW x y)).bind fun v => (LM.M.lift (getW env 0)).bind fun d => (LM.M.lift (W.ret (.str "rest"))).bind fun y => (LM.putS d y v).bind fun _ => LM.M.ret (.nx env))
  fun env => (LM.M.lift (((getW env 4).bind fun x => (getW env 1).bind fun y => modW x y).bind fun d => W.ret (.rt d))))
def bPick_4 (env : Env) : LM.M Fl := (LM.thenM (((((LM.M.lift ((getW env 5).bind fun x => (getW env 5).bind fun y => mulW x y)).bind fun x => ((LM.M.lift (W.ret (.int 69069))).bind fun x => ((LM.M.lift (getW env 0)).bind fun d => (LM.M.lift (W.ret (.str "count"))).bind fun y => LM.ixS d y).bind fun y => LM.M.lift (mulW x y)).bind fun y => LM.M.lift (addW x y)).bind fun x => (LM.M.lift (W.ret (.int 1))).bind fun y => LM.M.lift (addW x y)).bind fun x => (LM.M.lift (W.ret (.int 2147483497))).bind fun y => LM.M.lift (modW x y)).bind fun d => LM.M.ret (.nx (env.set 5 (some d))))
  fun env => (LM.M.lift ((((getW env 5).bind fun x => (W.ret (.int 256)).bind fun y => fdivW x y).bind fun x => (getW env 1).bind fun y => modW x y).bind fun d => W.ret (.rt d))))
def bPick_5 (env : Env) : LM.M Fl := (LM.thenM (((((LM.M.lift ((getW env 5).bind fun x => (getW env 5).bind fun y => mulW x y)).bind fun x => ((LM.M.lift (W.ret (.int 3))).bind fun x => ((LM.M.lift (getW env 0)).bind fun d => (LM.M.lift (W.ret (.str "count"))).bind fun y => LM.ixS d y).bind fun y => LM.M.lift (mulW x y)).bind fun y => LM.M.lift (addW x y)).bind fun x => (LM.M.lift (W.ret (.int 7))).bind fun y => LM.M.lift (addW x y)).bind fun x => (LM.M.lift (W.ret (.int 2147483543))).bind fun y => LM.M.lift (modW x y)).bind fun d => LM.M.ret (.nx (env.set 5 (some d))))
  fun env => (bPick_4 env))
def bPick_6 (env : Env) : LM.M Fl := (LM.thenM (((LM.M.lift ((getW env 4).bind fun x => (W.ret (.int 1073741827)).bind fun y => modW x y)).bind fun x => ((LM.M.lift (W.ret (.int 611953))).bind fun x => ((LM.M.lift (getW env 0)).bind fun d => (LM.M.lift (W.ret (.str "count"))).bind fun y => LM.ixS d y).bind fun y => LM.M.lift (mulW x y)).bind fun y => LM.M.lift (addW x y)).bind fun d => LM.M.ret (.nx (env.set 5 (some d))))
  fun env => (bPick_5 env))
def bPick_7 (env : Env) : LM.M Fl := (LM.thenM (((LM.M.lift (((getW env 4).bind fun x => ((W.ret (.int 10)).bind fun x => (W.ret (.int 18)).bind fun y => powW x y).bind fun y => geW x y).bind asB)).bind fun k => LM.M.ite k ((((LM.M.lift (getW env 0)).bind fun d => (LM.M.lift (W.ret (.str "at"))).bind fun y => LM.ixS d y).bind fun x => (((LM.M.lift (getW env 3)).bind fun d => (LM.M.ret []).bind fun ds => LM.M.ret (d :: ds)).bind LM.lenS).bind fun y => LM.M.lift (leW x y)).bind LM.asBM) (LM.M.ret false)).bind fun k => LM.M.ite k (bPick_3 env) (LM.M.ret (.nx env)))
  fun env => (bPick_6 env))
def bPick_8 (env : Env) : LM.M Fl := (LM.thenM ((((LM.M.lift (getW env 0)).bind fun d => (LM.M.lift (W.ret (.str "at"))).bind fun y => LM.ixS d y).bind fun x => (LM.M.lift (W.ret (.int 1))).bind fun y => LM.M.lift (addW x y)).bind fun v => (LM.M.lift (getW env 0)).bind fun d => (LM.M.lift (W.ret (.str "at"))).bind fun y => (LM.putS d y v).bind fun _ => LM.M.ret (.nx env))
  fun env => (bPick_7 env))
def bPick_9 (env : Env) : LM.M Fl := (LM.thenM (((((LM.M.lift (getW env 3)).bind LM.neNilS).bind LM.asBM).bind fun k => LM.M.ite k ((LM.M.lift (getW env 3)).bind fun d => (((LM.M.lift (getW env 0)).bind fun d => (LM.M.lift (W.ret (.str "at"))).bind fun y => LM.ixS d y).bind fun x => (((LM.M.lift (getW env 3)).bind fun d => (LM.M.ret []).bind fun ds => LM.M.ret (d :: ds)).bind LM.lenS).bind fun y => LM.M.lift (modW x y)).bind fun y => LM.ixSL d y) (LM.M.lift (W.ret (.int 109)))).bind fun d => LM.M.ret (.nx (env.set 4 (some d))))
  fun env => (bPick_8 env))
def bPick_10 (env : Env) : LM.M Fl := (LM.thenM (((LM.M.lift (getW env 0)).bind fun d => (LM.M.lift (W.ret (.str "cells"))).bind fun y => LM.ixS d y).bind fun d => LM.M.ret (.nx (env.set 3 (some d))))
  fun env => (bPick_9 env))
def bPick_11 (env : Env) : LM.M Fl := (LM.thenM (((((LM.M.lift (getW env 0)).bind fun d => (LM.M.lift (W.ret (.str "rest"))).bind fun y => LM.ixS d y).bind fun x => (LM.M.lift (W.ret (.int 0))).bind fun y => LM.M.lift (gtW x y)).bind LM.asBM).bind fun k => LM.M.ite k (bPick_2 env) (LM.M.ret (.nx env)))
  fun env => (bPick_10 env))
def bPick (env : Env) : LM.M Fl := (LM.thenM ((((LM.M.lift (getW env 0)).bind fun d => (LM.M.lift (W.ret (.str "count"))).bind fun y => LM.ixS d y).bind fun x => (LM.M.lift (W.ret (.int 1))).bind fun y => LM.M.lift (addW x y)).bind fun v => (LM.M.lift (getW env 0)).bind fun d => (LM.M.lift (W.ret (.str "count"))).bind fun y => (LM.putS d y v).bind fun _ => LM.M.ret (.nx env))
  fun env => (bPick_11 env))
def fPick : List D → LM.M D := LM.runM 2 6 bPick
def bSRows_1 (env : Env) : LM.M Fl := (LM.M.lift (((getW env 7).bind fun x => (W.ret (.int 1)).bind fun y => subW x y).bind fun d => W.ret (.nx (env.set 7 (some d)))))
def bSRows_2 (env : Env) : LM.M Fl := (LM.thenM (LM.M.lift (((W.ret (.int 0)).bind fun d => ((((getW env 5).bind fun d => ((getW env 6).bind fun d => ((W.ret (.int 1)).bind fun d => (W.ret []).bind fun ds => W.ret (d :: ds)).bind fun ds => W.ret (d :: ds)).bind fun ds => W.ret (d :: ds)).bind tupW).bind fun d => (W.ret []).bind fun ds => W.ret (d :: ds)).bind fun ds => W.ret (d :: ds)).bind fun ds => putW env 4 (insW ds)))
  fun env => (bSRows_1 env))
def bSRows_3 (env : Env) : W Fl := ((((getW env 5).bind fun d => ((getW env 6).bind fun d => ((getW env 7).bind fun d => (W.ret []).bind fun ds => W.ret (d :: ds)).bind fun ds => W.ret (d :: ds)).bind fun ds => W.ret (d :: ds)).bind tupW).bind fun d => putW env 4 (appW d))
def bSRows_4 (env : Env) : LM.M Fl := (LM.M.lift ((((getW env 7).bind fun x => (W.ret (.int 0)).bind fun y => gtW x y).bind asB).bind fun k => W.ite k (bSRows_3 env) (W.ret (.nx env))))
def bSRows_5 (env : Env) : LM.M Fl := (LM.thenM (((LM.M.lift (((getW env 7).bind fun x => (W.ret (.int 1)).bind fun y => gtW x y).bind asB)).bind fun k => LM.M.ite k (((((LM.M.lift (getW env 0)).bind fun d => ((LM.M.lift (W.ret (.int 5))).bind fun d => (LM.M.ret []).bind fun ds => LM.M.ret (d :: ds)).bind fun ds => LM.M.ret (d :: ds)).bind fPick).bind fun x => (LM.M.lift (W.ret (.int 0))).bind fun y => LM.M.lift (eqW x y)).bind LM.asBM) (LM.M.ret false)).bind fun k => LM.M.ite k (bSRows_2 env) (LM.M.ret (.nx env)))
  fun env => (bSRows_4 env))
def bSRows_6 (env : Env) : LM.M Fl := (LM.thenM (((((LM.M.lift (getW env 0)).bind fun d => ((LM.M.lift (W.ret (.int 4))).bind fun d => (LM.M.ret []).bind fun ds => LM.M.ret (d :: ds)).bind fun ds => LM.M.ret (d :: ds)).bind fPick).bind fun x => (LM.M.lift (getW env 3)).bind fun y => LM.M.lift (mulW x y)).bind fun d => LM.M.ret (.nx (env.set 7 (some d))))
  fun env => (bSRows_5 env))
def bSRows_7 (env : Env) : LM.M Fl := (((LM.M.lift (getW env 2)).bind fun d => LM.M.lift (walkLW d)).bind fun ds => LM.forM' (fun d env => W.ret (env.set 6 (some d))) (fun env => (bSRows_6 env)) ds env)
def bSRows_8 (env : Env) : LM.M Fl := (LM.thenM (((LM.M.lift (getW env 1)).bind fun d => LM.M.lift (walkLW d)).bind fun ds => LM.forM' (fun d env => W.ret (env.set 5 (some d))) (fun env => (bSRows_7 env)) ds env)
  fun env => (LM.M.lift ((((getW env 4).bind fun d => (W.ret []).bind fun ds => W.ret (d :: ds)).bind tupleW).bind fun d => W.ret (.rt d))))
def bSRows (env : Env) : LM.M Fl := (LM.thenM (LM.M.lift (((W.ret []).bind lstW).bind fun d => (W.want (4 < env.length)).bind fun _ => W.ret (.nx (env.set 4 (some d)))))
  fun env => (bSRows_8 env))
def fSRows : List D → LM.M D := LM.runM 4 8 bSRows
def bCount (env : Env) : W Fl := ((((lcD (tupG 3 (gsW (fun d env => W.ret (env.set 3 (some d))) (gsW (fun d env => W.ret (env.set 4 (some d))) (gsW (fun d env => W.ret (env.set 5 (some d))) (fun ds env => match ds with | [] => W.ret env | _ => W.fail))))) (fun env => ((((getW env 3).bind fun x => (getW env 1).bind fun y => eqW x y).bind asB).bind fun k => W.ite k ((((getW env 2).bind fun x => ((W.ret []).bind tupW).bind fun y => eqW x y).bind asB).bind fun k => W.ite k (W.ret true) (((getW env 4).bind fun x => (getW env 2).bind fun y => inW x y).bind asB)) (W.ret false))) (fun env => (getW env 5)) [3, 4, 5] (fun env => ((getW env 0).bind walkTW)) env).bind fun d => (W.ret []).bind fun ds => W.ret (d :: ds)).bind sumW).bind fun d => W.ret (.rt d))
def fCount : List D → W D := runB 3 6 bCount
def bSWant_1 (env : Env) : LM.M Fl := (LM.thenM (LM.M.lift ((((W.ret (.int 1)).bind fun d => (((((W.ret (.int 10)).bind fun x => (W.ret (.int 9)).bind fun y => powW x y).bind fun d => (((getW env 7).bind fun x => (W.ret (.int 2)).bind fun y => fdivW x y).bind fun d => (W.ret []).bind fun ds => W.ret (d :: ds)).bind fun ds => W.ret (d :: ds)).bind min2W).bind fun d => (W.ret []).bind fun ds => W.ret (d :: ds)).bind fun ds => W.ret (d :: ds)).bind max2W).bind fun d => W.ret (.nx (env.set 9 (some d)))))
  fun env => ((((LM.M.lift (getW env 4)).bind fun d => ((LM.M.lift (getW env 5)).bind fun d => (((((LM.M.lift (W.ret (.int 1))).bind fun d => (((LM.M.lift (W.ret (.int 1))).bind fun x => (((LM.M.lift (getW env 0)).bind fun d => ((LM.M.lift (W.ret (.int 3))).bind fun d => (LM.M.ret []).bind fun ds => LM.M.ret (d :: ds)).bind fun ds => LM.M.ret (d :: ds)).bind fPick).bind fun y => LM.M.lift (addW x y)).bind fun d => ((LM.M.lift (getW env 8)).bind fun d => ((LM.M.lift (getW env 9)).bind fun d => (LM.M.ret []).bind fun ds => LM.M.ret (d :: ds)).bind fun ds => LM.M.ret (d :: ds)).bind fun ds => LM.M.ret (d :: ds)).bind fun ds => LM.M.ret (d :: ds)).bind fun ds => LM.M.lift (lstW ds)).bind fun x => (((LM.M.lift (getW env 0)).bind fun d => ((LM.M.lift (W.ret (.int 4))).bind fun d => (LM.M.ret []).bind fun ds => LM.M.ret (d :: ds)).bind fun ds => LM.M.ret (d :: ds)).bind fPick).bind fun y => LM.M.lift (ixW x y)).bind fun d => (LM.M.ret []).bind fun ds => LM.M.ret (d :: ds)).bind fun ds => LM.M.ret (d :: ds)).bind fun ds => LM.M.ret (d :: ds)).bind fun ds => LM.M.lift (tupW ds)).bind fun d => LM.M.ret (.rt d)))
def bSWant_2 (env : Env) : LM.M Fl := (LM.thenM ((((LM.M.lift (W.ret (.int 1))).bind fun d => ((((LM.M.lift ((W.ret (.int 10)).bind fun x => (W.ret (.int 9)).bind fun y => powW x y)).bind fun d => (((LM.M.lift (getW env 7)).bind fun x => ((LM.M.lift (((W.ret (.int 0)).bind fun d => ((W.ret (.int 0)).bind fun d => (((W.ret (.int 1)).bind negW).bind fun d => ((W.ret (.int 1)).bind fun d => (W.ret []).bind fun ds => W.ret (d :: ds)).bind fun ds => W.ret (d :: ds)).bind fun ds => W.ret (d :: ds)).bind fun ds => W.ret (d :: ds)).bind lstW)).bind fun x => (((LM.M.lift (getW env 0)).bind fun d => ((LM.M.lift (W.ret (.int 4))).bind fun d => (LM.M.ret []).bind fun ds => LM.M.ret (d :: ds)).bind fun ds => LM.M.ret (d :: ds)).bind fPick).bind fun y => LM.M.lift (ixW x y)).bind fun y => LM.M.lift (addW x y)).bind fun d => (LM.M.ret []).bind fun ds => LM.M.ret (d :: ds)).bind fun ds => LM.M.ret (d :: ds)).bind fun ds => LM.M.lift (min2W ds)).bind fun d => (LM.M.ret []).bind fun ds => LM.M.ret (d :: ds)).bind fun ds => LM.M.ret (d :: ds)).bind fun ds => LM.M.lift (max2W ds)).bind fun d => LM.M.ret (.nx (env.set 8 (some d))))
  fun env => (bSWant_1 env))
def bSWant_3 (env : Env) : LM.M Fl := (LM.thenM (LM.M.lift ((((getW env 1).bind fun d => ((getW env 4).bind fun d => ((getW env 5).bind fun d => (W.ret []).bind fun ds => W.ret (d :: ds)).bind fun ds => W.ret (d :: ds)).bind fun ds => W.ret (d :: ds)).bind fCount).bind fun d => W.ret (.nx (env.set 7 (some d)))))
  fun env => (bSWant_2 env))
def bSWant_4 (env : Env) : LM.M Fl := (LM.thenM ((((((LM.lcDM (fun d env => W.ret (env.set 6 (some d))) (fun env => (((((LM.M.lift (getW env 0)).bind fun d => ((LM.M.lift (W.ret (.int 2))).bind fun d => (LM.M.ret []).bind fun ds => LM.M.ret (d :: ds)).bind fun ds => LM.M.ret (d :: ds)).bind fPick).bind fun x => (LM.M.lift (W.ret (.int 0))).bind fun y => LM.M.lift (eqW x y)).bind LM.asBM)) (fun env => (LM.M.lift (getW env 6))) [6] (fun env => ((LM.M.lift (getW env 3)).bind fun d => LM.M.lift (walkLW d))) env).bind fun d => (LM.M.ret []).bind fun ds => LM.M.ret (d :: ds)).bind fun ds => LM.M.lift (sortedW ds)).bind fun d => (LM.M.ret []).bind fun ds => LM.M.ret (d :: ds)).bind fun ds => LM.M.lift (tupleW ds)).bind fun d => LM.M.ret (.nx (env.set 5 (some d))))
  fun env => (bSWant_3 env))
def bSWant (env : Env) : LM.M Fl := (LM.thenM (((LM.M.lift (getW env 2)).bind fun x => (((LM.M.lift (getW env 0)).bind fun d => ((LM.M.lift (((getW env 2).bind fun d => (W.ret []).bind fun ds => W.ret (d :: ds)).bind lenW)).bind fun d => (LM.M.ret []).bind fun ds => LM.M.ret (d :: ds)).bind fun ds => LM.M.ret (d :: ds)).bind fPick).bind fun y => LM.M.lift (ixW x y)).bind fun d => LM.M.ret (.nx (env.set 4 (some d))))
  fun env => (bSWant_4 env))
def fSWant : List D → LM.M D := LM.runM 4 10 bSWant
end LP
namespace LP
open PySem PySem.Spec PyProof.Rows L2 PK
/-! ### drawing from a dict -/
abbrev srcS (i l n : Int) (cs : List Int) (rest : LM.Sto) : LM.Sto := LM.srcD "rest" i l n :: LM.cellsD cs :: rest
section
variable {i l n : Int} {cs : List Int} {rest : LM.Sto}
theorem sk (y : Str) : LM.kOf (.str y) = some (.inr y) := rfl
theorem so {α : Type} {x : α} : optW (some x) = W.ret x := rfl
end
section
variable {i l n : Int} {cs : List Int} {rest : LM.Sto}
end
end LP
namespace LP
open PySem PySem.Spec PyProof.Rows L2 PK RZ
/-! ### shades -/
/-! ### wants, ways -/
theorem Sz.un {m dp n : Nat} {l : List D} (h : Sz m dp n (.tup l)) : Szs m dp n l ∧ wts (D.toPs l) + 3 ≤ n := by
  have h3 : (PyData.tuple (D.toPs l)).depth ≤ dp := h.dep
  rw [depth_tuple] at h3
  have h4 : wts (D.toPs l) + 3 ≤ n := h.wt
  exact ⟨⟨h.pl, h.mx, by omega, by omega⟩, h4⟩
end LP
namespace LP
open PySem PySem.Spec PyProof.Rows L2 PK
def bLMany (env : Env) : W Fl := (((((W.ret (.int 1)).bind fun d => (((W.ret (.int 1)).bind fun x => (((getW env 0).bind fun d => ((W.ret (.int 9)).bind fun d => (W.ret []).bind fun ds => W.ret (d :: ds)).bind fun ds => W.ret (d :: ds)).bind drawW).bind fun y => addW x y).bind fun d => ((((W.ret (.int 10)).bind fun x => (W.ret (.int 9)).bind fun y => powW x y).bind fun x => (((getW env 0).bind fun d => ((W.ret (.int 3)).bind fun d => (W.ret []).bind fun ds => W.ret (d :: ds)).bind fun ds => W.ret (d :: ds)).bind drawW).bind fun y => subW x y).bind fun d => (((W.ret (.int 1)).bind fun x => (((getW env 0).bind fun d => (((W.ret (.int 10)).bind fun x => (W.ret (.int 6)).bind fun y => powW x y).bind fun d => (W.ret []).bind fun ds => W.ret (d :: ds)).bind fun ds => W.ret (d :: ds)).bind drawW).bind fun y => addW x y).bind fun d => (W.ret []).bind fun ds => W.ret (d :: ds)).bind fun ds => W.ret (d :: ds)).bind fun ds => W.ret (d :: ds)).bind fun ds => W.ret (d :: ds)).bind lstW).bind fun x => (((getW env 0).bind fun d => ((W.ret (.int 4)).bind fun d => (W.ret []).bind fun ds => W.ret (d :: ds)).bind fun ds => W.ret (d :: ds)).bind drawW).bind fun y => ixW x y).bind fun d => W.ret (.rt d))
def fLMany : List D → W D := runB 1 1 bLMany
def bLWant (env : Env) : W Fl := (thenW (((getW env 1).bind fun x => (((getW env 0).bind fun d => ((((getW env 1).bind fun d => (W.ret []).bind fun ds => W.ret (d :: ds)).bind lenW).bind fun d => (W.ret []).bind fun ds => W.ret (d :: ds)).bind fun ds => W.ret (d :: ds)).bind drawW).bind fun y => ixW x y).bind fun d => W.ret (.nx (env.set 3 (some d))))
  fun env => (thenW ((((lcD (fun d env => W.ret (env.set 5 (some d))) (fun env => (((((getW env 0).bind fun d => ((W.ret (.int 2)).bind fun d => (W.ret []).bind fun ds => W.ret (d :: ds)).bind fun ds => W.ret (d :: ds)).bind drawW).bind fun x => (W.ret (.int 0)).bind fun y => eqW x y).bind asB)) (fun env => (getW env 5)) [5] (fun env => ((((getW env 2).bind fun d => (W.ret []).bind fun ds => W.ret (d :: ds)).bind sortedW).bind walkLW)) env).bind fun d => (W.ret []).bind fun ds => W.ret (d :: ds)).bind tupleW).bind fun d => W.ret (.nx (env.set 4 (some d))))
  fun env => ((((getW env 3).bind fun d => ((getW env 4).bind fun d => ((((getW env 0).bind fun d => (W.ret []).bind fun ds => W.ret (d :: ds)).bind fLMany).bind fun d => (W.ret []).bind fun ds => W.ret (d :: ds)).bind fun ds => W.ret (d :: ds)).bind fun ds => W.ret (d :: ds)).bind tupW).bind fun d => W.ret (.rt d))))
def fLWant : List D → W D := runB 3 6 bLWant
end LP
namespace LP
open PySem PySem.Spec PyProof.Rows L2 PK LP
end LP
namespace LP
open PySem PySem.Spec PyProof.Rows L2 PK RZ
theorem many_wp {Q : D → Prop} {E : Ex → Prop} (q : ∀ r : Int, 1 ≤ r → r ≤ 1000000000 → Q (.int r)) : (fLMany [.tok 0]).wp Q E := by
  refine ⟨rfl, ?_⟩
  show (endW (bLMany (startE 1 [.tok 0]))).wp Q E
  simp only [bLMany, W.bind_wp, W.ret_wp, W.want_wp, W.any_wp, s_ite, s_get0, s_get, s_then, s_end, s_run, s_calm, s_fail, s_start1, s_start2, s_start3, s_start4, s_start5, List.replicate, List.set_cons_zero, List.set_cons_succ, asB_bl, asS_str, Nat.reduceSub, Nat.reduceAdd, addW.eq_1, addW.eq_2, addW.eq_3, addW.eq_4, addW.eq_5, subW.eq_1, subW.eq_2, mulW.eq_1, mulW.eq_2, mulW.eq_3, intOp.eq_1, negW.eq_1, ordW.eq_1, ordW.eq_2, isW.eq_1, isntW.eq_1, ixW.eq_1, ixW.eq_2, ixW.eq_3, slW.eq_1, slW.eq_2, slW.eq_3, revTW.eq_1, revLW.eq_1, lenW.eq_1, lenW.eq_2, lenW.eq_3, tupleW.eq_1, tupleW.eq_2, listW.eq_1, listW.eq_2, min2W.eq_1, max2W.eq_1, strW.eq_1, strW.eq_2, joinW.eq_1, joinW.eq_2, walkLW.eq_1, walkTW.eq_1, walkSW.eq_1, range1W.eq_1, zipW.eq_1, zipW.eq_2, tupG.eq_1, gsW.eq_1, gsW.eq_2, par2.eq_1, extW.eq_1, extW.eq_2, partW.eq_1, optW.eq_1, optW.eq_2, modW, fdivW, powW, ltW, leW, gtW, geW, isNone, isi_non, isi_bl, isi_int, isi_str, isi_tup, isi_lst, upperW, putW, appW, tupW, lstW, asB_bl, String.reduceBEq, beq_self_eq_true, Bool.or_true, Bool.true_or, Bool.or_false, Bool.false_or, Bool.and_true, Bool.true_and, Bool.and_false, Bool.false_and, Bool.not_true, Bool.not_false, forall_const, true_implies, true_and, and_true, false_implies, reduceCtorEq, List.length_cons, List.length_nil, forall_eq, imp_self, implies_true, if_true, if_false, Bool.false_eq_true, Bool.true_eq_false]
  refine draw_wp (by decide) (by decide) fun r1 a1 b1 => ⟨⟨by decide, by decide, by decide⟩, draw_wp (by decide) (by decide) fun r2 a2 b2 => ⟨⟨by decide, by decide, by decide⟩, draw_wp (by decide) (by decide) fun r3 a3 b3 => ⟨small (by decide), draw_wp (by decide) (by decide) fun r4 a4 b4 => ?_⟩⟩⟩
  have b3 : r3 < 1000000 := b3
  have e : r4 = 0 ∨ r4 = 1 ∨ r4 = 2 ∨ r4 = 3 := by omega
  rcases e with rfl | rfl | rfl | rfl
  · exact q 1 (by decide) (by decide)
  · exact q (1 + r1) (by omega) (by omega)
  · exact q (1000000000 - r2) (by omega) (by omega)
  · exact q (1 + r3) (by omega) (by omega)
theorem plains_strs (ws : List Str) : D.plains (ws.map D.str) = true := by
  rw [plains_all, List.all_map]
  exact List.all_eq_true.mpr fun _ _ => rfl
theorem Word.ok {y : Str} (h : Word y) : PyData.strOk y = true := strOk_mem.mpr fun c hc => by
  have := (h.low c hc).2
  omega
/-! ### texts sorted -/
theorem toPs_strs (l : List Str) : D.toPs (l.map D.str) = l.map PyData.str := by
  rw [toPs_map, List.map_map]
  rfl
theorem cmpb_strs (l : List Str) : Cmpb (D.toPs (l.map D.str)) := by
  rw [toPs_strs]
  refine ⟨fun d hd e he => ?_, .inr fun d hd => ?_, fun d hd => ?_⟩
  · obtain ⟨a, _, rfl⟩ := List.mem_map.mp hd
    obtain ⟨b, _, rfl⟩ := List.mem_map.mp he
    exact str_alike a b
  · obtain ⟨a, _, rfl⟩ := List.mem_map.mp hd
    exact ⟨fun z => (nomatch z), fun _ z => (nomatch z)⟩
  · obtain ⟨a, _, rfl⟩ := List.mem_map.mp hd
    exact Nat.zero_le _
theorem sortD_strs (l : List Str) : sortD (l.map D.str) = (sortS l).map D.str := by
  unfold sortD sortS srt
  exact (merge_map D.str (PySem.W.dataLe false D.toP) l).symm
theorem sorted_strs {l : List Str} (h : l.length ≤ 1000000) : sortedW [.lst (l.map D.str)] = W.ret (.lst ((sortS l).map D.str)) := by
  show W.bind (W.want _) _ = _
  rw [W.want_bind ⟨plains_strs l, cmpb_strs l, by rw [List.length_map]; exact small h⟩, sortD_strs]
theorem sortS_len (l : List Str) : (sortS l).length = l.length := (srt_perm false _ _).length_eq
def wantD' (f : Str) (zs : List Str) (r : Int) : D := .tup [.str f, .tup (zs.map D.str), .int r]
theorem want_wp {fs ss : List Str} {Q : D → Prop} {E : Ex → Prop} (hf : fs ≠ []) (lf : fs.length ≤ 1000) (ls : ss.length ≤ 1000) (q : ∀ f ∈ fs, ∀ (zs : List Str) (r : Int), zs.Sublist (sortS ss) → 1 ≤ r → r ≤ 1000000000 → Q (wantD' f zs r)) :
    (fLWant [.tok 0, .lst (fs.map D.str), .lst (ss.map D.str)]).wp Q E := by
  refine ⟨rfl, ?_⟩
  show (endW (bLWant (startE 6 [.tok 0, .lst (fs.map D.str), .lst (ss.map D.str)]))).wp Q E
  simp only [bLWant, W.bind_wp, W.ret_wp, W.want_wp, W.any_wp, s_ite, s_get0, s_get, s_then, s_end, s_run, s_calm, s_fail, s_start1, s_start2, s_start3, s_start4, s_start5, List.replicate, List.set_cons_zero, List.set_cons_succ, asB_bl, asS_str, Nat.reduceSub, Nat.reduceAdd, addW.eq_1, addW.eq_2, addW.eq_3, addW.eq_4, addW.eq_5, subW.eq_1, subW.eq_2, mulW.eq_1, mulW.eq_2, mulW.eq_3, intOp.eq_1, negW.eq_1, ordW.eq_1, ordW.eq_2, isW.eq_1, isntW.eq_1, ixW.eq_1, ixW.eq_2, ixW.eq_3, slW.eq_1, slW.eq_2, slW.eq_3, revTW.eq_1, revLW.eq_1, lenW.eq_1, lenW.eq_2, lenW.eq_3, tupleW.eq_1, tupleW.eq_2, listW.eq_1, listW.eq_2, min2W.eq_1, max2W.eq_1, strW.eq_1, strW.eq_2, joinW.eq_1, joinW.eq_2, walkLW.eq_1, walkTW.eq_1, walkSW.eq_1, range1W.eq_1, zipW.eq_1, zipW.eq_2, tupG.eq_1, gsW.eq_1, gsW.eq_2, par2.eq_1, extW.eq_1, extW.eq_2, partW.eq_1, optW.eq_1, optW.eq_2, modW, fdivW, powW, ltW, leW, gtW, geW, isNone, isi_non, isi_bl, isi_int, isi_str, isi_tup, isi_lst, upperW, putW, appW, tupW, lstW, asB_bl, String.reduceBEq, beq_self_eq_true, Bool.or_true, Bool.true_or, Bool.or_false, Bool.false_or, Bool.and_true, Bool.true_and, Bool.and_false, Bool.false_and, Bool.not_true, Bool.not_false, forall_const, true_implies, true_and, and_true, false_implies, reduceCtorEq, List.length_cons, List.length_nil, forall_eq, imp_self, implies_true, if_true, if_false, Bool.false_eq_true, Bool.true_eq_false]
  have l0 : 0 < fs.length := List.length_pos_iff.mpr hf
  refine draw_wp (by rw [List.length_map]; omega) (by rw [List.length_map]; omega) fun r r0 r1 => ?_
  rw [List.length_map] at r1
  obtain ⟨k, rfl⟩ := Int.eq_ofNat_of_zero_le r0
  have hk : k < fs.length := by omega
  have ek : atI (fs.map D.str) (k : Int) = some (.str fs[k]) := atI_nat (by rw [List.getElem?_map, List.getElem?_eq_getElem hk]; rfl)
  simp only [W.bind_wp, W.ret_wp, W.want_wp, W.any_wp, s_ite, s_get0, s_get, s_then, s_end, s_run, s_calm, s_fail, s_start1, s_start2, s_start3, s_start4, s_start5, List.replicate, List.set_cons_zero, List.set_cons_succ, asB_bl, asS_str, Nat.reduceSub, Nat.reduceAdd, addW.eq_1, addW.eq_2, addW.eq_3, addW.eq_4, addW.eq_5, subW.eq_1, subW.eq_2, mulW.eq_1, mulW.eq_2, mulW.eq_3, intOp.eq_1, negW.eq_1, ordW.eq_1, ordW.eq_2, isW.eq_1, isntW.eq_1, ixW.eq_1, ixW.eq_2, ixW.eq_3, slW.eq_1, slW.eq_2, slW.eq_3, revTW.eq_1, revLW.eq_1, lenW.eq_1, lenW.eq_2, lenW.eq_3, tupleW.eq_1, tupleW.eq_2, listW.eq_1, listW.eq_2, min2W.eq_1, max2W.eq_1, strW.eq_1, strW.eq_2, joinW.eq_1, joinW.eq_2, walkLW.eq_1, walkTW.eq_1, walkSW.eq_1, range1W.eq_1, zipW.eq_1, zipW.eq_2, tupG.eq_1, gsW.eq_1, gsW.eq_2, par2.eq_1, extW.eq_1, extW.eq_2, partW.eq_1, optW.eq_1, optW.eq_2, modW, fdivW, powW, ltW, leW, gtW, geW, isNone, isi_non, isi_bl, isi_int, isi_str, isi_tup, isi_lst, upperW, putW, appW, tupW, lstW, asB_bl, String.reduceBEq, beq_self_eq_true, Bool.or_true, Bool.true_or, Bool.or_false, Bool.false_or, Bool.and_true, Bool.true_and, Bool.and_false, Bool.false_and, Bool.not_true, Bool.not_false, forall_const, true_implies, true_and, and_true, false_implies, reduceCtorEq, List.length_cons, List.length_nil, forall_eq, imp_self, implies_true, if_true, if_false, Bool.false_eq_true, Bool.true_eq_false, ek]
  refine lcD_go ?_
  simp only [W.bind_wp, W.ret_wp, W.want_wp, W.any_wp, s_ite, s_get0, s_get, s_then, s_end, s_run, s_calm, s_fail, s_start1, s_start2, s_start3, s_start4, s_start5, List.replicate, List.set_cons_zero, List.set_cons_succ, asB_bl, asS_str, Nat.reduceSub, Nat.reduceAdd, addW.eq_1, addW.eq_2, addW.eq_3, addW.eq_4, addW.eq_5, subW.eq_1, subW.eq_2, mulW.eq_1, mulW.eq_2, mulW.eq_3, intOp.eq_1, negW.eq_1, ordW.eq_1, ordW.eq_2, isW.eq_1, isntW.eq_1, ixW.eq_1, ixW.eq_2, ixW.eq_3, slW.eq_1, slW.eq_2, slW.eq_3, revTW.eq_1, revLW.eq_1, lenW.eq_1, lenW.eq_2, lenW.eq_3, tupleW.eq_1, tupleW.eq_2, listW.eq_1, listW.eq_2, min2W.eq_1, max2W.eq_1, strW.eq_1, strW.eq_2, joinW.eq_1, joinW.eq_2, walkLW.eq_1, walkTW.eq_1, walkSW.eq_1, range1W.eq_1, zipW.eq_1, zipW.eq_2, tupG.eq_1, gsW.eq_1, gsW.eq_2, par2.eq_1, extW.eq_1, extW.eq_2, partW.eq_1, optW.eq_1, optW.eq_2, modW, fdivW, powW, ltW, leW, gtW, geW, isNone, isi_non, isi_bl, isi_int, isi_str, isi_tup, isi_lst, upperW, putW, appW, tupW, lstW, asB_bl, String.reduceBEq, beq_self_eq_true, Bool.or_true, Bool.true_or, Bool.or_false, Bool.false_or, Bool.and_true, Bool.true_and, Bool.and_false, Bool.false_and, Bool.not_true, Bool.not_false, forall_const, true_implies, true_and, and_true, false_implies, reduceCtorEq, List.length_cons, List.length_nil, forall_eq, imp_self, implies_true, if_true, if_false, Bool.false_eq_true, Bool.true_eq_false, sorted_strs (show ss.length ≤ 1000000 by omega)]
  refine lcW_goT (fun i acc => ∃ zs : List Str, acc = zs.map D.str ∧ zs.Sublist ((sortS ss).take i)) ⟨[], rfl, List.nil_sublist _⟩ ?_ ?_
  · rintro i d acc hd ⟨zs, rfl, hz⟩
    rw [List.getElem?_map] at hd
    obtain ⟨y, hy, rfl⟩ := Option.map_eq_some_iff.mp hd
    have lz := hz.length_le
    rw [List.length_take, sortS_len] at lz
    simp only [wipeE, W.bind_wp, W.ret_wp, W.want_wp, W.any_wp, s_ite, s_get0, s_get, s_then, s_end, s_run, s_calm, s_fail, s_start1, s_start2, s_start3, s_start4, s_start5, List.replicate, List.set_cons_zero, List.set_cons_succ, asB_bl, asS_str, Nat.reduceSub, Nat.reduceAdd, addW.eq_1, addW.eq_2, addW.eq_3, addW.eq_4, addW.eq_5, subW.eq_1, subW.eq_2, mulW.eq_1, mulW.eq_2, mulW.eq_3, intOp.eq_1, negW.eq_1, ordW.eq_1, ordW.eq_2, isW.eq_1, isntW.eq_1, ixW.eq_1, ixW.eq_2, ixW.eq_3, slW.eq_1, slW.eq_2, slW.eq_3, revTW.eq_1, revLW.eq_1, lenW.eq_1, lenW.eq_2, lenW.eq_3, tupleW.eq_1, tupleW.eq_2, listW.eq_1, listW.eq_2, min2W.eq_1, max2W.eq_1, strW.eq_1, strW.eq_2, joinW.eq_1, joinW.eq_2, walkLW.eq_1, walkTW.eq_1, walkSW.eq_1, range1W.eq_1, zipW.eq_1, zipW.eq_2, tupG.eq_1, gsW.eq_1, gsW.eq_2, par2.eq_1, extW.eq_1, extW.eq_2, partW.eq_1, optW.eq_1, optW.eq_2, modW, fdivW, powW, ltW, leW, gtW, geW, isNone, isi_non, isi_bl, isi_int, isi_str, isi_tup, isi_lst, upperW, putW, appW, tupW, lstW, asB_bl, String.reduceBEq, beq_self_eq_true, Bool.or_true, Bool.true_or, Bool.or_false, Bool.false_or, Bool.and_true, Bool.true_and, Bool.and_false, Bool.false_and, Bool.not_true, Bool.not_false, forall_const, true_implies, true_and, and_true, false_implies, reduceCtorEq, List.length_cons, List.length_nil, forall_eq, imp_self, implies_true, if_true, if_false, Bool.false_eq_true, Bool.true_eq_false]
    refine draw_wp (by decide) (by decide) fun r r0 r1 => ?_
    simp only [eqW_int, W.bind_wp, W.ret_wp, W.want_wp, W.any_wp, s_ite, s_get0, s_get, s_then, s_end, s_run, s_calm, s_fail, s_start1, s_start2, s_start3, s_start4, s_start5, List.replicate, List.set_cons_zero, List.set_cons_succ, asB_bl, asS_str, Nat.reduceSub, Nat.reduceAdd, addW.eq_1, addW.eq_2, addW.eq_3, addW.eq_4, addW.eq_5, subW.eq_1, subW.eq_2, mulW.eq_1, mulW.eq_2, mulW.eq_3, intOp.eq_1, negW.eq_1, ordW.eq_1, ordW.eq_2, isW.eq_1, isntW.eq_1, ixW.eq_1, ixW.eq_2, ixW.eq_3, slW.eq_1, slW.eq_2, slW.eq_3, revTW.eq_1, revLW.eq_1, lenW.eq_1, lenW.eq_2, lenW.eq_3, tupleW.eq_1, tupleW.eq_2, listW.eq_1, listW.eq_2, min2W.eq_1, max2W.eq_1, strW.eq_1, strW.eq_2, joinW.eq_1, joinW.eq_2, walkLW.eq_1, walkTW.eq_1, walkSW.eq_1, range1W.eq_1, zipW.eq_1, zipW.eq_2, tupG.eq_1, gsW.eq_1, gsW.eq_2, par2.eq_1, extW.eq_1, extW.eq_2, partW.eq_1, optW.eq_1, optW.eq_2, modW, fdivW, powW, ltW, leW, gtW, geW, isNone, isi_non, isi_bl, isi_int, isi_str, isi_tup, isi_lst, upperW, putW, appW, tupW, lstW, asB_bl, String.reduceBEq, beq_self_eq_true, Bool.or_true, Bool.true_or, Bool.or_false, Bool.false_or, Bool.and_true, Bool.true_and, Bool.and_false, Bool.false_and, Bool.not_true, Bool.not_false, forall_const, true_implies, true_and, and_true, false_implies, reduceCtorEq, List.length_cons, List.length_nil, forall_eq, imp_self, implies_true, if_true, if_false, Bool.false_eq_true, Bool.true_eq_false]
    refine ⟨fun _ => ⟨?_, zs ++ [y], by rw [List.map_append]; rfl, ?_⟩, fun _ => ⟨zs, rfl, ?_⟩⟩
    · rw [List.length_map]
      exact smallT (by omega)
    · rw [take_snoc hy]
      exact List.Sublist.append hz (List.Sublist.refl _)
    · rw [take_snoc hy]
      exact hz.trans (List.sublist_append_left _ _)
  · rintro acc ⟨zs, rfl, hz⟩
    rw [List.length_map, List.take_length] at hz
    refine many_wp fun r r0 r1 => ?_
    exact ⟨small (by decide), q _ (List.getElem_mem hk) zs r hz r0 r1⟩
end LP
namespace LP
open PySem PySem.Spec PyProof.Rows L2 PK LP RZ
theorem rangeAt {lo : Int} {n i : Nat} {d : D} (h : (rangeD lo n)[i]? = some d) : i < n ∧ d = .int (lo + (i : Int)) := by
  unfold rangeD at h
  rw [List.getElem?_map] at h
  obtain ⟨j, hj, rfl⟩ := Option.map_eq_some_iff.mp h
  obtain ⟨h1, h2⟩ := List.getElem?_eq_some_iff.mp hj
  rw [List.length_range] at h1
  rw [List.getElem_range] at h2
  subst h2
  exact ⟨h1, rfl⟩
theorem rangeLen (lo : Int) (n : Nat) : (rangeD lo n).length = n := by simp [rangeD]
/-! ### the drawn rows -/
structure LR (fs ss : List Str) (n : Nat) (L : List PRow) : Prop where
  len : L.length ≤ n
  each : ∀ r ∈ L, r.1 ∈ fs ∧ r.2.1 ∈ ss ∧ 1 ≤ r.2.2 ∧ r.2.2 ≤ 1000000000
end LP
namespace LP
open PySem PySem.Spec PyProof.Rows L2 PK
/-- at most so many were drawn -/
def Fed (n : Nat) (s : LM.Sto) : Prop := ∃ (m : Nat) (i l : Int) (cs : List Int) (rest : LM.Sto), m ≤ n ∧ 0 ≤ i ∧ s = srcS i l (m : Int) cs rest
theorem Fed.mono {n m : Nat} {s : LM.Sto} (h : Fed n s) (k : n ≤ m) : Fed m s := by
  obtain ⟨a, i, l, cs, rest, h1, h2, e⟩ := h
  exact ⟨a, i, l, cs, rest, by omega, h2, e⟩
/-! ### unlike words -/
section
variable {i l n : Int} {cs : List Int} {rest : LM.Sto} {x y : D}
end
theorem erase_perm {α : Type} : ∀ (l : List α) (j : Nat) (h : j < l.length), (l[j] :: l.eraseIdx j).Perm l
  | _ :: _, 0, _ => List.Perm.refl _
  | a :: l, j + 1, h => by
    show (l[j]'(by simpa using h) :: a :: l.eraseIdx j).Perm (a :: l)
    exact (List.Perm.swap _ _ _).trans (List.Perm.cons _ (erase_perm l j (by simpa using h)))
end LP
namespace LP
open PySem PySem.Spec PyProof.Rows L2 PK
/-! ### drawing from a list -/
abbrev tapS (i l n : Int) (cs : List Int) (rest : LM.Sto) : LM.Sto := LM.tapD i l n :: LM.cellsD cs :: rest
section
variable {i l n : Int} {cs : List Int} {rest : LM.Sto}
theorem tap0 : (tapS i l n cs rest : List D)[0]? = some (.lst [.tok 2, .int i, .int l, .int n]) := rfl
theorem tap1 : (tapS i l n cs rest : List D)[1]? = some (.lst (cs.map D.int)) := rfl
theorem unp_tap {gs : List D → Env → W Env} {env : Env} {Q : Fl → LM.Sto → Prop} {E : Ex → LM.Sto → Prop} : (LM.unpS 4 gs env (.tok 1)).wp Q E (tapS i l n cs rest) ↔ (gs [.tok 2, .int i, .int l, .int n] env).wp (fun env' => Q (.nx env') (tapS i l n cs rest)) (fun e => E e (tapS i l n cs rest)) := by
  refine ⟨fun ⟨x, e, q⟩ => ?_, fun q => ⟨_, tap0, rfl, q⟩⟩
  rw [tap0] at e
  cases e
  exact q.2
theorem tput1 {v : Int} {Q : Unit → LM.Sto → Prop} {E : Ex → LM.Sto → Prop} : (LM.putSL (.tok 1) (.int 1) (.int v)).wp Q E (tapS i l n cs rest) ↔ Q () (tapS v l n cs rest) := by
  refine ⟨fun ⟨x, e, q⟩ => ?_, fun q => ⟨_, tap0, q⟩⟩
  rw [tap0] at e
  cases e
  exact q
theorem tput2 {v : Int} {Q : Unit → LM.Sto → Prop} {E : Ex → LM.Sto → Prop} : (LM.putSL (.tok 1) (.int 2) (.int v)).wp Q E (tapS i l n cs rest) ↔ Q () (tapS i v n cs rest) := by
  refine ⟨fun ⟨x, e, q⟩ => ?_, fun q => ⟨_, tap0, q⟩⟩
  rw [tap0] at e
  cases e
  exact q
theorem tput3 {v : Int} {Q : Unit → LM.Sto → Prop} {E : Ex → LM.Sto → Prop} : (LM.putSL (.tok 1) (.int 3) (.int v)).wp Q E (tapS i l n cs rest) ↔ Q () (tapS i l v cs rest) := by
  refine ⟨fun ⟨x, e, q⟩ => ?_, fun q => ⟨_, tap0, q⟩⟩
  rw [tap0] at e
  cases e
  exact q
theorem tlen_cells {Q : D → LM.Sto → Prop} {E : Ex → LM.Sto → Prop} : (LM.lenS [.tok 2]).wp Q E (tapS i l n cs rest) ↔ Q (.int cs.length) (tapS i l n cs rest) := by
  refine ⟨fun ⟨x, e, q⟩ => ?_, fun q => ⟨_, tap1, ?_⟩⟩
  · rw [tap1] at e
    cases e
    rw [← List.length_map (f := D.int)]
    exact q
  · rw [← List.length_map (f := D.int)] at q
    exact q
theorem tnn_cells {Q : D → LM.Sto → Prop} {E : Ex → LM.Sto → Prop} : (LM.neNilS (.tok 2)).wp Q E (tapS i l n cs rest) ↔ Q (.bl !cs.isEmpty) (tapS i l n cs rest) := by
  have e0 : (cs.map D.int).isEmpty = cs.isEmpty := by cases cs <;> rfl
  refine ⟨fun ⟨x, e, q⟩ => ?_, fun q => ⟨_, tap1, ?_⟩⟩
  · rw [tap1] at e
    cases e
    rw [← e0]
    exact q
  · rw [← e0] at q
    exact q
theorem tix_cell {j : Nat} {Q : D → LM.Sto → Prop} {E : Ex → LM.Sto → Prop} (hj : j < cs.length) (h : ∀ c, Q (.int c) (tapS i l n cs rest)) : (LM.ixSL (.tok 2) (.int j)).wp Q E (tapS i l n cs rest) := by
  refine ⟨_, tap1, ?_⟩
  show (ixW (.lst (cs.map D.int)) (.int j)).wp _ _
  have : atI (cs.map D.int) (j : Int) = some (.int cs[j]) := by
    unfold atI ixN
    rw [if_pos (by omega), if_pos (by rw [List.length_map]; omega)]
    simp [hj]
  simp only [ixW, this]
  exact h _
end
/-- at most so many were drawn -/
def TFed (n : Nat) (s : LM.Sto) : Prop := ∃ (m : Nat) (i l : Int) (cs : List Int) (rest : LM.Sto), m ≤ n ∧ 0 ≤ i ∧ s = tapS i l (m : Int) cs rest
theorem TFed.mono {n m : Nat} {s : LM.Sto} (h : TFed n s) (k : n ≤ m) : TFed m s := by
  obtain ⟨a, i, l, cs, rest, h1, h2, e⟩ := h
  exact ⟨a, i, l, cs, rest, by omega, h2, e⟩
/-- more things in the store -/
theorem TFed.push {n : Nat} {s : LM.Sto} {d : D} (h : TFed n s) : TFed n ((s : List D) ++ [d]) := by
  obtain ⟨a, i, l, cs, rest, h1, h2, rfl⟩ := h
  exact ⟨a, i, l, cs, rest ++ [d], h1, h2, rfl⟩
end LP
namespace LP.HD
open PySem PySem.Spec PyProof.Rows L2 PK LP
section
variable {i l n : Int} {cs : List Int} {rest : LM.Sto}
/-- a draw: any number below the second, the count one more -/
theorem dip_wp {m : Int} {Q : D → LM.Sto → Prop} {E : Ex → LM.Sto → Prop} (m0 : 0 < m) (m1 : m ≤ 1000000) (hi : 0 ≤ i) (n0 : 0 ≤ n) (n1 : n < 10000000)
    (h : ∀ r i' l', 0 ≤ r → r < m → 0 ≤ i' → Q (.int r) (tapS i' l' (n + 1) cs rest)) : (fDip [.tok 1, .int m]).wp Q E (tapS i l n cs rest) := by
  have hm : m < 1073741824 := by omega
  have fin : ∀ x i' l', 0 ≤ i' → Q (.int (x % m)) (tapS i' l' (n + 1) cs rest) := fun x i' l' h' => h _ _ _ (Int.emod_nonneg _ (by omega)) (Int.emod_lt_of_pos _ m0) h'
  have nn0 : 0 ≤ n * n := Int.mul_nonneg n0 n0
  have nn1 : n * n ≤ 10000000 * 10000000 := Int.mul_le_mul (by omega) (by omega) n0 (by decide)
  have tail : ∀ (c : Int) (a : Option D), (bDip_6 [some (.tok 1), some (.int m), some (.tok 2), some (.int i), some (.int l), some (.int n), some (.int c), a]).wp (fun f s' => (match f with | .rt d => LM.M.ret d | .nx _ => LM.M.ret .non | _ => LM.M.fail : LM.M D).wp Q E s') E (tapS (i + 1) l (n + 1) cs rest) := by
    intro c a
    have c0 := Int.emod_nonneg c (show (2147483587 : Int) ≠ 0 by decide)
    have c1 := Int.emod_lt_of_pos c (show (0 : Int) < 2147483587 by decide)
    have d0 := Int.emod_nonneg c (show (999961 : Int) ≠ 0 by decide)
    have d1 := Int.emod_lt_of_pos c (show (0 : Int) < 999961 by decide)
    have as : 3931 * n * n = 3931 * (n * n) := Int.mul_assoc _ _ _
    simp only [bDip_6, LM.M.bind_wp, LM.M.ret_wp, LM.M.lift_wp, LM.M.want_wp, LM.M.any_wp, LM.s_ite, LM.s_then, LM.s_end, LM.s_run, LM.s_calm, LM.s_fail, LM.alloc_wp, LM.asBM, LM.putM, LM.par2M.eq_1, W.bind_wp, W.ret_wp, W.want_wp, W.any_wp, s_ite, s_get0, s_get, s_then, s_end, s_run, s_calm, s_fail, s_start1, s_start2, s_start3, s_start4, s_start5, List.replicate, List.set_cons_zero, List.set_cons_succ, asB_bl, asS_str, Nat.reduceSub, Nat.reduceAdd, addW.eq_1, addW.eq_2, addW.eq_3, addW.eq_4, addW.eq_5, subW.eq_1, subW.eq_2, mulW.eq_1, mulW.eq_2, mulW.eq_3, intOp.eq_1, negW.eq_1, ordW.eq_1, ordW.eq_2, isW.eq_1, isntW.eq_1, ixW.eq_1, ixW.eq_2, ixW.eq_3, slW.eq_1, slW.eq_2, slW.eq_3, revTW.eq_1, revLW.eq_1, lenW.eq_1, lenW.eq_2, lenW.eq_3, tupleW.eq_1, tupleW.eq_2, listW.eq_1, listW.eq_2, min2W.eq_1, max2W.eq_1, strW.eq_1, strW.eq_2, joinW.eq_1, joinW.eq_2, walkLW.eq_1, walkTW.eq_1, walkSW.eq_1, range1W.eq_1, zipW.eq_1, zipW.eq_2, tupG.eq_1, gsW.eq_1, gsW.eq_2, par2.eq_1, extW.eq_1, extW.eq_2, partW.eq_1, optW.eq_1, optW.eq_2, modW, fdivW, powW, ltW, leW, gtW, geW, isNone, isi_non, isi_bl, isi_int, isi_str, isi_tup, isi_lst, upperW, putW, appW, tupW, lstW, asB_bl, String.reduceBEq, beq_self_eq_true, Bool.or_true, Bool.true_or, Bool.or_false, Bool.false_or, Bool.and_true, Bool.true_and, Bool.and_false, Bool.false_and, Bool.not_true, Bool.not_false, forall_const, true_implies, true_and, and_true, false_implies, reduceCtorEq, List.length_cons, List.length_nil, forall_eq, imp_self, implies_true, if_true, if_false, Bool.false_eq_true, Bool.true_eq_false]
    refine ⟨by decide, .inl ⟨by decide, by decide⟩, .inl ⟨by omega, by omega⟩, .inl ⟨by decide, by decide⟩, ?_⟩
    have x0 : 0 ≤ c % 2147483587 + 3931 * n * n + 7907 * n + 11 := by omega
    have x1 : c % 2147483587 + 3931 * n * n + 7907 * n + 11 < 2 ^ 60 := by omega
    generalize c % 2147483587 + 3931 * n * n + 7907 * n + 11 = x at x0 x1
    simp only [bDip_5, LM.M.bind_wp, LM.M.ret_wp, LM.M.lift_wp, LM.M.want_wp, LM.M.any_wp, LM.s_ite, LM.s_then, LM.s_end, LM.s_run, LM.s_calm, LM.s_fail, LM.alloc_wp, LM.asBM, LM.putM, LM.par2M.eq_1, W.bind_wp, W.ret_wp, W.want_wp, W.any_wp, s_ite, s_get0, s_get, s_then, s_end, s_run, s_calm, s_fail, s_start1, s_start2, s_start3, s_start4, s_start5, List.replicate, List.set_cons_zero, List.set_cons_succ, asB_bl, asS_str, Nat.reduceSub, Nat.reduceAdd, addW.eq_1, addW.eq_2, addW.eq_3, addW.eq_4, addW.eq_5, subW.eq_1, subW.eq_2, mulW.eq_1, mulW.eq_2, mulW.eq_3, intOp.eq_1, negW.eq_1, ordW.eq_1, ordW.eq_2, isW.eq_1, isntW.eq_1, ixW.eq_1, ixW.eq_2, ixW.eq_3, slW.eq_1, slW.eq_2, slW.eq_3, revTW.eq_1, revLW.eq_1, lenW.eq_1, lenW.eq_2, lenW.eq_3, tupleW.eq_1, tupleW.eq_2, listW.eq_1, listW.eq_2, min2W.eq_1, max2W.eq_1, strW.eq_1, strW.eq_2, joinW.eq_1, joinW.eq_2, walkLW.eq_1, walkTW.eq_1, walkSW.eq_1, range1W.eq_1, zipW.eq_1, zipW.eq_2, tupG.eq_1, gsW.eq_1, gsW.eq_2, par2.eq_1, extW.eq_1, extW.eq_2, partW.eq_1, optW.eq_1, optW.eq_2, modW, fdivW, powW, ltW, leW, gtW, geW, isNone, isi_non, isi_bl, isi_int, isi_str, isi_tup, isi_lst, upperW, putW, appW, tupW, lstW, asB_bl, String.reduceBEq, beq_self_eq_true, Bool.or_true, Bool.true_or, Bool.or_false, Bool.false_or, Bool.and_true, Bool.true_and, Bool.and_false, Bool.false_and, Bool.not_true, Bool.not_false, forall_const, true_implies, true_and, and_true, false_implies, reduceCtorEq, List.length_cons, List.length_nil, forall_eq, imp_self, implies_true, if_true, if_false, Bool.false_eq_true, Bool.true_eq_false]
    refine ⟨.inl ⟨by omega, by omega⟩, by decide, ?_⟩
    have y0 := Int.emod_nonneg (x * x) (show (2147483629 : Int) ≠ 0 by decide)
    have y1 := Int.emod_lt_of_pos (x * x) (show (0 : Int) < 2147483629 by decide)
    generalize x * x % 2147483629 = y at y0 y1
    simp only [bDip_4, LM.M.bind_wp, LM.M.ret_wp, LM.M.lift_wp, LM.M.want_wp, LM.M.any_wp, LM.s_ite, LM.s_then, LM.s_end, LM.s_run, LM.s_calm, LM.s_fail, LM.alloc_wp, LM.asBM, LM.putM, LM.par2M.eq_1, W.bind_wp, W.ret_wp, W.want_wp, W.any_wp, s_ite, s_get0, s_get, s_then, s_end, s_run, s_calm, s_fail, s_start1, s_start2, s_start3, s_start4, s_start5, List.replicate, List.set_cons_zero, List.set_cons_succ, asB_bl, asS_str, Nat.reduceSub, Nat.reduceAdd, addW.eq_1, addW.eq_2, addW.eq_3, addW.eq_4, addW.eq_5, subW.eq_1, subW.eq_2, mulW.eq_1, mulW.eq_2, mulW.eq_3, intOp.eq_1, negW.eq_1, ordW.eq_1, ordW.eq_2, isW.eq_1, isntW.eq_1, ixW.eq_1, ixW.eq_2, ixW.eq_3, slW.eq_1, slW.eq_2, slW.eq_3, revTW.eq_1, revLW.eq_1, lenW.eq_1, lenW.eq_2, lenW.eq_3, tupleW.eq_1, tupleW.eq_2, listW.eq_1, listW.eq_2, min2W.eq_1, max2W.eq_1, strW.eq_1, strW.eq_2, joinW.eq_1, joinW.eq_2, walkLW.eq_1, walkTW.eq_1, walkSW.eq_1, range1W.eq_1, zipW.eq_1, zipW.eq_2, tupG.eq_1, gsW.eq_1, gsW.eq_2, par2.eq_1, extW.eq_1, extW.eq_2, partW.eq_1, optW.eq_1, optW.eq_2, modW, fdivW, powW, ltW, leW, gtW, geW, isNone, isi_non, isi_bl, isi_int, isi_str, isi_tup, isi_lst, upperW, putW, appW, tupW, lstW, asB_bl, String.reduceBEq, beq_self_eq_true, Bool.or_true, Bool.true_or, Bool.or_false, Bool.false_or, Bool.and_true, Bool.true_and, Bool.and_false, Bool.false_and, Bool.not_true, Bool.not_false, forall_const, true_implies, true_and, and_true, false_implies, reduceCtorEq, List.length_cons, List.length_nil, forall_eq, imp_self, implies_true, if_true, if_false, Bool.false_eq_true, Bool.true_eq_false]
    refine ⟨.inl ⟨by decide, by decide⟩, ⟨by decide, by decide, by omega⟩, by decide, ?_⟩
    generalize (y + 15485863 * n + 3) ^ Int.toNat 2 = z
    have z0 := Int.emod_nonneg z (show (2147483647 : Int) ≠ 0 by decide)
    have z1 := Int.emod_lt_of_pos z (show (0 : Int) < 2147483647 by decide)
    generalize z % 2147483647 = z at *
    simp only [bDip_3, LM.M.bind_wp, LM.M.ret_wp, LM.M.lift_wp, LM.M.want_wp, LM.M.any_wp, LM.s_ite, LM.s_then, LM.s_end, LM.s_run, LM.s_calm, LM.s_fail, LM.alloc_wp, LM.asBM, LM.putM, LM.par2M.eq_1, W.bind_wp, W.ret_wp, W.want_wp, W.any_wp, s_ite, s_get0, s_get, s_then, s_end, s_run, s_calm, s_fail, s_start1, s_start2, s_start3, s_start4, s_start5, List.replicate, List.set_cons_zero, List.set_cons_succ, asB_bl, asS_str, Nat.reduceSub, Nat.reduceAdd, addW.eq_1, addW.eq_2, addW.eq_3, addW.eq_4, addW.eq_5, subW.eq_1, subW.eq_2, mulW.eq_1, mulW.eq_2, mulW.eq_3, intOp.eq_1, negW.eq_1, ordW.eq_1, ordW.eq_2, isW.eq_1, isntW.eq_1, ixW.eq_1, ixW.eq_2, ixW.eq_3, slW.eq_1, slW.eq_2, slW.eq_3, revTW.eq_1, revLW.eq_1, lenW.eq_1, lenW.eq_2, lenW.eq_3, tupleW.eq_1, tupleW.eq_2, listW.eq_1, listW.eq_2, min2W.eq_1, max2W.eq_1, strW.eq_1, strW.eq_2, joinW.eq_1, joinW.eq_2, walkLW.eq_1, walkTW.eq_1, walkSW.eq_1, range1W.eq_1, zipW.eq_1, zipW.eq_2, tupG.eq_1, gsW.eq_1, gsW.eq_2, par2.eq_1, extW.eq_1, extW.eq_2, partW.eq_1, optW.eq_1, optW.eq_2, modW, fdivW, powW, ltW, leW, gtW, geW, isNone, isi_non, isi_bl, isi_int, isi_str, isi_tup, isi_lst, upperW, putW, appW, tupW, lstW, asB_bl, String.reduceBEq, beq_self_eq_true, Bool.or_true, Bool.true_or, Bool.or_false, Bool.false_or, Bool.and_true, Bool.true_and, Bool.and_false, Bool.false_and, Bool.not_true, Bool.not_false, forall_const, true_implies, true_and, and_true, false_implies, reduceCtorEq, List.length_cons, List.length_nil, forall_eq, imp_self, implies_true, if_true, if_false, Bool.false_eq_true, Bool.true_eq_false]
    refine ⟨by decide, .inr ⟨by decide, by decide⟩, ⟨by decide, by decide, by omega⟩, by decide, ⟨by decide, by decide⟩, m0, ?_⟩
    exact fin _ _ _ (by omega)
  simp only [fDip, bDip, unp_tap, LM.M.bind_wp, LM.M.ret_wp, LM.M.lift_wp, LM.M.want_wp, LM.M.any_wp, LM.s_ite, LM.s_then, LM.s_end, LM.s_run, LM.s_calm, LM.s_fail, LM.alloc_wp, LM.asBM, LM.putM, LM.par2M.eq_1, W.bind_wp, W.ret_wp, W.want_wp, W.any_wp, s_ite, s_get0, s_get, s_then, s_end, s_run, s_calm, s_fail, s_start1, s_start2, s_start3, s_start4, s_start5, List.replicate, List.set_cons_zero, List.set_cons_succ, asB_bl, asS_str, Nat.reduceSub, Nat.reduceAdd, addW.eq_1, addW.eq_2, addW.eq_3, addW.eq_4, addW.eq_5, subW.eq_1, subW.eq_2, mulW.eq_1, mulW.eq_2, mulW.eq_3, intOp.eq_1, negW.eq_1, ordW.eq_1, ordW.eq_2, isW.eq_1, isntW.eq_1, ixW.eq_1, ixW.eq_2, ixW.eq_3, slW.eq_1, slW.eq_2, slW.eq_3, revTW.eq_1, revLW.eq_1, lenW.eq_1, lenW.eq_2, lenW.eq_3, tupleW.eq_1, tupleW.eq_2, listW.eq_1, listW.eq_2, min2W.eq_1, max2W.eq_1, strW.eq_1, strW.eq_2, joinW.eq_1, joinW.eq_2, walkLW.eq_1, walkTW.eq_1, walkSW.eq_1, range1W.eq_1, zipW.eq_1, zipW.eq_2, tupG.eq_1, gsW.eq_1, gsW.eq_2, par2.eq_1, extW.eq_1, extW.eq_2, partW.eq_1, optW.eq_1, optW.eq_2, modW, fdivW, powW, ltW, leW, gtW, geW, isNone, isi_non, isi_bl, isi_int, isi_str, isi_tup, isi_lst, upperW, putW, appW, tupW, lstW, asB_bl, String.reduceBEq, beq_self_eq_true, Bool.or_true, Bool.true_or, Bool.or_false, Bool.false_or, Bool.and_true, Bool.true_and, Bool.and_false, Bool.false_and, Bool.not_true, Bool.not_false, forall_const, true_implies, true_and, and_true, false_implies, reduceCtorEq, List.length_cons, List.length_nil, forall_eq, imp_self, implies_true, if_true, if_false, Bool.false_eq_true, Bool.true_eq_false]
  simp only [bDip_11, tput3, LM.M.bind_wp, LM.M.ret_wp, LM.M.lift_wp, LM.M.want_wp, LM.M.any_wp, LM.s_ite, LM.s_then, LM.s_end, LM.s_run, LM.s_calm, LM.s_fail, LM.alloc_wp, LM.asBM, LM.putM, LM.par2M.eq_1, W.bind_wp, W.ret_wp, W.want_wp, W.any_wp, s_ite, s_get0, s_get, s_then, s_end, s_run, s_calm, s_fail, s_start1, s_start2, s_start3, s_start4, s_start5, List.replicate, List.set_cons_zero, List.set_cons_succ, asB_bl, asS_str, Nat.reduceSub, Nat.reduceAdd, addW.eq_1, addW.eq_2, addW.eq_3, addW.eq_4, addW.eq_5, subW.eq_1, subW.eq_2, mulW.eq_1, mulW.eq_2, mulW.eq_3, intOp.eq_1, negW.eq_1, ordW.eq_1, ordW.eq_2, isW.eq_1, isntW.eq_1, ixW.eq_1, ixW.eq_2, ixW.eq_3, slW.eq_1, slW.eq_2, slW.eq_3, revTW.eq_1, revLW.eq_1, lenW.eq_1, lenW.eq_2, lenW.eq_3, tupleW.eq_1, tupleW.eq_2, listW.eq_1, listW.eq_2, min2W.eq_1, max2W.eq_1, strW.eq_1, strW.eq_2, joinW.eq_1, joinW.eq_2, walkLW.eq_1, walkTW.eq_1, walkSW.eq_1, range1W.eq_1, zipW.eq_1, zipW.eq_2, tupG.eq_1, gsW.eq_1, gsW.eq_2, par2.eq_1, extW.eq_1, extW.eq_2, partW.eq_1, optW.eq_1, optW.eq_2, modW, fdivW, powW, ltW, leW, gtW, geW, isNone, isi_non, isi_bl, isi_int, isi_str, isi_tup, isi_lst, upperW, putW, appW, tupW, lstW, asB_bl, String.reduceBEq, beq_self_eq_true, Bool.or_true, Bool.true_or, Bool.or_false, Bool.false_or, Bool.and_true, Bool.true_and, Bool.and_false, Bool.false_and, Bool.not_true, Bool.not_false, forall_const, true_implies, true_and, and_true, false_implies, reduceCtorEq, List.length_cons, List.length_nil, forall_eq, imp_self, implies_true, if_true, if_false, Bool.false_eq_true, Bool.true_eq_false]
  simp only [bDip_10, LM.M.bind_wp, LM.M.ret_wp, LM.M.lift_wp, LM.M.want_wp, LM.M.any_wp, LM.s_ite, LM.s_then, LM.s_end, LM.s_run, LM.s_calm, LM.s_fail, LM.alloc_wp, LM.asBM, LM.putM, LM.par2M.eq_1, W.bind_wp, W.ret_wp, W.want_wp, W.any_wp, s_ite, s_get0, s_get, s_then, s_end, s_run, s_calm, s_fail, s_start1, s_start2, s_start3, s_start4, s_start5, List.replicate, List.set_cons_zero, List.set_cons_succ, asB_bl, asS_str, Nat.reduceSub, Nat.reduceAdd, addW.eq_1, addW.eq_2, addW.eq_3, addW.eq_4, addW.eq_5, subW.eq_1, subW.eq_2, mulW.eq_1, mulW.eq_2, mulW.eq_3, intOp.eq_1, negW.eq_1, ordW.eq_1, ordW.eq_2, isW.eq_1, isntW.eq_1, ixW.eq_1, ixW.eq_2, ixW.eq_3, slW.eq_1, slW.eq_2, slW.eq_3, revTW.eq_1, revLW.eq_1, lenW.eq_1, lenW.eq_2, lenW.eq_3, tupleW.eq_1, tupleW.eq_2, listW.eq_1, listW.eq_2, min2W.eq_1, max2W.eq_1, strW.eq_1, strW.eq_2, joinW.eq_1, joinW.eq_2, walkLW.eq_1, walkTW.eq_1, walkSW.eq_1, range1W.eq_1, zipW.eq_1, zipW.eq_2, tupG.eq_1, gsW.eq_1, gsW.eq_2, par2.eq_1, extW.eq_1, extW.eq_2, partW.eq_1, optW.eq_1, optW.eq_2, modW, fdivW, powW, ltW, leW, gtW, geW, isNone, isi_non, isi_bl, isi_int, isi_str, isi_tup, isi_lst, upperW, putW, appW, tupW, lstW, asB_bl, String.reduceBEq, beq_self_eq_true, Bool.or_true, Bool.true_or, Bool.or_false, Bool.false_or, Bool.and_true, Bool.true_and, Bool.and_false, Bool.false_and, Bool.not_true, Bool.not_false, forall_const, true_implies, true_and, and_true, false_implies, reduceCtorEq, List.length_cons, List.length_nil, forall_eq, imp_self, implies_true, if_true, if_false, Bool.false_eq_true, Bool.true_eq_false]
  refine ⟨fun h0 => ?_, fun h0 => ?_⟩
  · simp only [bDip_1, tput2, LM.M.bind_wp, LM.M.ret_wp, LM.M.lift_wp, LM.M.want_wp, LM.M.any_wp, LM.s_ite, LM.s_then, LM.s_end, LM.s_run, LM.s_calm, LM.s_fail, LM.alloc_wp, LM.asBM, LM.putM, LM.par2M.eq_1, W.bind_wp, W.ret_wp, W.want_wp, W.any_wp, s_ite, s_get0, s_get, s_then, s_end, s_run, s_calm, s_fail, s_start1, s_start2, s_start3, s_start4, s_start5, List.replicate, List.set_cons_zero, List.set_cons_succ, asB_bl, asS_str, Nat.reduceSub, Nat.reduceAdd, addW.eq_1, addW.eq_2, addW.eq_3, addW.eq_4, addW.eq_5, subW.eq_1, subW.eq_2, mulW.eq_1, mulW.eq_2, mulW.eq_3, intOp.eq_1, negW.eq_1, ordW.eq_1, ordW.eq_2, isW.eq_1, isntW.eq_1, ixW.eq_1, ixW.eq_2, ixW.eq_3, slW.eq_1, slW.eq_2, slW.eq_3, revTW.eq_1, revLW.eq_1, lenW.eq_1, lenW.eq_2, lenW.eq_3, tupleW.eq_1, tupleW.eq_2, listW.eq_1, listW.eq_2, min2W.eq_1, max2W.eq_1, strW.eq_1, strW.eq_2, joinW.eq_1, joinW.eq_2, walkLW.eq_1, walkTW.eq_1, walkSW.eq_1, range1W.eq_1, zipW.eq_1, zipW.eq_2, tupG.eq_1, gsW.eq_1, gsW.eq_2, par2.eq_1, extW.eq_1, extW.eq_2, partW.eq_1, optW.eq_1, optW.eq_2, modW, fdivW, powW, ltW, leW, gtW, geW, isNone, isi_non, isi_bl, isi_int, isi_str, isi_tup, isi_lst, upperW, putW, appW, tupW, lstW, asB_bl, String.reduceBEq, beq_self_eq_true, Bool.or_true, Bool.true_or, Bool.or_false, Bool.false_or, Bool.and_true, Bool.true_and, Bool.and_false, Bool.false_and, Bool.not_true, Bool.not_false, forall_const, true_implies, true_and, and_true, false_implies, reduceCtorEq, List.length_cons, List.length_nil, forall_eq, imp_self, implies_true, if_true, if_false, Bool.false_eq_true, Bool.true_eq_false]
    exact ⟨⟨m0, hm⟩, m0, fin _ _ _ hi⟩
  · simp only [bDip_9, tput1, LM.M.bind_wp, LM.M.ret_wp, LM.M.lift_wp, LM.M.want_wp, LM.M.any_wp, LM.s_ite, LM.s_then, LM.s_end, LM.s_run, LM.s_calm, LM.s_fail, LM.alloc_wp, LM.asBM, LM.putM, LM.par2M.eq_1, W.bind_wp, W.ret_wp, W.want_wp, W.any_wp, s_ite, s_get0, s_get, s_then, s_end, s_run, s_calm, s_fail, s_start1, s_start2, s_start3, s_start4, s_start5, List.replicate, List.set_cons_zero, List.set_cons_succ, asB_bl, asS_str, Nat.reduceSub, Nat.reduceAdd, addW.eq_1, addW.eq_2, addW.eq_3, addW.eq_4, addW.eq_5, subW.eq_1, subW.eq_2, mulW.eq_1, mulW.eq_2, mulW.eq_3, intOp.eq_1, negW.eq_1, ordW.eq_1, ordW.eq_2, isW.eq_1, isntW.eq_1, ixW.eq_1, ixW.eq_2, ixW.eq_3, slW.eq_1, slW.eq_2, slW.eq_3, revTW.eq_1, revLW.eq_1, lenW.eq_1, lenW.eq_2, lenW.eq_3, tupleW.eq_1, tupleW.eq_2, listW.eq_1, listW.eq_2, min2W.eq_1, max2W.eq_1, strW.eq_1, strW.eq_2, joinW.eq_1, joinW.eq_2, walkLW.eq_1, walkTW.eq_1, walkSW.eq_1, range1W.eq_1, zipW.eq_1, zipW.eq_2, tupG.eq_1, gsW.eq_1, gsW.eq_2, par2.eq_1, extW.eq_1, extW.eq_2, partW.eq_1, optW.eq_1, optW.eq_2, modW, fdivW, powW, ltW, leW, gtW, geW, isNone, isi_non, isi_bl, isi_int, isi_str, isi_tup, isi_lst, upperW, putW, appW, tupW, lstW, asB_bl, String.reduceBEq, beq_self_eq_true, Bool.or_true, Bool.true_or, Bool.or_false, Bool.false_or, Bool.and_true, Bool.true_and, Bool.and_false, Bool.false_and, Bool.not_true, Bool.not_false, forall_const, true_implies, true_and, and_true, false_implies, reduceCtorEq, List.length_cons, List.length_nil, forall_eq, imp_self, implies_true, if_true, if_false, Bool.false_eq_true, Bool.true_eq_false]
    simp only [bDip_8, tnn_cells, tlen_cells, LM.M.bind_wp, LM.M.ret_wp, LM.M.lift_wp, LM.M.want_wp, LM.M.any_wp, LM.s_ite, LM.s_then, LM.s_end, LM.s_run, LM.s_calm, LM.s_fail, LM.alloc_wp, LM.asBM, LM.putM, LM.par2M.eq_1, W.bind_wp, W.ret_wp, W.want_wp, W.any_wp, s_ite, s_get0, s_get, s_then, s_end, s_run, s_calm, s_fail, s_start1, s_start2, s_start3, s_start4, s_start5, List.replicate, List.set_cons_zero, List.set_cons_succ, asB_bl, asS_str, Nat.reduceSub, Nat.reduceAdd, addW.eq_1, addW.eq_2, addW.eq_3, addW.eq_4, addW.eq_5, subW.eq_1, subW.eq_2, mulW.eq_1, mulW.eq_2, mulW.eq_3, intOp.eq_1, negW.eq_1, ordW.eq_1, ordW.eq_2, isW.eq_1, isntW.eq_1, ixW.eq_1, ixW.eq_2, ixW.eq_3, slW.eq_1, slW.eq_2, slW.eq_3, revTW.eq_1, revLW.eq_1, lenW.eq_1, lenW.eq_2, lenW.eq_3, tupleW.eq_1, tupleW.eq_2, listW.eq_1, listW.eq_2, min2W.eq_1, max2W.eq_1, strW.eq_1, strW.eq_2, joinW.eq_1, joinW.eq_2, walkLW.eq_1, walkTW.eq_1, walkSW.eq_1, range1W.eq_1, zipW.eq_1, zipW.eq_2, tupG.eq_1, gsW.eq_1, gsW.eq_2, par2.eq_1, extW.eq_1, extW.eq_2, partW.eq_1, optW.eq_1, optW.eq_2, modW, fdivW, powW, ltW, leW, gtW, geW, isNone, isi_non, isi_bl, isi_int, isi_str, isi_tup, isi_lst, upperW, putW, appW, tupW, lstW, asB_bl, String.reduceBEq, beq_self_eq_true, Bool.or_true, Bool.true_or, Bool.or_false, Bool.false_or, Bool.and_true, Bool.true_and, Bool.and_false, Bool.false_and, Bool.not_true, Bool.not_false, forall_const, true_implies, true_and, and_true, false_implies, reduceCtorEq, List.length_cons, List.length_nil, forall_eq, imp_self, implies_true, if_true, if_false, Bool.false_eq_true, Bool.true_eq_false]
    have step : ∀ c : Int, (bDip_7 [some (.tok 1), some (.int m), some (.tok 2), some (.int i), some (.int l), some (.int n), some (.int c), none]).wp (fun f s' => (match f with | .rt d => LM.M.ret d | .nx _ => LM.M.ret .non | _ => LM.M.fail : LM.M D).wp Q E s') E (tapS (i + 1) l (n + 1) cs rest) := by
      intro c
      simp only [bDip_7, tlen_cells, LM.M.bind_wp, LM.M.ret_wp, LM.M.lift_wp, LM.M.want_wp, LM.M.any_wp, LM.s_ite, LM.s_then, LM.s_end, LM.s_run, LM.s_calm, LM.s_fail, LM.alloc_wp, LM.asBM, LM.putM, LM.par2M.eq_1, W.bind_wp, W.ret_wp, W.want_wp, W.any_wp, s_ite, s_get0, s_get, s_then, s_end, s_run, s_calm, s_fail, s_start1, s_start2, s_start3, s_start4, s_start5, List.replicate, List.set_cons_zero, List.set_cons_succ, asB_bl, asS_str, Nat.reduceSub, Nat.reduceAdd, addW.eq_1, addW.eq_2, addW.eq_3, addW.eq_4, addW.eq_5, subW.eq_1, subW.eq_2, mulW.eq_1, mulW.eq_2, mulW.eq_3, intOp.eq_1, negW.eq_1, ordW.eq_1, ordW.eq_2, isW.eq_1, isntW.eq_1, ixW.eq_1, ixW.eq_2, ixW.eq_3, slW.eq_1, slW.eq_2, slW.eq_3, revTW.eq_1, revLW.eq_1, lenW.eq_1, lenW.eq_2, lenW.eq_3, tupleW.eq_1, tupleW.eq_2, listW.eq_1, listW.eq_2, min2W.eq_1, max2W.eq_1, strW.eq_1, strW.eq_2, joinW.eq_1, joinW.eq_2, walkLW.eq_1, walkTW.eq_1, walkSW.eq_1, range1W.eq_1, zipW.eq_1, zipW.eq_2, tupG.eq_1, gsW.eq_1, gsW.eq_2, par2.eq_1, extW.eq_1, extW.eq_2, partW.eq_1, optW.eq_1, optW.eq_2, modW, fdivW, powW, ltW, leW, gtW, geW, isNone, isi_non, isi_bl, isi_int, isi_str, isi_tup, isi_lst, upperW, putW, appW, tupW, lstW, asB_bl, String.reduceBEq, beq_self_eq_true, Bool.or_true, Bool.true_or, Bool.or_false, Bool.false_or, Bool.and_true, Bool.true_and, Bool.and_false, Bool.false_and, Bool.not_true, Bool.not_false, forall_const, true_implies, true_and, and_true, false_implies, reduceCtorEq, List.length_cons, List.length_nil, forall_eq, imp_self, implies_true, if_true, if_false, Bool.false_eq_true, Bool.true_eq_false]
      refine ⟨⟨by decide, by decide, by decide⟩, fun z => ⟨fun z2 => ?_, fun z2 => tail _ _⟩, fun z => tail _ _⟩
      simp only [bDip_2, tput2, LM.M.bind_wp, LM.M.ret_wp, LM.M.lift_wp, LM.M.want_wp, LM.M.any_wp, LM.s_ite, LM.s_then, LM.s_end, LM.s_run, LM.s_calm, LM.s_fail, LM.alloc_wp, LM.asBM, LM.putM, LM.par2M.eq_1, W.bind_wp, W.ret_wp, W.want_wp, W.any_wp, s_ite, s_get0, s_get, s_then, s_end, s_run, s_calm, s_fail, s_start1, s_start2, s_start3, s_start4, s_start5, List.replicate, List.set_cons_zero, List.set_cons_succ, asB_bl, asS_str, Nat.reduceSub, Nat.reduceAdd, addW.eq_1, addW.eq_2, addW.eq_3, addW.eq_4, addW.eq_5, subW.eq_1, subW.eq_2, mulW.eq_1, mulW.eq_2, mulW.eq_3, intOp.eq_1, negW.eq_1, ordW.eq_1, ordW.eq_2, isW.eq_1, isntW.eq_1, ixW.eq_1, ixW.eq_2, ixW.eq_3, slW.eq_1, slW.eq_2, slW.eq_3, revTW.eq_1, revLW.eq_1, lenW.eq_1, lenW.eq_2, lenW.eq_3, tupleW.eq_1, tupleW.eq_2, listW.eq_1, listW.eq_2, min2W.eq_1, max2W.eq_1, strW.eq_1, strW.eq_2, joinW.eq_1, joinW.eq_2, walkLW.eq_1, walkTW.eq_1, walkSW.eq_1, range1W.eq_1, zipW.eq_1, zipW.eq_2, tupG.eq_1, gsW.eq_1, gsW.eq_2, par2.eq_1, extW.eq_1, extW.eq_2, partW.eq_1, optW.eq_1, optW.eq_2, modW, fdivW, powW, ltW, leW, gtW, geW, isNone, isi_non, isi_bl, isi_int, isi_str, isi_tup, isi_lst, upperW, putW, appW, tupW, lstW, asB_bl, String.reduceBEq, beq_self_eq_true, Bool.or_true, Bool.true_or, Bool.or_false, Bool.false_or, Bool.and_true, Bool.true_and, Bool.and_false, Bool.false_and, Bool.not_true, Bool.not_false, forall_const, true_implies, true_and, and_true, false_implies, reduceCtorEq, List.length_cons, List.length_nil, forall_eq, imp_self, implies_true, if_true, if_false, Bool.false_eq_true, Bool.true_eq_false]
      exact ⟨⟨m0, hm⟩, m0, fin _ _ _ (by omega)⟩
    refine ⟨fun z => ?_, fun z => step 17⟩
    have hc : 0 < cs.length := by
      cases cs with
      | nil => cases z
      | cons _ _ => exact Nat.succ_pos _
    have q0 := Int.emod_nonneg i (show (cs.length : Int) ≠ 0 by omega)
    have q1 := Int.emod_lt_of_pos i (show (0 : Int) < (cs.length : Int) by omega)
    refine ⟨by omega, ?_⟩
    obtain ⟨j, hj⟩ := Int.eq_ofNat_of_zero_le q0
    rw [hj] at q1 ⊢
    exact tix_cell (by omega) fun c => step c
end
/-- what was drawn, what else is in the store: k draws at most, the rest is r -/
def Hnd (k : Nat) (r : List D) (s : LM.Sto) : Prop := ∃ (m : Nat) (i l : Int) (cs : List Int), m ≤ k ∧ 0 ≤ i ∧ s = tapS i l (m : Int) cs r
theorem Hnd.mono {k j : Nat} {r : List D} {s : LM.Sto} (h : Hnd k r s) (kj : k ≤ j) : Hnd j r s := by
  obtain ⟨a, i, l, cs, h1, h2, e⟩ := h
  exact ⟨a, i, l, cs, by omega, h2, e⟩
theorem dip {m : Int} {k : Nat} {r : List D} {s : LM.Sto} {Q : D → LM.Sto → Prop} {E : Ex → LM.Sto → Prop} (m0 : 0 < m) (m1 : m ≤ 1000000) (hf : Hnd k r s) (hn : k < 1000000)
    (h : ∀ x s', 0 ≤ x → x < m → Hnd (k + 1) r s' → Q (.int x) s') : (fDip [.tok 1, .int m]).wp Q E s := by
  obtain ⟨a, i, l, cs, h1, h2, rfl⟩ := hf
  exact dip_wp m0 m1 h2 (by omega) (by omega) fun x i' l' x0 x1 i0 => h x _ x0 x1 ⟨a + 1, i', l', cs, by omega, i0, by rw [Int.natCast_add]; rfl⟩
end LP.HD
namespace LP.HD
open PySem PySem.Spec PyProof.Rows L2 PK LP
/-! ### what is drawn: how great it is -/
def txB : D → Bool
  | .str y => decide (y.length ≤ 8)
  | _ => false
theorem txB_at {d : D} (h : txB d = true) : ∃ y : Str, d = .str y ∧ y.length ≤ 8 := by
  cases d <;> try cases h
  exact ⟨_, rfl, of_decide_eq_true h⟩
theorem at_ix {l : List D} {x : Int} (x0 : 0 ≤ x) (x1 : x < l.length) : ∃ d ∈ l, atI l x = some d := by
  obtain ⟨j, rfl⟩ := Int.eq_ofNat_of_zero_le x0
  have hj : j < l.length := by omega
  exact ⟨l[j], List.getElem_mem _, atI_nat (List.getElem?_eq_getElem hj)⟩
theorem at_wp {l : List D} {x : Int} {Q : D → Prop} {E : Ex → Prop} (x0 : 0 ≤ x) (x1 : x < l.length) (h : ∀ d ∈ l, Q d) : (optW (atI l x)).wp Q E := by
  obtain ⟨d, hd, e⟩ := at_ix x0 x1
  rw [e]
  exact h d hd
theorem at_tx {l : List D} {x : Int} {Q : D → Prop} {E : Ex → Prop} (hl : l.all txB = true) (x0 : 0 ≤ x) (x1 : x < l.length) (h : ∀ y : Str, y.length ≤ 8 → Q (.str y)) : (optW (atI l x)).wp Q E :=
  at_wp x0 x1 fun d hd => by
    obtain ⟨y, rfl, hy⟩ := txB_at (List.all_eq_true.mp hl d hd)
    exact h y hy
theorem sz_tx {y : Str} (h : y.length ≤ 8) : Sz 64 0 82 (.str y) := Sz.str (by omega)
theorem sz_int {i : Int} (h0 : 0 ≤ i) (h1 : i ≤ 2 ^ 60) : Sz 64 0 66 (.int i) := by
  have e : i.natAbs < 2 ^ 62 := by omega
  have h2 : i.natAbs.log2 < 62 ∨ i.natAbs = 0 := by
    by_cases z : i.natAbs = 0
    · exact .inr z
    · exact .inl ((Nat.log2_lt z).mpr e)
  have h3 : i.natAbs.log2 ≤ 62 := by
    rcases h2 with h | h
    · omega
    · rw [h]
      decide
  exact Sz.int (by omega) (by omega)
theorem row_sz {y z : Str} {i : Int} (hy : y.length ≤ 8) (hz : z.length ≤ 8) (h0 : 0 ≤ i) (h1 : i ≤ 2 ^ 60) : Sz 64 1 250 (.tup [.str y, .str z, .int i]) := by
  have : Szs 64 0 _ [D.str y, .str z, .int i] := Szs.cons (sz_tx hy) (Szs.cons (sz_tx hz) (Szs.cons (sz_int h0 h1) (Szs.nil (n := 0))))
  exact (Sz.tup this).mono (Nat.le_refl _) (Nat.le_refl _) (by omega)
theorem Szs.snoc {m dp n j : Nat} {l : List D} {d : D} (h : Szs m dp n l) (g : Sz m dp j d) : Szs m dp (n + (j + 2)) (l ++ [d]) := (h.app (Szs.cons g (Szs.nil (n := 0)))).mono (Nat.le_refl _) (Nat.le_refl _) (by omega)
/-! ### part rows -/
theorem srows {m : Int} {k : Nat} {r : List D} {s : LM.Sto} {Q : D → LM.Sto → Prop} {E : Ex → LM.Sto → Prop} (m0 : 0 ≤ m) (m4 : m ≤ 4) (hf : Hnd k r s) (hn : k + 30 ≤ 1000000)
    (h : ∀ d s', Sz 64 2 2000 d → Hnd (k + 30) r s' → Q d s') : (fSRows [.tok 1, .int m]).wp Q E s := by
  simp only [fSRows, bSRows, LM.M.bind_wp, LM.M.ret_wp, LM.M.lift_wp, LM.M.want_wp, LM.M.any_wp, LM.s_ite, LM.s_then, LM.s_end, LM.s_run, LM.s_calm, LM.s_fail, LM.alloc_wp, LM.asBM, LM.putM, LM.par2M.eq_1, W.bind_wp, W.ret_wp, W.want_wp, W.any_wp, s_ite, s_get0, s_get, s_then, s_end, s_run, s_calm, s_fail, s_start1, s_start2, s_start3, s_start4, s_start5, List.replicate, List.set_cons_zero, List.set_cons_succ, asB_bl, asS_str, Nat.reduceSub, Nat.reduceAdd, addW.eq_1, addW.eq_2, addW.eq_3, addW.eq_4, addW.eq_5, subW.eq_1, subW.eq_2, mulW.eq_1, mulW.eq_2, mulW.eq_3, intOp.eq_1, negW.eq_1, ordW.eq_1, ordW.eq_2, isW.eq_1, isntW.eq_1, ixW.eq_1, ixW.eq_2, ixW.eq_3, slW.eq_1, slW.eq_2, slW.eq_3, revTW.eq_1, revLW.eq_1, lenW.eq_1, lenW.eq_2, lenW.eq_3, tupleW.eq_1, tupleW.eq_2, listW.eq_1, listW.eq_2, min2W.eq_1, max2W.eq_1, strW.eq_1, strW.eq_2, joinW.eq_1, joinW.eq_2, walkLW.eq_1, walkTW.eq_1, walkSW.eq_1, range1W.eq_1, zipW.eq_1, zipW.eq_2, tupG.eq_1, gsW.eq_1, gsW.eq_2, par2.eq_1, extW.eq_1, extW.eq_2, partW.eq_1, optW.eq_1, optW.eq_2, modW, fdivW, powW, ltW, leW, gtW, geW, isNone, isi_non, isi_bl, isi_int, isi_str, isi_tup, isi_lst, upperW, putW, appW, tupW, lstW, asB_bl, String.reduceBEq, beq_self_eq_true, Bool.or_true, Bool.true_or, Bool.or_false, Bool.false_or, Bool.and_true, Bool.true_and, Bool.and_false, Bool.false_and, Bool.not_true, Bool.not_false, forall_const, true_implies, true_and, and_true, false_implies, reduceCtorEq, List.length_cons, List.length_nil, forall_eq, imp_self, implies_true, if_true, if_false, Bool.false_eq_true, Bool.true_eq_false]
  refine ⟨small (by decide), by decide, ?_⟩
  simp only [bSRows_5, LM.M.bind_wp, LM.M.ret_wp, LM.M.lift_wp, LM.M.want_wp, LM.M.any_wp, LM.s_ite, LM.s_then, LM.s_end, LM.s_run, LM.s_calm, LM.s_fail, LM.alloc_wp, LM.asBM, LM.putM, LM.par2M.eq_1, W.bind_wp, W.ret_wp, W.want_wp, W.any_wp, s_ite, s_get0, s_get, s_then, s_end, s_run, s_calm, s_fail, s_start1, s_start2, s_start3, s_start4, s_start5, List.replicate, List.set_cons_zero, List.set_cons_succ, asB_bl, asS_str, Nat.reduceSub, Nat.reduceAdd, addW.eq_1, addW.eq_2, addW.eq_3, addW.eq_4, addW.eq_5, subW.eq_1, subW.eq_2, mulW.eq_1, mulW.eq_2, mulW.eq_3, intOp.eq_1, negW.eq_1, ordW.eq_1, ordW.eq_2, isW.eq_1, isntW.eq_1, ixW.eq_1, ixW.eq_2, ixW.eq_3, slW.eq_1, slW.eq_2, slW.eq_3, revTW.eq_1, revLW.eq_1, lenW.eq_1, lenW.eq_2, lenW.eq_3, tupleW.eq_1, tupleW.eq_2, listW.eq_1, listW.eq_2, min2W.eq_1, max2W.eq_1, strW.eq_1, strW.eq_2, joinW.eq_1, joinW.eq_2, walkLW.eq_1, walkTW.eq_1, walkSW.eq_1, range1W.eq_1, zipW.eq_1, zipW.eq_2, tupG.eq_1, gsW.eq_1, gsW.eq_2, par2.eq_1, extW.eq_1, extW.eq_2, partW.eq_1, optW.eq_1, optW.eq_2, modW, fdivW, powW, ltW, leW, gtW, geW, isNone, isi_non, isi_bl, isi_int, isi_str, isi_tup, isi_lst, upperW, putW, appW, tupW, lstW, asB_bl, String.reduceBEq, beq_self_eq_true, Bool.or_true, Bool.true_or, Bool.or_false, Bool.false_or, Bool.and_true, Bool.true_and, Bool.and_false, Bool.false_and, Bool.not_true, Bool.not_false, forall_const, true_implies, true_and, and_true, false_implies, reduceCtorEq, List.length_cons, List.length_nil, forall_eq, imp_self, implies_true, if_true, if_false, Bool.false_eq_true, Bool.true_eq_false]
  refine dip (by omega) (by omega) hf (by omega) fun x s1 x0 x1 h1 => ?_
  simp only [LM.M.bind_wp, LM.M.ret_wp, LM.M.lift_wp, LM.M.want_wp, LM.M.any_wp, LM.s_ite, LM.s_then, LM.s_end, LM.s_run, LM.s_calm, LM.s_fail, LM.alloc_wp, LM.asBM, LM.putM, LM.par2M.eq_1, W.bind_wp, W.ret_wp, W.want_wp, W.any_wp, s_ite, s_get0, s_get, s_then, s_end, s_run, s_calm, s_fail, s_start1, s_start2, s_start3, s_start4, s_start5, List.replicate, List.set_cons_zero, List.set_cons_succ, asB_bl, asS_str, Nat.reduceSub, Nat.reduceAdd, addW.eq_1, addW.eq_2, addW.eq_3, addW.eq_4, addW.eq_5, subW.eq_1, subW.eq_2, mulW.eq_1, mulW.eq_2, mulW.eq_3, intOp.eq_1, negW.eq_1, ordW.eq_1, ordW.eq_2, isW.eq_1, isntW.eq_1, ixW.eq_1, ixW.eq_2, ixW.eq_3, slW.eq_1, slW.eq_2, slW.eq_3, revTW.eq_1, revLW.eq_1, lenW.eq_1, lenW.eq_2, lenW.eq_3, tupleW.eq_1, tupleW.eq_2, listW.eq_1, listW.eq_2, min2W.eq_1, max2W.eq_1, strW.eq_1, strW.eq_2, joinW.eq_1, joinW.eq_2, walkLW.eq_1, walkTW.eq_1, walkSW.eq_1, range1W.eq_1, zipW.eq_1, zipW.eq_2, tupG.eq_1, gsW.eq_1, gsW.eq_2, par2.eq_1, extW.eq_1, extW.eq_2, partW.eq_1, optW.eq_1, optW.eq_2, modW, fdivW, powW, ltW, leW, gtW, geW, isNone, isi_non, isi_bl, isi_int, isi_str, isi_tup, isi_lst, upperW, putW, appW, tupW, lstW, asB_bl, String.reduceBEq, beq_self_eq_true, Bool.or_true, Bool.true_or, Bool.or_false, Bool.false_or, Bool.and_true, Bool.true_and, Bool.and_false, Bool.false_and, Bool.not_true, Bool.not_false, forall_const, true_implies, true_and, and_true, false_implies, reduceCtorEq, List.length_cons, List.length_nil, forall_eq, imp_self, implies_true, if_true, if_false, Bool.false_eq_true, Bool.true_eq_false]
  refine ⟨⟨by omega, by omega⟩, LM.for_wp (fun t env s => ∃ (L : List D) (y3 y4 y5 y6 y7 : Option D), env = [some (.tok 1), some (.int m), some (.lst L), y3, y4, y5, y6, y7] ∧ L.length = t ∧ Szs 64 1 (252 * t) L ∧ Hnd (k + 1 + 5 * t) r s) ⟨[], _, _, _, _, _, rfl, rfl, Szs.nil, h1⟩ ?_ ?_⟩
  · rintro t d env s' hd ⟨L, y3, y4, y5, y6, y7, rfl, hl, hL, hs⟩
    obtain ⟨ht, rfl⟩ := rangeAt hd
    have ht' : t < 5 := by omega
    simp only [bSRows_4, LM.M.bind_wp, LM.M.ret_wp, LM.M.lift_wp, LM.M.want_wp, LM.M.any_wp, LM.s_ite, LM.s_then, LM.s_end, LM.s_run, LM.s_calm, LM.s_fail, LM.alloc_wp, LM.asBM, LM.putM, LM.par2M.eq_1, W.bind_wp, W.ret_wp, W.want_wp, W.any_wp, s_ite, s_get0, s_get, s_then, s_end, s_run, s_calm, s_fail, s_start1, s_start2, s_start3, s_start4, s_start5, List.replicate, List.set_cons_zero, List.set_cons_succ, asB_bl, asS_str, Nat.reduceSub, Nat.reduceAdd, addW.eq_1, addW.eq_2, addW.eq_3, addW.eq_4, addW.eq_5, subW.eq_1, subW.eq_2, mulW.eq_1, mulW.eq_2, mulW.eq_3, intOp.eq_1, negW.eq_1, ordW.eq_1, ordW.eq_2, isW.eq_1, isntW.eq_1, ixW.eq_1, ixW.eq_2, ixW.eq_3, slW.eq_1, slW.eq_2, slW.eq_3, revTW.eq_1, revLW.eq_1, lenW.eq_1, lenW.eq_2, lenW.eq_3, tupleW.eq_1, tupleW.eq_2, listW.eq_1, listW.eq_2, min2W.eq_1, max2W.eq_1, strW.eq_1, strW.eq_2, joinW.eq_1, joinW.eq_2, walkLW.eq_1, walkTW.eq_1, walkSW.eq_1, range1W.eq_1, zipW.eq_1, zipW.eq_2, tupG.eq_1, gsW.eq_1, gsW.eq_2, par2.eq_1, extW.eq_1, extW.eq_2, partW.eq_1, optW.eq_1, optW.eq_2, modW, fdivW, powW, ltW, leW, gtW, geW, isNone, isi_non, isi_bl, isi_int, isi_str, isi_tup, isi_lst, upperW, putW, appW, tupW, lstW, asB_bl, String.reduceBEq, beq_self_eq_true, Bool.or_true, Bool.true_or, Bool.or_false, Bool.false_or, Bool.and_true, Bool.true_and, Bool.and_false, Bool.false_and, Bool.not_true, Bool.not_false, forall_const, true_implies, true_and, and_true, false_implies, reduceCtorEq, List.length_cons, List.length_nil, forall_eq, imp_self, implies_true, if_true, if_false, Bool.false_eq_true, Bool.true_eq_false]
    refine ⟨small (by decide), ?_⟩
    refine dip (by decide) (by decide) hs (by omega) fun x s1 x0 x1 h1 => ?_
    refine at_tx (by decide +kernel) x0 x1 fun f hf => ?_
    simp only [bSRows_3, LM.M.bind_wp, LM.M.ret_wp, LM.M.lift_wp, LM.M.want_wp, LM.M.any_wp, LM.s_ite, LM.s_then, LM.s_end, LM.s_run, LM.s_calm, LM.s_fail, LM.alloc_wp, LM.asBM, LM.putM, LM.par2M.eq_1, W.bind_wp, W.ret_wp, W.want_wp, W.any_wp, s_ite, s_get0, s_get, s_then, s_end, s_run, s_calm, s_fail, s_start1, s_start2, s_start3, s_start4, s_start5, List.replicate, List.set_cons_zero, List.set_cons_succ, asB_bl, asS_str, Nat.reduceSub, Nat.reduceAdd, addW.eq_1, addW.eq_2, addW.eq_3, addW.eq_4, addW.eq_5, subW.eq_1, subW.eq_2, mulW.eq_1, mulW.eq_2, mulW.eq_3, intOp.eq_1, negW.eq_1, ordW.eq_1, ordW.eq_2, isW.eq_1, isntW.eq_1, ixW.eq_1, ixW.eq_2, ixW.eq_3, slW.eq_1, slW.eq_2, slW.eq_3, revTW.eq_1, revLW.eq_1, lenW.eq_1, lenW.eq_2, lenW.eq_3, tupleW.eq_1, tupleW.eq_2, listW.eq_1, listW.eq_2, min2W.eq_1, max2W.eq_1, strW.eq_1, strW.eq_2, joinW.eq_1, joinW.eq_2, walkLW.eq_1, walkTW.eq_1, walkSW.eq_1, range1W.eq_1, zipW.eq_1, zipW.eq_2, tupG.eq_1, gsW.eq_1, gsW.eq_2, par2.eq_1, extW.eq_1, extW.eq_2, partW.eq_1, optW.eq_1, optW.eq_2, modW, fdivW, powW, ltW, leW, gtW, geW, isNone, isi_non, isi_bl, isi_int, isi_str, isi_tup, isi_lst, upperW, putW, appW, tupW, lstW, asB_bl, String.reduceBEq, beq_self_eq_true, Bool.or_true, Bool.true_or, Bool.or_false, Bool.false_or, Bool.and_true, Bool.true_and, Bool.and_false, Bool.false_and, Bool.not_true, Bool.not_false, forall_const, true_implies, true_and, and_true, false_implies, reduceCtorEq, List.length_cons, List.length_nil, forall_eq, imp_self, implies_true, if_true, if_false, Bool.false_eq_true, Bool.true_eq_false]
    refine ⟨small (by decide), ?_⟩
    refine dip (by decide) (by decide) h1 (by omega) fun x s1 x0 x1 h1 => ?_
    refine at_tx (by decide +kernel) x0 x1 fun y hy => ?_
    simp only [bSRows_2, LM.M.bind_wp, LM.M.ret_wp, LM.M.lift_wp, LM.M.want_wp, LM.M.any_wp, LM.s_ite, LM.s_then, LM.s_end, LM.s_run, LM.s_calm, LM.s_fail, LM.alloc_wp, LM.asBM, LM.putM, LM.par2M.eq_1, W.bind_wp, W.ret_wp, W.want_wp, W.any_wp, s_ite, s_get0, s_get, s_then, s_end, s_run, s_calm, s_fail, s_start1, s_start2, s_start3, s_start4, s_start5, List.replicate, List.set_cons_zero, List.set_cons_succ, asB_bl, asS_str, Nat.reduceSub, Nat.reduceAdd, addW.eq_1, addW.eq_2, addW.eq_3, addW.eq_4, addW.eq_5, subW.eq_1, subW.eq_2, mulW.eq_1, mulW.eq_2, mulW.eq_3, intOp.eq_1, negW.eq_1, ordW.eq_1, ordW.eq_2, isW.eq_1, isntW.eq_1, ixW.eq_1, ixW.eq_2, ixW.eq_3, slW.eq_1, slW.eq_2, slW.eq_3, revTW.eq_1, revLW.eq_1, lenW.eq_1, lenW.eq_2, lenW.eq_3, tupleW.eq_1, tupleW.eq_2, listW.eq_1, listW.eq_2, min2W.eq_1, max2W.eq_1, strW.eq_1, strW.eq_2, joinW.eq_1, joinW.eq_2, walkLW.eq_1, walkTW.eq_1, walkSW.eq_1, range1W.eq_1, zipW.eq_1, zipW.eq_2, tupG.eq_1, gsW.eq_1, gsW.eq_2, par2.eq_1, extW.eq_1, extW.eq_2, partW.eq_1, optW.eq_1, optW.eq_2, modW, fdivW, powW, ltW, leW, gtW, geW, isNone, isi_non, isi_bl, isi_int, isi_str, isi_tup, isi_lst, upperW, putW, appW, tupW, lstW, asB_bl, String.reduceBEq, beq_self_eq_true, Bool.or_true, Bool.true_or, Bool.or_false, Bool.false_or, Bool.and_true, Bool.true_and, Bool.and_false, Bool.false_and, Bool.not_true, Bool.not_false, forall_const, true_implies, true_and, and_true, false_implies, reduceCtorEq, List.length_cons, List.length_nil, forall_eq, imp_self, implies_true, if_true, if_false, Bool.false_eq_true, Bool.true_eq_false]
    refine dip (by decide) (by decide) h1 (by omega) fun a s1 a0 a1 h1 => ?_
    simp only [LM.M.bind_wp, LM.M.ret_wp, LM.M.lift_wp, LM.M.want_wp, LM.M.any_wp, LM.s_ite, LM.s_then, LM.s_end, LM.s_run, LM.s_calm, LM.s_fail, LM.alloc_wp, LM.asBM, LM.putM, LM.par2M.eq_1, W.bind_wp, W.ret_wp, W.want_wp, W.any_wp, s_ite, s_get0, s_get, s_then, s_end, s_run, s_calm, s_fail, s_start1, s_start2, s_start3, s_start4, s_start5, List.replicate, List.set_cons_zero, List.set_cons_succ, asB_bl, asS_str, Nat.reduceSub, Nat.reduceAdd, addW.eq_1, addW.eq_2, addW.eq_3, addW.eq_4, addW.eq_5, subW.eq_1, subW.eq_2, mulW.eq_1, mulW.eq_2, mulW.eq_3, intOp.eq_1, negW.eq_1, ordW.eq_1, ordW.eq_2, isW.eq_1, isntW.eq_1, ixW.eq_1, ixW.eq_2, ixW.eq_3, slW.eq_1, slW.eq_2, slW.eq_3, revTW.eq_1, revLW.eq_1, lenW.eq_1, lenW.eq_2, lenW.eq_3, tupleW.eq_1, tupleW.eq_2, listW.eq_1, listW.eq_2, min2W.eq_1, max2W.eq_1, strW.eq_1, strW.eq_2, joinW.eq_1, joinW.eq_2, walkLW.eq_1, walkTW.eq_1, walkSW.eq_1, range1W.eq_1, zipW.eq_1, zipW.eq_2, tupG.eq_1, gsW.eq_1, gsW.eq_2, par2.eq_1, extW.eq_1, extW.eq_2, partW.eq_1, optW.eq_1, optW.eq_2, modW, fdivW, powW, ltW, leW, gtW, geW, isNone, isi_non, isi_bl, isi_int, isi_str, isi_tup, isi_lst, upperW, putW, appW, tupW, lstW, asB_bl, String.reduceBEq, beq_self_eq_true, Bool.or_true, Bool.true_or, Bool.or_false, Bool.false_or, Bool.and_true, Bool.true_and, Bool.and_false, Bool.false_and, Bool.not_true, Bool.not_false, forall_const, true_implies, true_and, and_true, false_implies, reduceCtorEq, List.length_cons, List.length_nil, forall_eq, imp_self, implies_true, if_true, if_false, Bool.false_eq_true, Bool.true_eq_false]
    refine dip (by decide) (by decide) h1 (by omega) fun b s1 b0 b1 h1 => ?_
    simp only [bSRows_1, LM.M.bind_wp, LM.M.ret_wp, LM.M.lift_wp, LM.M.want_wp, LM.M.any_wp, LM.s_ite, LM.s_then, LM.s_end, LM.s_run, LM.s_calm, LM.s_fail, LM.alloc_wp, LM.asBM, LM.putM, LM.par2M.eq_1, W.bind_wp, W.ret_wp, W.want_wp, W.any_wp, s_ite, s_get0, s_get, s_then, s_end, s_run, s_calm, s_fail, s_start1, s_start2, s_start3, s_start4, s_start5, List.replicate, List.set_cons_zero, List.set_cons_succ, asB_bl, asS_str, Nat.reduceSub, Nat.reduceAdd, addW.eq_1, addW.eq_2, addW.eq_3, addW.eq_4, addW.eq_5, subW.eq_1, subW.eq_2, mulW.eq_1, mulW.eq_2, mulW.eq_3, intOp.eq_1, negW.eq_1, ordW.eq_1, ordW.eq_2, isW.eq_1, isntW.eq_1, ixW.eq_1, ixW.eq_2, ixW.eq_3, slW.eq_1, slW.eq_2, slW.eq_3, revTW.eq_1, revLW.eq_1, lenW.eq_1, lenW.eq_2, lenW.eq_3, tupleW.eq_1, tupleW.eq_2, listW.eq_1, listW.eq_2, min2W.eq_1, max2W.eq_1, strW.eq_1, strW.eq_2, joinW.eq_1, joinW.eq_2, walkLW.eq_1, walkTW.eq_1, walkSW.eq_1, range1W.eq_1, zipW.eq_1, zipW.eq_2, tupG.eq_1, gsW.eq_1, gsW.eq_2, par2.eq_1, extW.eq_1, extW.eq_2, partW.eq_1, optW.eq_1, optW.eq_2, modW, fdivW, powW, ltW, leW, gtW, geW, isNone, isi_non, isi_bl, isi_int, isi_str, isi_tup, isi_lst, upperW, putW, appW, tupW, lstW, asB_bl, String.reduceBEq, beq_self_eq_true, Bool.or_true, Bool.true_or, Bool.or_false, Bool.false_or, Bool.and_true, Bool.true_and, Bool.and_false, Bool.false_and, Bool.not_true, Bool.not_false, forall_const, true_implies, true_and, and_true, false_implies, reduceCtorEq, List.length_cons, List.length_nil, forall_eq, imp_self, implies_true, if_true, if_false, Bool.false_eq_true, Bool.true_eq_false]
    refine ⟨⟨by decide, by decide, by decide⟩, small (by decide), ?_⟩
    refine dip (by decide) (by decide) h1 (by omega) fun c s1 c0 c1 h1 => ?_
    simp only [LM.M.bind_wp, LM.M.ret_wp, LM.M.lift_wp, LM.M.want_wp, LM.M.any_wp, LM.s_ite, LM.s_then, LM.s_end, LM.s_run, LM.s_calm, LM.s_fail, LM.alloc_wp, LM.asBM, LM.putM, LM.par2M.eq_1, W.bind_wp, W.ret_wp, W.want_wp, W.any_wp, s_ite, s_get0, s_get, s_then, s_end, s_run, s_calm, s_fail, s_start1, s_start2, s_start3, s_start4, s_start5, List.replicate, List.set_cons_zero, List.set_cons_succ, asB_bl, asS_str, Nat.reduceSub, Nat.reduceAdd, addW.eq_1, addW.eq_2, addW.eq_3, addW.eq_4, addW.eq_5, subW.eq_1, subW.eq_2, mulW.eq_1, mulW.eq_2, mulW.eq_3, intOp.eq_1, negW.eq_1, ordW.eq_1, ordW.eq_2, isW.eq_1, isntW.eq_1, ixW.eq_1, ixW.eq_2, ixW.eq_3, slW.eq_1, slW.eq_2, slW.eq_3, revTW.eq_1, revLW.eq_1, lenW.eq_1, lenW.eq_2, lenW.eq_3, tupleW.eq_1, tupleW.eq_2, listW.eq_1, listW.eq_2, min2W.eq_1, max2W.eq_1, strW.eq_1, strW.eq_2, joinW.eq_1, joinW.eq_2, walkLW.eq_1, walkTW.eq_1, walkSW.eq_1, range1W.eq_1, zipW.eq_1, zipW.eq_2, tupG.eq_1, gsW.eq_1, gsW.eq_2, par2.eq_1, extW.eq_1, extW.eq_2, partW.eq_1, optW.eq_1, optW.eq_2, modW, fdivW, powW, ltW, leW, gtW, geW, isNone, isi_non, isi_bl, isi_int, isi_str, isi_tup, isi_lst, upperW, putW, appW, tupW, lstW, asB_bl, String.reduceBEq, beq_self_eq_true, Bool.or_true, Bool.true_or, Bool.or_false, Bool.false_or, Bool.and_true, Bool.true_and, Bool.and_false, Bool.false_and, Bool.not_true, Bool.not_false, forall_const, true_implies, true_and, and_true, false_implies, reduceCtorEq, List.length_cons, List.length_nil, forall_eq, imp_self, implies_true, if_true, if_false, Bool.false_eq_true, Bool.true_eq_false]
    refine ⟨⟨by decide, by decide⟩, ?_⟩
    refine at_wp (by omega) (by show c / 8 < 3; omega) fun n hn' => ?_
    have hn2 : ∃ i : Int, n = .int i ∧ 0 ≤ i ∧ i ≤ 2 ^ 60 := by
      simp only [List.mem_cons, List.not_mem_nil, or_false] at hn'
      rcases hn' with rfl | rfl | rfl
      · exact ⟨_, rfl, by omega, by omega⟩
      · exact ⟨_, rfl, by omega, by omega⟩
      · exact ⟨_, rfl, by decide, by decide⟩
    obtain ⟨n, rfl, n0, n1⟩ := hn2
    refine ⟨small (by decide), smallT (by omega), L ++ [.tup [.str f, .str y, .int n]], _, _, _, _, _, rfl, by rw [List.length_append, hl]; rfl, ?_, h1.mono (by omega)⟩
    exact (Szs.snoc hL (row_sz hf hy n0 n1)).mono (Nat.le_refl _) (Nat.le_refl _) (by omega)
  · rintro env s' ⟨L, y3, y4, y5, y6, y7, rfl, hl, hL, hs⟩
    rw [rangeLen] at hl hL hs
    simp only [LM.M.bind_wp, LM.M.ret_wp, LM.M.lift_wp, LM.M.want_wp, LM.M.any_wp, LM.s_ite, LM.s_then, LM.s_end, LM.s_run, LM.s_calm, LM.s_fail, LM.alloc_wp, LM.asBM, LM.putM, LM.par2M.eq_1, W.bind_wp, W.ret_wp, W.want_wp, W.any_wp, s_ite, s_get0, s_get, s_then, s_end, s_run, s_calm, s_fail, s_start1, s_start2, s_start3, s_start4, s_start5, List.replicate, List.set_cons_zero, List.set_cons_succ, asB_bl, asS_str, Nat.reduceSub, Nat.reduceAdd, addW.eq_1, addW.eq_2, addW.eq_3, addW.eq_4, addW.eq_5, subW.eq_1, subW.eq_2, mulW.eq_1, mulW.eq_2, mulW.eq_3, intOp.eq_1, negW.eq_1, ordW.eq_1, ordW.eq_2, isW.eq_1, isntW.eq_1, ixW.eq_1, ixW.eq_2, ixW.eq_3, slW.eq_1, slW.eq_2, slW.eq_3, revTW.eq_1, revLW.eq_1, lenW.eq_1, lenW.eq_2, lenW.eq_3, tupleW.eq_1, tupleW.eq_2, listW.eq_1, listW.eq_2, min2W.eq_1, max2W.eq_1, strW.eq_1, strW.eq_2, joinW.eq_1, joinW.eq_2, walkLW.eq_1, walkTW.eq_1, walkSW.eq_1, range1W.eq_1, zipW.eq_1, zipW.eq_2, tupG.eq_1, gsW.eq_1, gsW.eq_2, par2.eq_1, extW.eq_1, extW.eq_2, partW.eq_1, optW.eq_1, optW.eq_2, modW, fdivW, powW, ltW, leW, gtW, geW, isNone, isi_non, isi_bl, isi_int, isi_str, isi_tup, isi_lst, upperW, putW, appW, tupW, lstW, asB_bl, String.reduceBEq, beq_self_eq_true, Bool.or_true, Bool.true_or, Bool.or_false, Bool.false_or, Bool.and_true, Bool.true_and, Bool.and_false, Bool.false_and, Bool.not_true, Bool.not_false, forall_const, true_implies, true_and, and_true, false_implies, reduceCtorEq, List.length_cons, List.length_nil, forall_eq, imp_self, implies_true, if_true, if_false, Bool.false_eq_true, Bool.true_eq_false]
    exact h _ s' ((Sz.tup hL).mono (Nat.le_refl _) (Nat.le_refl _) (by omega)) (hs.mono (by omega))
/-! ### wants, sheets -/
/-- a want: form, shades, how many -/
def Wnt (d : D) : Prop := ∃ (f : Str) (ss : List D) (n : Int), d = .tup [.str f, .tup ss, .int n] ∧ f.length ≤ 8 ∧ ss.length ≤ 3 ∧ ss.all txB = true ∧ 0 ≤ n ∧ n ≤ 2 ^ 60
theorem tx_szs : ∀ {l : List D}, l.all txB = true → Szs 64 0 (l.length * 84) l
  | l, h => Szs.each fun d hd => by
    obtain ⟨y, rfl, hy⟩ := txB_at (List.all_eq_true.mp h d hd)
    exact sz_tx hy
theorem Wnt.sz {d : D} (h : Wnt d) : Sz 64 2 420 d := by
  obtain ⟨f, ss, n, rfl, hf, hl, hs, n0, n1⟩ := h
  have h1 : Sz 64 1 255 (.tup ss) := (Sz.tup (tx_szs hs)).mono (Nat.le_refl _) (Nat.le_refl _) (by omega)
  have : Szs 64 1 _ [D.str f, .tup ss, .int n] := Szs.cons ((sz_tx hf).mono (Nat.le_refl _) (by decide) (Nat.le_refl _)) (Szs.cons h1 (Szs.cons ((sz_int n0 n1).mono (Nat.le_refl _) (by decide) (Nat.le_refl _)) (Szs.nil (n := 0))))
  exact (Sz.tup this).mono (Nat.le_refl _) (Nat.le_refl _) (by omega)
theorem swant {k : Nat} {r : List D} {s : LM.Sto} {Q : D → LM.Sto → Prop} {E : Ex → LM.Sto → Prop} (hf : Hnd k r s) (hn : k + 3 ≤ 1000000)
    (h : ∀ d s', Wnt d → Hnd (k + 3) r s' → Q d s') : (fSWant [.tok 1]).wp Q E s := by
  simp only [fSWant, bSWant, LM.M.bind_wp, LM.M.ret_wp, LM.M.lift_wp, LM.M.want_wp, LM.M.any_wp, LM.s_ite, LM.s_then, LM.s_end, LM.s_run, LM.s_calm, LM.s_fail, LM.alloc_wp, LM.asBM, LM.putM, LM.par2M.eq_1, W.bind_wp, W.ret_wp, W.want_wp, W.any_wp, s_ite, s_get0, s_get, s_then, s_end, s_run, s_calm, s_fail, s_start1, s_start2, s_start3, s_start4, s_start5, List.replicate, List.set_cons_zero, List.set_cons_succ, asB_bl, asS_str, Nat.reduceSub, Nat.reduceAdd, addW.eq_1, addW.eq_2, addW.eq_3, addW.eq_4, addW.eq_5, subW.eq_1, subW.eq_2, mulW.eq_1, mulW.eq_2, mulW.eq_3, intOp.eq_1, negW.eq_1, ordW.eq_1, ordW.eq_2, isW.eq_1, isntW.eq_1, ixW.eq_1, ixW.eq_2, ixW.eq_3, slW.eq_1, slW.eq_2, slW.eq_3, revTW.eq_1, revLW.eq_1, lenW.eq_1, lenW.eq_2, lenW.eq_3, tupleW.eq_1, tupleW.eq_2, listW.eq_1, listW.eq_2, min2W.eq_1, max2W.eq_1, strW.eq_1, strW.eq_2, joinW.eq_1, joinW.eq_2, walkLW.eq_1, walkTW.eq_1, walkSW.eq_1, range1W.eq_1, zipW.eq_1, zipW.eq_2, tupG.eq_1, gsW.eq_1, gsW.eq_2, par2.eq_1, extW.eq_1, extW.eq_2, partW.eq_1, optW.eq_1, optW.eq_2, modW, fdivW, powW, ltW, leW, gtW, geW, isNone, isi_non, isi_bl, isi_int, isi_str, isi_tup, isi_lst, upperW, putW, appW, tupW, lstW, asB_bl, String.reduceBEq, beq_self_eq_true, Bool.or_true, Bool.true_or, Bool.or_false, Bool.false_or, Bool.and_true, Bool.true_and, Bool.and_false, Bool.false_and, Bool.not_true, Bool.not_false, forall_const, true_implies, true_and, and_true, false_implies, reduceCtorEq, List.length_cons, List.length_nil, forall_eq, imp_self, implies_true, if_true, if_false, Bool.false_eq_true, Bool.true_eq_false]
  refine ⟨by decide, by decide, by decide, by decide, by decide, by decide, ?_⟩
  refine dip (by decide) (by decide) hf (by omega) fun x s1 x0 x1 h1 => ?_
  refine at_wp x0 x1 fun d hd => ?_
  have hd2 : ∃ ss : List D, d = .lst ss ∧ ss.length ≤ 3 ∧ ss.all txB = true := by
    simp only [List.mem_cons, List.not_mem_nil, or_false] at hd
    rcases hd with rfl | rfl | rfl | rfl | rfl <;> exact ⟨_, rfl, by decide, by decide +kernel⟩
  obtain ⟨ss, rfl, hl, hs⟩ := hd2
  simp only [LM.M.bind_wp, LM.M.ret_wp, LM.M.lift_wp, LM.M.want_wp, LM.M.any_wp, LM.s_ite, LM.s_then, LM.s_end, LM.s_run, LM.s_calm, LM.s_fail, LM.alloc_wp, LM.asBM, LM.putM, LM.par2M.eq_1, W.bind_wp, W.ret_wp, W.want_wp, W.any_wp, s_ite, s_get0, s_get, s_then, s_end, s_run, s_calm, s_fail, s_start1, s_start2, s_start3, s_start4, s_start5, List.replicate, List.set_cons_zero, List.set_cons_succ, asB_bl, asS_str, Nat.reduceSub, Nat.reduceAdd, addW.eq_1, addW.eq_2, addW.eq_3, addW.eq_4, addW.eq_5, subW.eq_1, subW.eq_2, mulW.eq_1, mulW.eq_2, mulW.eq_3, intOp.eq_1, negW.eq_1, ordW.eq_1, ordW.eq_2, isW.eq_1, isntW.eq_1, ixW.eq_1, ixW.eq_2, ixW.eq_3, slW.eq_1, slW.eq_2, slW.eq_3, revTW.eq_1, revLW.eq_1, lenW.eq_1, lenW.eq_2, lenW.eq_3, tupleW.eq_1, tupleW.eq_2, listW.eq_1, listW.eq_2, min2W.eq_1, max2W.eq_1, strW.eq_1, strW.eq_2, joinW.eq_1, joinW.eq_2, walkLW.eq_1, walkTW.eq_1, walkSW.eq_1, range1W.eq_1, zipW.eq_1, zipW.eq_2, tupG.eq_1, gsW.eq_1, gsW.eq_2, par2.eq_1, extW.eq_1, extW.eq_2, partW.eq_1, optW.eq_1, optW.eq_2, modW, fdivW, powW, ltW, leW, gtW, geW, isNone, isi_non, isi_bl, isi_int, isi_str, isi_tup, isi_lst, upperW, putW, appW, tupW, lstW, asB_bl, String.reduceBEq, beq_self_eq_true, Bool.or_true, Bool.true_or, Bool.or_false, Bool.false_or, Bool.and_true, Bool.true_and, Bool.and_false, Bool.false_and, Bool.not_true, Bool.not_false, forall_const, true_implies, true_and, and_true, false_implies, reduceCtorEq, List.length_cons, List.length_nil, forall_eq, imp_self, implies_true, if_true, if_false, Bool.false_eq_true, Bool.true_eq_false]
  refine ⟨by decide, ?_⟩
  refine dip (by decide) (by decide) h1 (by omega) fun x s1 x0 x1 h1 => ?_
  refine at_tx (by decide +kernel) x0 x1 fun f hf => ?_
  refine dip (by decide) (by decide) h1 (by omega) fun n s1 n0 n1 h1 => ?_
  simp only [LM.M.bind_wp, LM.M.ret_wp, LM.M.lift_wp, LM.M.want_wp, LM.M.any_wp, LM.s_ite, LM.s_then, LM.s_end, LM.s_run, LM.s_calm, LM.s_fail, LM.alloc_wp, LM.asBM, LM.putM, LM.par2M.eq_1, W.bind_wp, W.ret_wp, W.want_wp, W.any_wp, s_ite, s_get0, s_get, s_then, s_end, s_run, s_calm, s_fail, s_start1, s_start2, s_start3, s_start4, s_start5, List.replicate, List.set_cons_zero, List.set_cons_succ, asB_bl, asS_str, Nat.reduceSub, Nat.reduceAdd, addW.eq_1, addW.eq_2, addW.eq_3, addW.eq_4, addW.eq_5, subW.eq_1, subW.eq_2, mulW.eq_1, mulW.eq_2, mulW.eq_3, intOp.eq_1, negW.eq_1, ordW.eq_1, ordW.eq_2, isW.eq_1, isntW.eq_1, ixW.eq_1, ixW.eq_2, ixW.eq_3, slW.eq_1, slW.eq_2, slW.eq_3, revTW.eq_1, revLW.eq_1, lenW.eq_1, lenW.eq_2, lenW.eq_3, tupleW.eq_1, tupleW.eq_2, listW.eq_1, listW.eq_2, min2W.eq_1, max2W.eq_1, strW.eq_1, strW.eq_2, joinW.eq_1, joinW.eq_2, walkLW.eq_1, walkTW.eq_1, walkSW.eq_1, range1W.eq_1, zipW.eq_1, zipW.eq_2, tupG.eq_1, gsW.eq_1, gsW.eq_2, par2.eq_1, extW.eq_1, extW.eq_2, partW.eq_1, optW.eq_1, optW.eq_2, modW, fdivW, powW, ltW, leW, gtW, geW, isNone, isi_non, isi_bl, isi_int, isi_str, isi_tup, isi_lst, upperW, putW, appW, tupW, lstW, asB_bl, String.reduceBEq, beq_self_eq_true, Bool.or_true, Bool.true_or, Bool.or_false, Bool.false_or, Bool.and_true, Bool.true_and, Bool.and_false, Bool.false_and, Bool.not_true, Bool.not_false, forall_const, true_implies, true_and, and_true, false_implies, reduceCtorEq, List.length_cons, List.length_nil, forall_eq, imp_self, implies_true, if_true, if_false, Bool.false_eq_true, Bool.true_eq_false]
  refine ⟨by decide, h _ s1 ⟨f, ss, 1 + n, rfl, hf, hl, hs, by omega, by omega⟩ h1⟩
/-- a way, a row of ways, a sheet -/
def Way (d : D) : Prop := ∃ ws : List D, d = .tup ws ∧ ws.length ≤ 2 ∧ ∀ w ∈ ws, Wnt w
def RowW (d : D) : Prop := ∃ ws : List D, d = .tup ws ∧ ws.length ≤ 3 ∧ ws ≠ [] ∧ ∀ w ∈ ws, Way w
def Sht (d : D) : Prop := ∃ rs : List D, d = .tup rs ∧ rs.length ≤ 3 ∧ ∀ w ∈ rs, RowW w
theorem Way.sz {d : D} (h : Way d) : Sz 64 3 850 d := by
  obtain ⟨ws, rfl, hl, hw⟩ := h
  exact (Sz.tup (Szs.each fun w hm => (hw w hm).sz)).mono (Nat.le_refl _) (Nat.le_refl _) (by omega)
theorem RowW.sz {d : D} (h : RowW d) : Sz 64 4 2600 d := by
  obtain ⟨ws, rfl, hl, _, hw⟩ := h
  exact (Sz.tup (Szs.each fun w hm => (hw w hm).sz)).mono (Nat.le_refl _) (Nat.le_refl _) (by omega)
theorem Sht.sz {d : D} (h : Sht d) : Sz 64 5 7900 d := by
  obtain ⟨ws, rfl, hl, hw⟩ := h
  exact (Sz.tup (Szs.each fun w hm => (hw w hm).sz)).mono (Nat.le_refl _) (Nat.le_refl _) (by omega)
/-- small numbers of a list -/
def nuB (a m : Nat) : D → Bool
  | .int i => decide ((a : Int) ≤ i ∧ i ≤ (m : Int))
  | _ => false
theorem at_nu {a m : Nat} {l : List D} {x : Int} {Q : D → Prop} {E : Ex → Prop} (hl : l.all (nuB a m) = true) (x0 : 0 ≤ x) (x1 : x < l.length) (h : ∀ j : Nat, a ≤ j → j ≤ m → Q (.int (j : Int))) : (optW (atI l x)).wp Q E :=
  at_wp x0 x1 fun d hd => by
    have e := List.all_eq_true.mp hl d hd
    cases d <;> try cases e
    rename_i i
    obtain ⟨e0, e1⟩ := of_decide_eq_true e
    obtain ⟨j, rfl⟩ := Int.eq_ofNat_of_zero_le (show 0 ≤ i by omega)
    exact h j (by omega) (by omega)
theorem ssheet {k : Nat} {r : List D} {s : LM.Sto} {Q : D → LM.Sto → Prop} {E : Ex → LM.Sto → Prop} (hf : Hnd k r s) (hn : k + 100 ≤ 1000000)
    (h : ∀ d s', Sht d → Hnd (k + 100) r s' → Q d s') : (fSSheet [.tok 1]).wp Q E s := by
  simp only [fSSheet, bSSheet, LM.M.bind_wp, LM.M.ret_wp, LM.M.lift_wp, LM.M.want_wp, LM.M.any_wp, LM.s_ite, LM.s_then, LM.s_end, LM.s_run, LM.s_calm, LM.s_fail, LM.alloc_wp, LM.asBM, LM.putM, LM.par2M.eq_1, W.bind_wp, W.ret_wp, W.want_wp, W.any_wp, s_ite, s_get0, s_get, s_then, s_end, s_run, s_calm, s_fail, s_start1, s_start2, s_start3, s_start4, s_start5, List.replicate, List.set_cons_zero, List.set_cons_succ, asB_bl, asS_str, Nat.reduceSub, Nat.reduceAdd, addW.eq_1, addW.eq_2, addW.eq_3, addW.eq_4, addW.eq_5, subW.eq_1, subW.eq_2, mulW.eq_1, mulW.eq_2, mulW.eq_3, intOp.eq_1, negW.eq_1, ordW.eq_1, ordW.eq_2, isW.eq_1, isntW.eq_1, ixW.eq_1, ixW.eq_2, ixW.eq_3, slW.eq_1, slW.eq_2, slW.eq_3, revTW.eq_1, revLW.eq_1, lenW.eq_1, lenW.eq_2, lenW.eq_3, tupleW.eq_1, tupleW.eq_2, listW.eq_1, listW.eq_2, min2W.eq_1, max2W.eq_1, strW.eq_1, strW.eq_2, joinW.eq_1, joinW.eq_2, walkLW.eq_1, walkTW.eq_1, walkSW.eq_1, range1W.eq_1, zipW.eq_1, zipW.eq_2, tupG.eq_1, gsW.eq_1, gsW.eq_2, par2.eq_1, extW.eq_1, extW.eq_2, partW.eq_1, optW.eq_1, optW.eq_2, modW, fdivW, powW, ltW, leW, gtW, geW, isNone, isi_non, isi_bl, isi_int, isi_str, isi_tup, isi_lst, upperW, putW, appW, tupW, lstW, asB_bl, String.reduceBEq, beq_self_eq_true, Bool.or_true, Bool.true_or, Bool.or_false, Bool.false_or, Bool.and_true, Bool.true_and, Bool.and_false, Bool.false_and, Bool.not_true, Bool.not_false, forall_const, true_implies, true_and, and_true, false_implies, reduceCtorEq, List.length_cons, List.length_nil, forall_eq, imp_self, implies_true, if_true, if_false, Bool.false_eq_true, Bool.true_eq_false]
  refine ⟨by decide, by decide, ?_⟩
  simp only [bSSheet_5, LM.M.bind_wp, LM.M.ret_wp, LM.M.lift_wp, LM.M.want_wp, LM.M.any_wp, LM.s_ite, LM.s_then, LM.s_end, LM.s_run, LM.s_calm, LM.s_fail, LM.alloc_wp, LM.asBM, LM.putM, LM.par2M.eq_1, W.bind_wp, W.ret_wp, W.want_wp, W.any_wp, s_ite, s_get0, s_get, s_then, s_end, s_run, s_calm, s_fail, s_start1, s_start2, s_start3, s_start4, s_start5, List.replicate, List.set_cons_zero, List.set_cons_succ, asB_bl, asS_str, Nat.reduceSub, Nat.reduceAdd, addW.eq_1, addW.eq_2, addW.eq_3, addW.eq_4, addW.eq_5, subW.eq_1, subW.eq_2, mulW.eq_1, mulW.eq_2, mulW.eq_3, intOp.eq_1, negW.eq_1, ordW.eq_1, ordW.eq_2, isW.eq_1, isntW.eq_1, ixW.eq_1, ixW.eq_2, ixW.eq_3, slW.eq_1, slW.eq_2, slW.eq_3, revTW.eq_1, revLW.eq_1, lenW.eq_1, lenW.eq_2, lenW.eq_3, tupleW.eq_1, tupleW.eq_2, listW.eq_1, listW.eq_2, min2W.eq_1, max2W.eq_1, strW.eq_1, strW.eq_2, joinW.eq_1, joinW.eq_2, walkLW.eq_1, walkTW.eq_1, walkSW.eq_1, range1W.eq_1, zipW.eq_1, zipW.eq_2, tupG.eq_1, gsW.eq_1, gsW.eq_2, par2.eq_1, extW.eq_1, extW.eq_2, partW.eq_1, optW.eq_1, optW.eq_2, modW, fdivW, powW, ltW, leW, gtW, geW, isNone, isi_non, isi_bl, isi_int, isi_str, isi_tup, isi_lst, upperW, putW, appW, tupW, lstW, asB_bl, String.reduceBEq, beq_self_eq_true, Bool.or_true, Bool.true_or, Bool.or_false, Bool.false_or, Bool.and_true, Bool.true_and, Bool.and_false, Bool.false_and, Bool.not_true, Bool.not_false, forall_const, true_implies, true_and, and_true, false_implies, reduceCtorEq, List.length_cons, List.length_nil, forall_eq, imp_self, implies_true, if_true, if_false, Bool.false_eq_true, Bool.true_eq_false]
  refine ⟨by decide, ?_⟩
  refine dip (by decide) (by decide) hf (by omega) fun x s1 x0 x1 h1 => ?_
  simp only [LM.M.bind_wp, LM.M.ret_wp, LM.M.lift_wp, LM.M.want_wp, LM.M.any_wp, LM.s_ite, LM.s_then, LM.s_end, LM.s_run, LM.s_calm, LM.s_fail, LM.alloc_wp, LM.asBM, LM.putM, LM.par2M.eq_1, W.bind_wp, W.ret_wp, W.want_wp, W.any_wp, s_ite, s_get0, s_get, s_then, s_end, s_run, s_calm, s_fail, s_start1, s_start2, s_start3, s_start4, s_start5, List.replicate, List.set_cons_zero, List.set_cons_succ, asB_bl, asS_str, Nat.reduceSub, Nat.reduceAdd, addW.eq_1, addW.eq_2, addW.eq_3, addW.eq_4, addW.eq_5, subW.eq_1, subW.eq_2, mulW.eq_1, mulW.eq_2, mulW.eq_3, intOp.eq_1, negW.eq_1, ordW.eq_1, ordW.eq_2, isW.eq_1, isntW.eq_1, ixW.eq_1, ixW.eq_2, ixW.eq_3, slW.eq_1, slW.eq_2, slW.eq_3, revTW.eq_1, revLW.eq_1, lenW.eq_1, lenW.eq_2, lenW.eq_3, tupleW.eq_1, tupleW.eq_2, listW.eq_1, listW.eq_2, min2W.eq_1, max2W.eq_1, strW.eq_1, strW.eq_2, joinW.eq_1, joinW.eq_2, walkLW.eq_1, walkTW.eq_1, walkSW.eq_1, range1W.eq_1, zipW.eq_1, zipW.eq_2, tupG.eq_1, gsW.eq_1, gsW.eq_2, par2.eq_1, extW.eq_1, extW.eq_2, partW.eq_1, optW.eq_1, optW.eq_2, modW, fdivW, powW, ltW, leW, gtW, geW, isNone, isi_non, isi_bl, isi_int, isi_str, isi_tup, isi_lst, upperW, putW, appW, tupW, lstW, asB_bl, String.reduceBEq, beq_self_eq_true, Bool.or_true, Bool.true_or, Bool.or_false, Bool.false_or, Bool.and_true, Bool.true_and, Bool.and_false, Bool.false_and, Bool.not_true, Bool.not_false, forall_const, true_implies, true_and, and_true, false_implies, reduceCtorEq, List.length_cons, List.length_nil, forall_eq, imp_self, implies_true, if_true, if_false, Bool.false_eq_true, Bool.true_eq_false]
  refine ⟨⟨by decide, by decide⟩, ?_⟩
  refine at_nu (a := 0) (m := 3) (by decide +kernel) (by omega) (by show x / 3 < 4; omega) fun c c0 c3 => ?_
  simp only [LM.M.bind_wp, LM.M.ret_wp, LM.M.lift_wp, LM.M.want_wp, LM.M.any_wp, LM.s_ite, LM.s_then, LM.s_end, LM.s_run, LM.s_calm, LM.s_fail, LM.alloc_wp, LM.asBM, LM.putM, LM.par2M.eq_1, W.bind_wp, W.ret_wp, W.want_wp, W.any_wp, s_ite, s_get0, s_get, s_then, s_end, s_run, s_calm, s_fail, s_start1, s_start2, s_start3, s_start4, s_start5, List.replicate, List.set_cons_zero, List.set_cons_succ, asB_bl, asS_str, Nat.reduceSub, Nat.reduceAdd, addW.eq_1, addW.eq_2, addW.eq_3, addW.eq_4, addW.eq_5, subW.eq_1, subW.eq_2, mulW.eq_1, mulW.eq_2, mulW.eq_3, intOp.eq_1, negW.eq_1, ordW.eq_1, ordW.eq_2, isW.eq_1, isntW.eq_1, ixW.eq_1, ixW.eq_2, ixW.eq_3, slW.eq_1, slW.eq_2, slW.eq_3, revTW.eq_1, revLW.eq_1, lenW.eq_1, lenW.eq_2, lenW.eq_3, tupleW.eq_1, tupleW.eq_2, listW.eq_1, listW.eq_2, min2W.eq_1, max2W.eq_1, strW.eq_1, strW.eq_2, joinW.eq_1, joinW.eq_2, walkLW.eq_1, walkTW.eq_1, walkSW.eq_1, range1W.eq_1, zipW.eq_1, zipW.eq_2, tupG.eq_1, gsW.eq_1, gsW.eq_2, par2.eq_1, extW.eq_1, extW.eq_2, partW.eq_1, optW.eq_1, optW.eq_2, modW, fdivW, powW, ltW, leW, gtW, geW, isNone, isi_non, isi_bl, isi_int, isi_str, isi_tup, isi_lst, upperW, putW, appW, tupW, lstW, asB_bl, String.reduceBEq, beq_self_eq_true, Bool.or_true, Bool.true_or, Bool.or_false, Bool.false_or, Bool.and_true, Bool.true_and, Bool.and_false, Bool.false_and, Bool.not_true, Bool.not_false, forall_const, true_implies, true_and, and_true, false_implies, reduceCtorEq, List.length_cons, List.length_nil, forall_eq, imp_self, implies_true, if_true, if_false, Bool.false_eq_true, Bool.true_eq_false]
  refine ⟨⟨by omega, by omega⟩, LM.for_wp (fun t env s => ∃ (L : List D) (y2 y3 y4 y5 : Option D), env = [some (.tok 1), some (.lst L), y2, y3, y4, y5] ∧ L.length = t ∧ (∀ w ∈ L, RowW w) ∧ Hnd (k + 1 + 25 * t) r s) ⟨[], _, _, _, _, rfl, rfl, fun _ h => (nomatch h), h1⟩ ?_ ?_⟩
  · rintro t d env s' hd ⟨L, y2, y3, y4, y5, rfl, hl, hL, hs⟩
    obtain ⟨ht, rfl⟩ := rangeAt hd
    have ht' : t < 3 := by omega
    simp only [bSSheet_4, LM.M.bind_wp, LM.M.ret_wp, LM.M.lift_wp, LM.M.want_wp, LM.M.any_wp, LM.s_ite, LM.s_then, LM.s_end, LM.s_run, LM.s_calm, LM.s_fail, LM.alloc_wp, LM.asBM, LM.putM, LM.par2M.eq_1, W.bind_wp, W.ret_wp, W.want_wp, W.any_wp, s_ite, s_get0, s_get, s_then, s_end, s_run, s_calm, s_fail, s_start1, s_start2, s_start3, s_start4, s_start5, List.replicate, List.set_cons_zero, List.set_cons_succ, asB_bl, asS_str, Nat.reduceSub, Nat.reduceAdd, addW.eq_1, addW.eq_2, addW.eq_3, addW.eq_4, addW.eq_5, subW.eq_1, subW.eq_2, mulW.eq_1, mulW.eq_2, mulW.eq_3, intOp.eq_1, negW.eq_1, ordW.eq_1, ordW.eq_2, isW.eq_1, isntW.eq_1, ixW.eq_1, ixW.eq_2, ixW.eq_3, slW.eq_1, slW.eq_2, slW.eq_3, revTW.eq_1, revLW.eq_1, lenW.eq_1, lenW.eq_2, lenW.eq_3, tupleW.eq_1, tupleW.eq_2, listW.eq_1, listW.eq_2, min2W.eq_1, max2W.eq_1, strW.eq_1, strW.eq_2, joinW.eq_1, joinW.eq_2, walkLW.eq_1, walkTW.eq_1, walkSW.eq_1, range1W.eq_1, zipW.eq_1, zipW.eq_2, tupG.eq_1, gsW.eq_1, gsW.eq_2, par2.eq_1, extW.eq_1, extW.eq_2, partW.eq_1, optW.eq_1, optW.eq_2, modW, fdivW, powW, ltW, leW, gtW, geW, isNone, isi_non, isi_bl, isi_int, isi_str, isi_tup, isi_lst, upperW, putW, appW, tupW, lstW, asB_bl, String.reduceBEq, beq_self_eq_true, Bool.or_true, Bool.true_or, Bool.or_false, Bool.false_or, Bool.and_true, Bool.true_and, Bool.and_false, Bool.false_and, Bool.not_true, Bool.not_false, forall_const, true_implies, true_and, and_true, false_implies, reduceCtorEq, List.length_cons, List.length_nil, forall_eq, imp_self, implies_true, if_true, if_false, Bool.false_eq_true, Bool.true_eq_false]
    refine ⟨small (by decide), by decide, ?_⟩
    simp only [bSSheet_3, LM.M.bind_wp, LM.M.ret_wp, LM.M.lift_wp, LM.M.want_wp, LM.M.any_wp, LM.s_ite, LM.s_then, LM.s_end, LM.s_run, LM.s_calm, LM.s_fail, LM.alloc_wp, LM.asBM, LM.putM, LM.par2M.eq_1, W.bind_wp, W.ret_wp, W.want_wp, W.any_wp, s_ite, s_get0, s_get, s_then, s_end, s_run, s_calm, s_fail, s_start1, s_start2, s_start3, s_start4, s_start5, List.replicate, List.set_cons_zero, List.set_cons_succ, asB_bl, asS_str, Nat.reduceSub, Nat.reduceAdd, addW.eq_1, addW.eq_2, addW.eq_3, addW.eq_4, addW.eq_5, subW.eq_1, subW.eq_2, mulW.eq_1, mulW.eq_2, mulW.eq_3, intOp.eq_1, negW.eq_1, ordW.eq_1, ordW.eq_2, isW.eq_1, isntW.eq_1, ixW.eq_1, ixW.eq_2, ixW.eq_3, slW.eq_1, slW.eq_2, slW.eq_3, revTW.eq_1, revLW.eq_1, lenW.eq_1, lenW.eq_2, lenW.eq_3, tupleW.eq_1, tupleW.eq_2, listW.eq_1, listW.eq_2, min2W.eq_1, max2W.eq_1, strW.eq_1, strW.eq_2, joinW.eq_1, joinW.eq_2, walkLW.eq_1, walkTW.eq_1, walkSW.eq_1, range1W.eq_1, zipW.eq_1, zipW.eq_2, tupG.eq_1, gsW.eq_1, gsW.eq_2, par2.eq_1, extW.eq_1, extW.eq_2, partW.eq_1, optW.eq_1, optW.eq_2, modW, fdivW, powW, ltW, leW, gtW, geW, isNone, isi_non, isi_bl, isi_int, isi_str, isi_tup, isi_lst, upperW, putW, appW, tupW, lstW, asB_bl, String.reduceBEq, beq_self_eq_true, Bool.or_true, Bool.true_or, Bool.or_false, Bool.false_or, Bool.and_true, Bool.true_and, Bool.and_false, Bool.false_and, Bool.not_true, Bool.not_false, forall_const, true_implies, true_and, and_true, false_implies, reduceCtorEq, List.length_cons, List.length_nil, forall_eq, imp_self, implies_true, if_true, if_false, Bool.false_eq_true, Bool.true_eq_false]
    refine ⟨by decide, ?_⟩
    refine dip (by decide) (by decide) hs (by omega) fun x s1 x0 x1 h1 => ?_
    refine at_nu (a := 1) (m := 3) (by decide +kernel) (by omega) x1 fun c c0 c3 => ?_
    simp only [LM.M.bind_wp, LM.M.ret_wp, LM.M.lift_wp, LM.M.want_wp, LM.M.any_wp, LM.s_ite, LM.s_then, LM.s_end, LM.s_run, LM.s_calm, LM.s_fail, LM.alloc_wp, LM.asBM, LM.putM, LM.par2M.eq_1, W.bind_wp, W.ret_wp, W.want_wp, W.any_wp, s_ite, s_get0, s_get, s_then, s_end, s_run, s_calm, s_fail, s_start1, s_start2, s_start3, s_start4, s_start5, List.replicate, List.set_cons_zero, List.set_cons_succ, asB_bl, asS_str, Nat.reduceSub, Nat.reduceAdd, addW.eq_1, addW.eq_2, addW.eq_3, addW.eq_4, addW.eq_5, subW.eq_1, subW.eq_2, mulW.eq_1, mulW.eq_2, mulW.eq_3, intOp.eq_1, negW.eq_1, ordW.eq_1, ordW.eq_2, isW.eq_1, isntW.eq_1, ixW.eq_1, ixW.eq_2, ixW.eq_3, slW.eq_1, slW.eq_2, slW.eq_3, revTW.eq_1, revLW.eq_1, lenW.eq_1, lenW.eq_2, lenW.eq_3, tupleW.eq_1, tupleW.eq_2, listW.eq_1, listW.eq_2, min2W.eq_1, max2W.eq_1, strW.eq_1, strW.eq_2, joinW.eq_1, joinW.eq_2, walkLW.eq_1, walkTW.eq_1, walkSW.eq_1, range1W.eq_1, zipW.eq_1, zipW.eq_2, tupG.eq_1, gsW.eq_1, gsW.eq_2, par2.eq_1, extW.eq_1, extW.eq_2, partW.eq_1, optW.eq_1, optW.eq_2, modW, fdivW, powW, ltW, leW, gtW, geW, isNone, isi_non, isi_bl, isi_int, isi_str, isi_tup, isi_lst, upperW, putW, appW, tupW, lstW, asB_bl, String.reduceBEq, beq_self_eq_true, Bool.or_true, Bool.true_or, Bool.or_false, Bool.false_or, Bool.and_true, Bool.true_and, Bool.and_false, Bool.false_and, Bool.not_true, Bool.not_false, forall_const, true_implies, true_and, and_true, false_implies, reduceCtorEq, List.length_cons, List.length_nil, forall_eq, imp_self, implies_true, if_true, if_false, Bool.false_eq_true, Bool.true_eq_false]
    refine ⟨⟨by omega, by omega⟩, LM.for_wp (fun u env s => ∃ (V : List D) (y4 y5 : Option D), env = [some (.tok 1), some (.lst L), some (.int (0 + (t : Int))), some (.lst V), y4, y5] ∧ V.length = u ∧ (∀ w ∈ V, Way w) ∧ Hnd (k + 1 + 25 * t + 1 + 7 * u) r s) ⟨[], _, _, rfl, rfl, fun _ h => (nomatch h), h1⟩ ?_ ?_⟩
    · rintro u d env s2 hd ⟨V, y4, y5, rfl, hw, hW, hs2⟩
      obtain ⟨hu, rfl⟩ := rangeAt hd
      have hu' : u < 3 := by omega
      simp only [bSSheet_1, LM.M.bind_wp, LM.M.ret_wp, LM.M.lift_wp, LM.M.want_wp, LM.M.any_wp, LM.s_ite, LM.s_then, LM.s_end, LM.s_run, LM.s_calm, LM.s_fail, LM.alloc_wp, LM.asBM, LM.putM, LM.par2M.eq_1, W.bind_wp, W.ret_wp, W.want_wp, W.any_wp, s_ite, s_get0, s_get, s_then, s_end, s_run, s_calm, s_fail, s_start1, s_start2, s_start3, s_start4, s_start5, List.replicate, List.set_cons_zero, List.set_cons_succ, asB_bl, asS_str, Nat.reduceSub, Nat.reduceAdd, addW.eq_1, addW.eq_2, addW.eq_3, addW.eq_4, addW.eq_5, subW.eq_1, subW.eq_2, mulW.eq_1, mulW.eq_2, mulW.eq_3, intOp.eq_1, negW.eq_1, ordW.eq_1, ordW.eq_2, isW.eq_1, isntW.eq_1, ixW.eq_1, ixW.eq_2, ixW.eq_3, slW.eq_1, slW.eq_2, slW.eq_3, revTW.eq_1, revLW.eq_1, lenW.eq_1, lenW.eq_2, lenW.eq_3, tupleW.eq_1, tupleW.eq_2, listW.eq_1, listW.eq_2, min2W.eq_1, max2W.eq_1, strW.eq_1, strW.eq_2, joinW.eq_1, joinW.eq_2, walkLW.eq_1, walkTW.eq_1, walkSW.eq_1, range1W.eq_1, zipW.eq_1, zipW.eq_2, tupG.eq_1, gsW.eq_1, gsW.eq_2, par2.eq_1, extW.eq_1, extW.eq_2, partW.eq_1, optW.eq_1, optW.eq_2, modW, fdivW, powW, ltW, leW, gtW, geW, isNone, isi_non, isi_bl, isi_int, isi_str, isi_tup, isi_lst, upperW, putW, appW, tupW, lstW, asB_bl, String.reduceBEq, beq_self_eq_true, Bool.or_true, Bool.true_or, Bool.or_false, Bool.false_or, Bool.and_true, Bool.true_and, Bool.and_false, Bool.false_and, Bool.not_true, Bool.not_false, forall_const, true_implies, true_and, and_true, false_implies, reduceCtorEq, List.length_cons, List.length_nil, forall_eq, imp_self, implies_true, if_true, if_false, Bool.false_eq_true, Bool.true_eq_false]
      refine LM.lc_wp ?_
      simp only [LM.M.bind_wp, LM.M.ret_wp, LM.M.lift_wp, LM.M.want_wp, LM.M.any_wp, LM.s_ite, LM.s_then, LM.s_end, LM.s_run, LM.s_calm, LM.s_fail, LM.alloc_wp, LM.asBM, LM.putM, LM.par2M.eq_1, W.bind_wp, W.ret_wp, W.want_wp, W.any_wp, s_ite, s_get0, s_get, s_then, s_end, s_run, s_calm, s_fail, s_start1, s_start2, s_start3, s_start4, s_start5, List.replicate, List.set_cons_zero, List.set_cons_succ, asB_bl, asS_str, Nat.reduceSub, Nat.reduceAdd, addW.eq_1, addW.eq_2, addW.eq_3, addW.eq_4, addW.eq_5, subW.eq_1, subW.eq_2, mulW.eq_1, mulW.eq_2, mulW.eq_3, intOp.eq_1, negW.eq_1, ordW.eq_1, ordW.eq_2, isW.eq_1, isntW.eq_1, ixW.eq_1, ixW.eq_2, ixW.eq_3, slW.eq_1, slW.eq_2, slW.eq_3, revTW.eq_1, revLW.eq_1, lenW.eq_1, lenW.eq_2, lenW.eq_3, tupleW.eq_1, tupleW.eq_2, listW.eq_1, listW.eq_2, min2W.eq_1, max2W.eq_1, strW.eq_1, strW.eq_2, joinW.eq_1, joinW.eq_2, walkLW.eq_1, walkTW.eq_1, walkSW.eq_1, range1W.eq_1, zipW.eq_1, zipW.eq_2, tupG.eq_1, gsW.eq_1, gsW.eq_2, par2.eq_1, extW.eq_1, extW.eq_2, partW.eq_1, optW.eq_1, optW.eq_2, modW, fdivW, powW, ltW, leW, gtW, geW, isNone, isi_non, isi_bl, isi_int, isi_str, isi_tup, isi_lst, upperW, putW, appW, tupW, lstW, asB_bl, String.reduceBEq, beq_self_eq_true, Bool.or_true, Bool.true_or, Bool.or_false, Bool.false_or, Bool.and_true, Bool.true_and, Bool.and_false, Bool.false_and, Bool.not_true, Bool.not_false, forall_const, true_implies, true_and, and_true, false_implies, reduceCtorEq, List.length_cons, List.length_nil, forall_eq, imp_self, implies_true, if_true, if_false, Bool.false_eq_true, Bool.true_eq_false]
      refine ⟨by decide, ?_⟩
      refine dip (by decide) (by decide) hs2 (by omega) fun x s1 x0 x1 h2 => ?_
      refine at_nu (a := 0) (m := 2) (by decide +kernel) (by omega) x1 fun c c0 c3 => ?_
      simp only [LM.M.bind_wp, LM.M.ret_wp, LM.M.lift_wp, LM.M.want_wp, LM.M.any_wp, LM.s_ite, LM.s_then, LM.s_end, LM.s_run, LM.s_calm, LM.s_fail, LM.alloc_wp, LM.asBM, LM.putM, LM.par2M.eq_1, W.bind_wp, W.ret_wp, W.want_wp, W.any_wp, s_ite, s_get0, s_get, s_then, s_end, s_run, s_calm, s_fail, s_start1, s_start2, s_start3, s_start4, s_start5, List.replicate, List.set_cons_zero, List.set_cons_succ, asB_bl, asS_str, Nat.reduceSub, Nat.reduceAdd, addW.eq_1, addW.eq_2, addW.eq_3, addW.eq_4, addW.eq_5, subW.eq_1, subW.eq_2, mulW.eq_1, mulW.eq_2, mulW.eq_3, intOp.eq_1, negW.eq_1, ordW.eq_1, ordW.eq_2, isW.eq_1, isntW.eq_1, ixW.eq_1, ixW.eq_2, ixW.eq_3, slW.eq_1, slW.eq_2, slW.eq_3, revTW.eq_1, revLW.eq_1, lenW.eq_1, lenW.eq_2, lenW.eq_3, tupleW.eq_1, tupleW.eq_2, listW.eq_1, listW.eq_2, min2W.eq_1, max2W.eq_1, strW.eq_1, strW.eq_2, joinW.eq_1, joinW.eq_2, walkLW.eq_1, walkTW.eq_1, walkSW.eq_1, range1W.eq_1, zipW.eq_1, zipW.eq_2, tupG.eq_1, gsW.eq_1, gsW.eq_2, par2.eq_1, extW.eq_1, extW.eq_2, partW.eq_1, optW.eq_1, optW.eq_2, modW, fdivW, powW, ltW, leW, gtW, geW, isNone, isi_non, isi_bl, isi_int, isi_str, isi_tup, isi_lst, upperW, putW, appW, tupW, lstW, asB_bl, String.reduceBEq, beq_self_eq_true, Bool.or_true, Bool.true_or, Bool.or_false, Bool.false_or, Bool.and_true, Bool.true_and, Bool.and_false, Bool.false_and, Bool.not_true, Bool.not_false, forall_const, true_implies, true_and, and_true, false_implies, reduceCtorEq, List.length_cons, List.length_nil, forall_eq, imp_self, implies_true, if_true, if_false, Bool.false_eq_true, Bool.true_eq_false]
      refine ⟨⟨by omega, by omega⟩, fun v acc s => acc.length = v ∧ (∀ w ∈ acc, Wnt w) ∧ Hnd (k + 1 + 25 * t + 1 + 7 * u + 1 + 3 * v) r s, ⟨rfl, fun _ h => (nomatch h), h2⟩, ?_, ?_⟩
      · rintro v d acc s3 hd ⟨ha, hacc, hs3⟩
        obtain ⟨hv, rfl⟩ := rangeAt hd
        have hv' : v < 2 := by omega
        refine swant hs3 (by omega) fun d s4 hd4 h4 => ⟨smallT (by omega), by rw [List.length_append, ha]; rfl, fun w hw => ?_, h4.mono (by omega)⟩
        rcases List.mem_append.mp hw with h | h
        · exact hacc w h
        · rw [List.mem_singleton.mp h]
          exact hd4
      · rintro acc s3 ⟨ha, hacc, hs3⟩
        rw [rangeLen] at ha hs3
        refine ⟨smallT (by omega), V ++ [.tup acc], _, _, rfl, by rw [List.length_append, hw]; rfl, fun w hw => ?_, hs3.mono (by omega)⟩
        rcases List.mem_append.mp hw with h | h
        · exact hW w h
        · rw [List.mem_singleton.mp h]
          exact ⟨acc, rfl, by omega, hacc⟩
    · rintro env s2 ⟨V, y4, y5, rfl, hw, hW, hs2⟩
      rw [rangeLen] at hw hs2
      simp only [bSSheet_2, LM.M.bind_wp, LM.M.ret_wp, LM.M.lift_wp, LM.M.want_wp, LM.M.any_wp, LM.s_ite, LM.s_then, LM.s_end, LM.s_run, LM.s_calm, LM.s_fail, LM.alloc_wp, LM.asBM, LM.putM, LM.par2M.eq_1, W.bind_wp, W.ret_wp, W.want_wp, W.any_wp, s_ite, s_get0, s_get, s_then, s_end, s_run, s_calm, s_fail, s_start1, s_start2, s_start3, s_start4, s_start5, List.replicate, List.set_cons_zero, List.set_cons_succ, asB_bl, asS_str, Nat.reduceSub, Nat.reduceAdd, addW.eq_1, addW.eq_2, addW.eq_3, addW.eq_4, addW.eq_5, subW.eq_1, subW.eq_2, mulW.eq_1, mulW.eq_2, mulW.eq_3, intOp.eq_1, negW.eq_1, ordW.eq_1, ordW.eq_2, isW.eq_1, isntW.eq_1, ixW.eq_1, ixW.eq_2, ixW.eq_3, slW.eq_1, slW.eq_2, slW.eq_3, revTW.eq_1, revLW.eq_1, lenW.eq_1, lenW.eq_2, lenW.eq_3, tupleW.eq_1, tupleW.eq_2, listW.eq_1, listW.eq_2, min2W.eq_1, max2W.eq_1, strW.eq_1, strW.eq_2, joinW.eq_1, joinW.eq_2, walkLW.eq_1, walkTW.eq_1, walkSW.eq_1, range1W.eq_1, zipW.eq_1, zipW.eq_2, tupG.eq_1, gsW.eq_1, gsW.eq_2, par2.eq_1, extW.eq_1, extW.eq_2, partW.eq_1, optW.eq_1, optW.eq_2, modW, fdivW, powW, ltW, leW, gtW, geW, isNone, isi_non, isi_bl, isi_int, isi_str, isi_tup, isi_lst, upperW, putW, appW, tupW, lstW, asB_bl, String.reduceBEq, beq_self_eq_true, Bool.or_true, Bool.true_or, Bool.or_false, Bool.false_or, Bool.and_true, Bool.true_and, Bool.and_false, Bool.false_and, Bool.not_true, Bool.not_false, forall_const, true_implies, true_and, and_true, false_implies, reduceCtorEq, List.length_cons, List.length_nil, forall_eq, imp_self, implies_true, if_true, if_false, Bool.false_eq_true, Bool.true_eq_false]
      refine ⟨smallT (by omega), L ++ [.tup V], _, _, _, _, rfl, by rw [List.length_append, hl]; rfl, fun w hw2 => ?_, hs2.mono (by omega)⟩
      rcases List.mem_append.mp hw2 with h | h
      · exact hL w h
      · rw [List.mem_singleton.mp h]
        exact ⟨V, rfl, by omega, fun z => by rw [z] at hw; simp at hw; omega, hW⟩
  · rintro env s' ⟨L, y2, y3, y4, y5, rfl, hl, hL, hs⟩
    rw [rangeLen] at hl hs
    simp only [LM.M.bind_wp, LM.M.ret_wp, LM.M.lift_wp, LM.M.want_wp, LM.M.any_wp, LM.s_ite, LM.s_then, LM.s_end, LM.s_run, LM.s_calm, LM.s_fail, LM.alloc_wp, LM.asBM, LM.putM, LM.par2M.eq_1, W.bind_wp, W.ret_wp, W.want_wp, W.any_wp, s_ite, s_get0, s_get, s_then, s_end, s_run, s_calm, s_fail, s_start1, s_start2, s_start3, s_start4, s_start5, List.replicate, List.set_cons_zero, List.set_cons_succ, asB_bl, asS_str, Nat.reduceSub, Nat.reduceAdd, addW.eq_1, addW.eq_2, addW.eq_3, addW.eq_4, addW.eq_5, subW.eq_1, subW.eq_2, mulW.eq_1, mulW.eq_2, mulW.eq_3, intOp.eq_1, negW.eq_1, ordW.eq_1, ordW.eq_2, isW.eq_1, isntW.eq_1, ixW.eq_1, ixW.eq_2, ixW.eq_3, slW.eq_1, slW.eq_2, slW.eq_3, revTW.eq_1, revLW.eq_1, lenW.eq_1, lenW.eq_2, lenW.eq_3, tupleW.eq_1, tupleW.eq_2, listW.eq_1, listW.eq_2, min2W.eq_1, max2W.eq_1, strW.eq_1, strW.eq_2, joinW.eq_1, joinW.eq_2, walkLW.eq_1, walkTW.eq_1, walkSW.eq_1, range1W.eq_1, zipW.eq_1, zipW.eq_2, tupG.eq_1, gsW.eq_1, gsW.eq_2, par2.eq_1, extW.eq_1, extW.eq_2, partW.eq_1, optW.eq_1, optW.eq_2, modW, fdivW, powW, ltW, leW, gtW, geW, isNone, isi_non, isi_bl, isi_int, isi_str, isi_tup, isi_lst, upperW, putW, appW, tupW, lstW, asB_bl, String.reduceBEq, beq_self_eq_true, Bool.or_true, Bool.true_or, Bool.or_false, Bool.false_or, Bool.and_true, Bool.true_and, Bool.and_false, Bool.false_and, Bool.not_true, Bool.not_false, forall_const, true_implies, true_and, and_true, false_implies, reduceCtorEq, List.length_cons, List.length_nil, forall_eq, imp_self, implies_true, if_true, if_false, Bool.false_eq_true, Bool.true_eq_false]
    exact h _ s' ⟨L, rfl, by omega, hL⟩ (hs.mono (by omega))
end LP.HD
namespace LP.HD
open PySem PySem.Spec PyProof.Rows L2 PK LP
/-! ### a laying -/
abbrev Fin (Q : D → LM.Sto → Prop) (E : Ex → LM.Sto → Prop) : Fl → LM.Sto → Prop := fun f s' => (match f with | .rt d => LM.M.ret d | .nx _ => LM.M.ret .non | _ => LM.M.fail : LM.M D).wp Q E s'
theorem eqE {m dp n : Nat} {rs : List D} (h : Sz m dp n (.tup rs)) (hd : dp ≤ 64) : eqW (.tup rs) (.tup []) = W.ret (.bl (decide (rs = []))) := by
  rw [eqW_sh ⟨h.pl, Nat.le_trans h.dep hd⟩ ⟨rfl, by show 1 ≤ 64; decide⟩]
  cases rs with
  | nil => rfl
  | cons d rs =>
    rw [decide_eq_false (List.cons_ne_nil d rs)]
    rfl
theorem neE {m dp n : Nat} {rs : List D} (h : Sz m dp n (.tup rs)) (hd : dp ≤ 64) : neW (.tup rs) (.tup []) = W.ret (.bl (!decide (rs = []))) := by
  rw [neW_sh ⟨h.pl, Nat.le_trans h.dep hd⟩ ⟨rfl, by show 1 ≤ 64; decide⟩]
  cases rs with
  | nil => rfl
  | cons d rs =>
    rw [decide_eq_false (List.cons_ne_nil d rs)]
    rfl
theorem intB (b : Bool) : intW [.bl b] = W.ret (.int (if b then 1 else 0)) := rfl
section
variable {k : Nat} {r : List D} {s : LM.Sto} {y : Str} {Q : D → LM.Sto → Prop} {E : Ex → LM.Sto → Prop} {e2 e4 e6 : Option D} {i j n : Int}
theorem lay2 {w : Str} (hy : y.length ≤ 8) (hw : w.length ≤ 8) (i0 : 0 ≤ i) (i1 : i ≤ 10) (j0 : 0 ≤ j) (j1 : j ≤ 10) (n0 : 0 ≤ n) (n1 : n ≤ 10) (hf : Hnd k r s) (hn : k + 2 ≤ 1000000) (h : ∀ d s', Sz 64 3 3000 d → Hnd (k + 2) r s' → Q d s') {e8 : Option D} :
    (bSLaying_2 [some (.tok 1), some (.str y), e2, some (.int i), e4, some (.int j), e6, some (.int n), e8, some (.str w), none]).wp (Fin Q E) E s := by
  simp only [bSLaying_2, LM.M.bind_wp, LM.M.ret_wp, LM.M.lift_wp, LM.M.want_wp, LM.M.any_wp, LM.s_ite, LM.s_then, LM.s_end, LM.s_run, LM.s_calm, LM.s_fail, LM.alloc_wp, LM.asBM, LM.putM, LM.par2M.eq_1, W.bind_wp, W.ret_wp, W.want_wp, W.any_wp, s_ite, s_get0, s_get, s_then, s_end, s_run, s_calm, s_fail, s_start1, s_start2, s_start3, s_start4, s_start5, List.replicate, List.set_cons_zero, List.set_cons_succ, asB_bl, asS_str, Nat.reduceSub, Nat.reduceAdd, addW.eq_1, addW.eq_2, addW.eq_3, addW.eq_4, addW.eq_5, subW.eq_1, subW.eq_2, mulW.eq_1, mulW.eq_2, mulW.eq_3, intOp.eq_1, negW.eq_1, ordW.eq_1, ordW.eq_2, isW.eq_1, isntW.eq_1, ixW.eq_1, ixW.eq_2, ixW.eq_3, slW.eq_1, slW.eq_2, slW.eq_3, revTW.eq_1, revLW.eq_1, lenW.eq_1, lenW.eq_2, lenW.eq_3, tupleW.eq_1, tupleW.eq_2, listW.eq_1, listW.eq_2, min2W.eq_1, max2W.eq_1, strW.eq_1, strW.eq_2, joinW.eq_1, joinW.eq_2, walkLW.eq_1, walkTW.eq_1, walkSW.eq_1, range1W.eq_1, zipW.eq_1, zipW.eq_2, tupG.eq_1, gsW.eq_1, gsW.eq_2, par2.eq_1, extW.eq_1, extW.eq_2, partW.eq_1, optW.eq_1, optW.eq_2, modW, fdivW, powW, ltW, leW, gtW, geW, isNone, isi_non, isi_bl, isi_int, isi_str, isi_tup, isi_lst, upperW, putW, appW, tupW, lstW, asB_bl, String.reduceBEq, beq_self_eq_true, Bool.or_true, Bool.true_or, Bool.or_false, Bool.false_or, Bool.and_true, Bool.true_and, Bool.and_false, Bool.false_and, Bool.not_true, Bool.not_false, forall_const, true_implies, true_and, and_true, false_implies, reduceCtorEq, List.length_cons, List.length_nil, forall_eq, imp_self, implies_true, if_true, if_false, Bool.false_eq_true, Bool.true_eq_false]
  refine ⟨by decide, ?_⟩
  refine dip (by decide) (by decide) hf (by omega) fun x s1 x0 x1 h1 => ?_
  refine at_tx (by decide +kernel) x0 x1 fun v hv => ?_
  refine ⟨by decide, ?_⟩
  refine dip (by decide) (by decide) h1 (by omega) fun x s1 x0 x1 h1 => ?_
  refine at_nu (a := 1) (m := 9) (by decide +kernel) x0 x1 fun c c0 c3 => ?_
  refine ⟨by decide, h _ s1 ?_ h1⟩
  have : Szs 64 0 _ [D.str v, .str y, .int i, .int j, .int n, .str w, .int (c : Int)] := Szs.cons (sz_tx hv) (Szs.cons (sz_tx hy) (Szs.cons (sz_int i0 (by omega)) (Szs.cons (sz_int j0 (by omega)) (Szs.cons (sz_int n0 (by omega)) (Szs.cons (sz_tx hw) (Szs.cons (sz_int (by omega) (by omega)) (Szs.nil (n := 0))))))))
  exact (Sz.tup this).mono (Nat.le_refl _) (by decide) (by decide)
theorem lay3 {ss : List D} (hs : ss.all txB = true) (s0 : ss ≠ []) (s4 : ss.length ≤ 4) (hy : y.length ≤ 8) (i0 : 0 ≤ i) (i1 : i ≤ 10) (j0 : 0 ≤ j) (j1 : j ≤ 10) (n0 : 0 ≤ n) (n1 : n ≤ 10) (hf : Hnd k r s) (hn : k + 4 ≤ 1000000) (h : ∀ d s', Sz 64 3 3000 d → Hnd (k + 4) r s' → Q d s') :
    (bSLaying_3 [some (.tok 1), some (.str y), e2, some (.int i), e4, some (.int j), e6, some (.int n), some (.tup ss), none, none]).wp (Fin Q E) E s := by
  have s1 : 0 < ss.length := List.length_pos_iff.mpr s0
  simp only [bSLaying_3, LM.M.bind_wp, LM.M.ret_wp, LM.M.lift_wp, LM.M.want_wp, LM.M.any_wp, LM.s_ite, LM.s_then, LM.s_end, LM.s_run, LM.s_calm, LM.s_fail, LM.alloc_wp, LM.asBM, LM.putM, LM.par2M.eq_1, W.bind_wp, W.ret_wp, W.want_wp, W.any_wp, s_ite, s_get0, s_get, s_then, s_end, s_run, s_calm, s_fail, s_start1, s_start2, s_start3, s_start4, s_start5, List.replicate, List.set_cons_zero, List.set_cons_succ, asB_bl, asS_str, Nat.reduceSub, Nat.reduceAdd, addW.eq_1, addW.eq_2, addW.eq_3, addW.eq_4, addW.eq_5, subW.eq_1, subW.eq_2, mulW.eq_1, mulW.eq_2, mulW.eq_3, intOp.eq_1, negW.eq_1, ordW.eq_1, ordW.eq_2, isW.eq_1, isntW.eq_1, ixW.eq_1, ixW.eq_2, ixW.eq_3, slW.eq_1, slW.eq_2, slW.eq_3, revTW.eq_1, revLW.eq_1, lenW.eq_1, lenW.eq_2, lenW.eq_3, tupleW.eq_1, tupleW.eq_2, listW.eq_1, listW.eq_2, min2W.eq_1, max2W.eq_1, strW.eq_1, strW.eq_2, joinW.eq_1, joinW.eq_2, walkLW.eq_1, walkTW.eq_1, walkSW.eq_1, range1W.eq_1, zipW.eq_1, zipW.eq_2, tupG.eq_1, gsW.eq_1, gsW.eq_2, par2.eq_1, extW.eq_1, extW.eq_2, partW.eq_1, optW.eq_1, optW.eq_2, modW, fdivW, powW, ltW, leW, gtW, geW, isNone, isi_non, isi_bl, isi_int, isi_str, isi_tup, isi_lst, upperW, putW, appW, tupW, lstW, asB_bl, String.reduceBEq, beq_self_eq_true, Bool.or_true, Bool.true_or, Bool.or_false, Bool.false_or, Bool.and_true, Bool.true_and, Bool.and_false, Bool.false_and, Bool.not_true, Bool.not_false, forall_const, true_implies, true_and, and_true, false_implies, reduceCtorEq, List.length_cons, List.length_nil, forall_eq, imp_self, implies_true, if_true, if_false, Bool.false_eq_true, Bool.true_eq_false]
  refine dip (by decide) (by decide) hf (by omega) fun x s1 x0 x1 h1 => ?_
  simp only [LM.M.bind_wp, LM.M.ret_wp, LM.M.lift_wp, LM.M.want_wp, LM.M.any_wp, LM.s_ite, LM.s_then, LM.s_end, LM.s_run, LM.s_calm, LM.s_fail, LM.alloc_wp, LM.asBM, LM.putM, LM.par2M.eq_1, W.bind_wp, W.ret_wp, W.want_wp, W.any_wp, s_ite, s_get0, s_get, s_then, s_end, s_run, s_calm, s_fail, s_start1, s_start2, s_start3, s_start4, s_start5, List.replicate, List.set_cons_zero, List.set_cons_succ, asB_bl, asS_str, Nat.reduceSub, Nat.reduceAdd, addW.eq_1, addW.eq_2, addW.eq_3, addW.eq_4, addW.eq_5, subW.eq_1, subW.eq_2, mulW.eq_1, mulW.eq_2, mulW.eq_3, intOp.eq_1, negW.eq_1, ordW.eq_1, ordW.eq_2, isW.eq_1, isntW.eq_1, ixW.eq_1, ixW.eq_2, ixW.eq_3, slW.eq_1, slW.eq_2, slW.eq_3, revTW.eq_1, revLW.eq_1, lenW.eq_1, lenW.eq_2, lenW.eq_3, tupleW.eq_1, tupleW.eq_2, listW.eq_1, listW.eq_2, min2W.eq_1, max2W.eq_1, strW.eq_1, strW.eq_2, joinW.eq_1, joinW.eq_2, walkLW.eq_1, walkTW.eq_1, walkSW.eq_1, range1W.eq_1, zipW.eq_1, zipW.eq_2, tupG.eq_1, gsW.eq_1, gsW.eq_2, par2.eq_1, extW.eq_1, extW.eq_2, partW.eq_1, optW.eq_1, optW.eq_2, modW, fdivW, powW, ltW, leW, gtW, geW, isNone, isi_non, isi_bl, isi_int, isi_str, isi_tup, isi_lst, upperW, putW, appW, tupW, lstW, asB_bl, String.reduceBEq, beq_self_eq_true, Bool.or_true, Bool.true_or, Bool.or_false, Bool.false_or, Bool.and_true, Bool.true_and, Bool.and_false, Bool.false_and, Bool.not_true, Bool.not_false, forall_const, true_implies, true_and, and_true, false_implies, reduceCtorEq, List.length_cons, List.length_nil, forall_eq, imp_self, implies_true, if_true, if_false, Bool.false_eq_true, Bool.true_eq_false]
  refine ⟨fun z => ?_, fun z => ?_⟩
  · refine dip (by omega) (by omega) h1 (by omega) fun x s1 x0 x1 h1 => ?_
    refine at_tx hs x0 x1 fun w hw => ?_
    exact lay2 hy hw i0 i1 j0 j1 n0 n1 h1 (by omega) fun d s' hd hs => h d s' hd (hs.mono (by omega))
  · exact lay2 hy (by decide +kernel) i0 i1 j0 j1 n0 n1 h1 (by omega) fun d s' hd hs => h d s' hd (hs.mono (by omega))
theorem lay5 {ts : List D} (hl : ts.length ≤ 2) (ht : ∀ w ∈ ts, Wnt w) (hy : y.length ≤ 8) (i0 : 0 ≤ i) (i1 : i ≤ 10) (j0 : 0 ≤ j) (j1 : j ≤ 10) (n0 : 0 ≤ n) (n1 : n ≤ 10) (hf : Hnd k r s) (hn : k + 4 ≤ 1000000) (h : ∀ d s', Sz 64 3 3000 d → Hnd (k + 4) r s' → Q d s') :
    (bSLaying_5 [some (.tok 1), some (.str y), e2, some (.int i), e4, some (.int j), some (.tup ts), some (.int n), none, none, none]).wp (Fin Q E) E s := by
  simp only [bSLaying_5, LM.M.bind_wp, LM.M.ret_wp, LM.M.lift_wp, LM.M.want_wp, LM.M.any_wp, LM.s_ite, LM.s_then, LM.s_end, LM.s_run, LM.s_calm, LM.s_fail, LM.alloc_wp, LM.asBM, LM.putM, LM.par2M.eq_1, W.bind_wp, W.ret_wp, W.want_wp, W.any_wp, s_ite, s_get0, s_get, s_then, s_end, s_run, s_calm, s_fail, s_start1, s_start2, s_start3, s_start4, s_start5, List.replicate, List.set_cons_zero, List.set_cons_succ, asB_bl, asS_str, Nat.reduceSub, Nat.reduceAdd, addW.eq_1, addW.eq_2, addW.eq_3, addW.eq_4, addW.eq_5, subW.eq_1, subW.eq_2, mulW.eq_1, mulW.eq_2, mulW.eq_3, intOp.eq_1, negW.eq_1, ordW.eq_1, ordW.eq_2, isW.eq_1, isntW.eq_1, ixW.eq_1, ixW.eq_2, ixW.eq_3, slW.eq_1, slW.eq_2, slW.eq_3, revTW.eq_1, revLW.eq_1, lenW.eq_1, lenW.eq_2, lenW.eq_3, tupleW.eq_1, tupleW.eq_2, listW.eq_1, listW.eq_2, min2W.eq_1, max2W.eq_1, strW.eq_1, strW.eq_2, joinW.eq_1, joinW.eq_2, walkLW.eq_1, walkTW.eq_1, walkSW.eq_1, range1W.eq_1, zipW.eq_1, zipW.eq_2, tupG.eq_1, gsW.eq_1, gsW.eq_2, par2.eq_1, extW.eq_1, extW.eq_2, partW.eq_1, optW.eq_1, optW.eq_2, modW, fdivW, powW, ltW, leW, gtW, geW, isNone, isi_non, isi_bl, isi_int, isi_str, isi_tup, isi_lst, upperW, putW, appW, tupW, lstW, asB_bl, String.reduceBEq, beq_self_eq_true, Bool.or_true, Bool.true_or, Bool.or_false, Bool.false_or, Bool.and_true, Bool.true_and, Bool.and_false, Bool.false_and, Bool.not_true, Bool.not_false, forall_const, true_implies, true_and, and_true, false_implies, reduceCtorEq, List.length_cons, List.length_nil, forall_eq, imp_self, implies_true, if_true, if_false, Bool.false_eq_true, Bool.true_eq_false]
  refine ⟨by decide, ?_⟩
  simp only [bSLaying_4, LM.M.bind_wp, LM.M.ret_wp, LM.M.lift_wp, LM.M.want_wp, LM.M.any_wp, LM.s_ite, LM.s_then, LM.s_end, LM.s_run, LM.s_calm, LM.s_fail, LM.alloc_wp, LM.asBM, LM.putM, LM.par2M.eq_1, W.bind_wp, W.ret_wp, W.want_wp, W.any_wp, s_ite, s_get0, s_get, s_then, s_end, s_run, s_calm, s_fail, s_start1, s_start2, s_start3, s_start4, s_start5, List.replicate, List.set_cons_zero, List.set_cons_succ, asB_bl, asS_str, Nat.reduceSub, Nat.reduceAdd, addW.eq_1, addW.eq_2, addW.eq_3, addW.eq_4, addW.eq_5, subW.eq_1, subW.eq_2, mulW.eq_1, mulW.eq_2, mulW.eq_3, intOp.eq_1, negW.eq_1, ordW.eq_1, ordW.eq_2, isW.eq_1, isntW.eq_1, ixW.eq_1, ixW.eq_2, ixW.eq_3, slW.eq_1, slW.eq_2, slW.eq_3, revTW.eq_1, revLW.eq_1, lenW.eq_1, lenW.eq_2, lenW.eq_3, tupleW.eq_1, tupleW.eq_2, listW.eq_1, listW.eq_2, min2W.eq_1, max2W.eq_1, strW.eq_1, strW.eq_2, joinW.eq_1, joinW.eq_2, walkLW.eq_1, walkTW.eq_1, walkSW.eq_1, range1W.eq_1, zipW.eq_1, zipW.eq_2, tupG.eq_1, gsW.eq_1, gsW.eq_2, par2.eq_1, extW.eq_1, extW.eq_2, partW.eq_1, optW.eq_1, optW.eq_2, modW, fdivW, powW, ltW, leW, gtW, geW, isNone, isi_non, isi_bl, isi_int, isi_str, isi_tup, isi_lst, upperW, putW, appW, tupW, lstW, asB_bl, String.reduceBEq, beq_self_eq_true, Bool.or_true, Bool.true_or, Bool.or_false, Bool.false_or, Bool.and_true, Bool.true_and, Bool.and_false, Bool.false_and, Bool.not_true, Bool.not_false, forall_const, true_implies, true_and, and_true, false_implies, reduceCtorEq, List.length_cons, List.length_nil, forall_eq, imp_self, implies_true, if_true, if_false, Bool.false_eq_true, Bool.true_eq_false]
  refine ⟨fun z => ?_, fun z => ?_⟩
  · obtain ⟨d, hd, e⟩ := at_ix (l := ts) n0 (by simpa using z)
    have hw := ht d hd
    have hz := hw.sz
    obtain ⟨f, ss, c, rfl, hf8, hl3, hs, c0, c1⟩ := hw
    have a1 : atI [D.str f, .tup ss, .int c] 1 = some (.tup ss) := rfl
    have sz : Sz 64 1 300 (.tup ss) := (Sz.tup (tx_szs hs)).mono (Nat.le_refl _) (Nat.le_refl _) (by omega)
    simp only [e, a1, neE sz (by decide), LM.M.bind_wp, LM.M.ret_wp, LM.M.lift_wp, LM.M.want_wp, LM.M.any_wp, LM.s_ite, LM.s_then, LM.s_end, LM.s_run, LM.s_calm, LM.s_fail, LM.alloc_wp, LM.asBM, LM.putM, LM.par2M.eq_1, W.bind_wp, W.ret_wp, W.want_wp, W.any_wp, s_ite, s_get0, s_get, s_then, s_end, s_run, s_calm, s_fail, s_start1, s_start2, s_start3, s_start4, s_start5, List.replicate, List.set_cons_zero, List.set_cons_succ, asB_bl, asS_str, Nat.reduceSub, Nat.reduceAdd, addW.eq_1, addW.eq_2, addW.eq_3, addW.eq_4, addW.eq_5, subW.eq_1, subW.eq_2, mulW.eq_1, mulW.eq_2, mulW.eq_3, intOp.eq_1, negW.eq_1, ordW.eq_1, ordW.eq_2, isW.eq_1, isntW.eq_1, ixW.eq_1, ixW.eq_2, ixW.eq_3, slW.eq_1, slW.eq_2, slW.eq_3, revTW.eq_1, revLW.eq_1, lenW.eq_1, lenW.eq_2, lenW.eq_3, tupleW.eq_1, tupleW.eq_2, listW.eq_1, listW.eq_2, min2W.eq_1, max2W.eq_1, strW.eq_1, strW.eq_2, joinW.eq_1, joinW.eq_2, walkLW.eq_1, walkTW.eq_1, walkSW.eq_1, range1W.eq_1, zipW.eq_1, zipW.eq_2, tupG.eq_1, gsW.eq_1, gsW.eq_2, par2.eq_1, extW.eq_1, extW.eq_2, partW.eq_1, optW.eq_1, optW.eq_2, modW, fdivW, powW, ltW, leW, gtW, geW, isNone, isi_non, isi_bl, isi_int, isi_str, isi_tup, isi_lst, upperW, putW, appW, tupW, lstW, asB_bl, String.reduceBEq, beq_self_eq_true, Bool.or_true, Bool.true_or, Bool.or_false, Bool.false_or, Bool.and_true, Bool.true_and, Bool.and_false, Bool.false_and, Bool.not_true, Bool.not_false, forall_const, true_implies, true_and, and_true, false_implies, reduceCtorEq, List.length_cons, List.length_nil, forall_eq, imp_self, implies_true, if_true, if_false, Bool.false_eq_true, Bool.true_eq_false]
    refine ⟨by decide, fun z => ?_, fun z => ?_⟩
    · simp only [bSLaying_1, e, a1, LM.M.bind_wp, LM.M.ret_wp, LM.M.lift_wp, LM.M.want_wp, LM.M.any_wp, LM.s_ite, LM.s_then, LM.s_end, LM.s_run, LM.s_calm, LM.s_fail, LM.alloc_wp, LM.asBM, LM.putM, LM.par2M.eq_1, W.bind_wp, W.ret_wp, W.want_wp, W.any_wp, s_ite, s_get0, s_get, s_then, s_end, s_run, s_calm, s_fail, s_start1, s_start2, s_start3, s_start4, s_start5, List.replicate, List.set_cons_zero, List.set_cons_succ, asB_bl, asS_str, Nat.reduceSub, Nat.reduceAdd, addW.eq_1, addW.eq_2, addW.eq_3, addW.eq_4, addW.eq_5, subW.eq_1, subW.eq_2, mulW.eq_1, mulW.eq_2, mulW.eq_3, intOp.eq_1, negW.eq_1, ordW.eq_1, ordW.eq_2, isW.eq_1, isntW.eq_1, ixW.eq_1, ixW.eq_2, ixW.eq_3, slW.eq_1, slW.eq_2, slW.eq_3, revTW.eq_1, revLW.eq_1, lenW.eq_1, lenW.eq_2, lenW.eq_3, tupleW.eq_1, tupleW.eq_2, listW.eq_1, listW.eq_2, min2W.eq_1, max2W.eq_1, strW.eq_1, strW.eq_2, joinW.eq_1, joinW.eq_2, walkLW.eq_1, walkTW.eq_1, walkSW.eq_1, range1W.eq_1, zipW.eq_1, zipW.eq_2, tupG.eq_1, gsW.eq_1, gsW.eq_2, par2.eq_1, extW.eq_1, extW.eq_2, partW.eq_1, optW.eq_1, optW.eq_2, modW, fdivW, powW, ltW, leW, gtW, geW, isNone, isi_non, isi_bl, isi_int, isi_str, isi_tup, isi_lst, upperW, putW, appW, tupW, lstW, asB_bl, String.reduceBEq, beq_self_eq_true, Bool.or_true, Bool.true_or, Bool.or_false, Bool.false_or, Bool.and_true, Bool.true_and, Bool.and_false, Bool.false_and, Bool.not_true, Bool.not_false, forall_const, true_implies, true_and, and_true, false_implies, reduceCtorEq, List.length_cons, List.length_nil, forall_eq, imp_self, implies_true, if_true, if_false, Bool.false_eq_true, Bool.true_eq_false]
      exact lay3 hs (by simpa using z) (by omega) hy i0 i1 j0 j1 n0 n1 hf hn h
    · exact lay3 (by decide +kernel) (by decide) (by decide) hy i0 i1 j0 j1 n0 n1 hf hn h
  · exact lay3 (by decide +kernel) (by decide) (by decide) hy i0 i1 j0 j1 n0 n1 hf hn h
theorem lay6 {ts : List D} (hl : ts.length ≤ 2) (ht : ∀ w ∈ ts, Wnt w) (hy : y.length ≤ 8) (i0 : 0 ≤ i) (i1 : i ≤ 10) (j0 : 0 ≤ j) (j1 : j ≤ 10) (hf : Hnd k r s) (hn : k + 6 ≤ 1000000) (h : ∀ d s', Sz 64 3 3000 d → Hnd (k + 6) r s' → Q d s') :
    (bSLaying_6 [some (.tok 1), some (.str y), e2, some (.int i), e4, some (.int j), some (.tup ts), none, none, none, none]).wp (Fin Q E) E s := by
  have sz := (show Way (.tup ts) from ⟨ts, rfl, hl, ht⟩).sz
  have go : ∀ {b : Int} {s1 : LM.Sto}, 0 ≤ b → b ≤ 1 → (ts = [] → b = 1) → Hnd (k + 1) r s1 → (fDip [.tok 1, .int ((ts.length : Int) + b)]).wp (fun a s' => (bSLaying_5 [some (.tok 1), some (.str y), e2, some (.int i), e4, some (.int j), some (.tup ts), some a, none, none, none]).wp (Fin Q E) E s') E s1 := fun {b s1} b0 b1 b2 h1 => by
    have lp : 0 < (ts.length : Int) + b := by
      by_cases z : ts = []
      · rw [b2 z]; omega
      · have := List.length_pos_iff.mpr z
        omega
    refine dip lp (by omega) h1 (by omega) fun x s1 x0 x1 h1 => ?_
    exact lay5 hl ht hy i0 i1 j0 j1 x0 (by omega) h1 (by omega) fun d s' hd hs => h d s' hd (hs.mono (by omega))
  simp only [bSLaying_6, eqE sz (by decide), intB, LM.M.bind_wp, LM.M.ret_wp, LM.M.lift_wp, LM.M.want_wp, LM.M.any_wp, LM.s_ite, LM.s_then, LM.s_end, LM.s_run, LM.s_calm, LM.s_fail, LM.alloc_wp, LM.asBM, LM.putM, LM.par2M.eq_1, W.bind_wp, W.ret_wp, W.want_wp, W.any_wp, s_ite, s_get0, s_get, s_then, s_end, s_run, s_calm, s_fail, s_start1, s_start2, s_start3, s_start4, s_start5, List.replicate, List.set_cons_zero, List.set_cons_succ, asB_bl, asS_str, Nat.reduceSub, Nat.reduceAdd, addW.eq_1, addW.eq_2, addW.eq_3, addW.eq_4, addW.eq_5, subW.eq_1, subW.eq_2, mulW.eq_1, mulW.eq_2, mulW.eq_3, intOp.eq_1, negW.eq_1, ordW.eq_1, ordW.eq_2, isW.eq_1, isntW.eq_1, ixW.eq_1, ixW.eq_2, ixW.eq_3, slW.eq_1, slW.eq_2, slW.eq_3, revTW.eq_1, revLW.eq_1, lenW.eq_1, lenW.eq_2, lenW.eq_3, tupleW.eq_1, tupleW.eq_2, listW.eq_1, listW.eq_2, min2W.eq_1, max2W.eq_1, strW.eq_1, strW.eq_2, joinW.eq_1, joinW.eq_2, walkLW.eq_1, walkTW.eq_1, walkSW.eq_1, range1W.eq_1, zipW.eq_1, zipW.eq_2, tupG.eq_1, gsW.eq_1, gsW.eq_2, par2.eq_1, extW.eq_1, extW.eq_2, partW.eq_1, optW.eq_1, optW.eq_2, modW, fdivW, powW, ltW, leW, gtW, geW, isNone, isi_non, isi_bl, isi_int, isi_str, isi_tup, isi_lst, upperW, putW, appW, tupW, lstW, asB_bl, String.reduceBEq, beq_self_eq_true, Bool.or_true, Bool.true_or, Bool.or_false, Bool.false_or, Bool.and_true, Bool.true_and, Bool.and_false, Bool.false_and, Bool.not_true, Bool.not_false, forall_const, true_implies, true_and, and_true, false_implies, reduceCtorEq, List.length_cons, List.length_nil, forall_eq, imp_self, implies_true, if_true, if_false, Bool.false_eq_true, Bool.true_eq_false]
  refine ⟨by decide, fun z => go (by decide) (by decide) (fun _ => rfl) (hf.mono (by omega)), fun z => ?_⟩
  refine dip (by decide) (by decide) hf (by omega) fun x s1 x0 x1 h1 => ?_
  simp only [eqW_int, intB, LM.M.bind_wp, LM.M.ret_wp, LM.M.lift_wp, LM.M.want_wp, LM.M.any_wp, LM.s_ite, LM.s_then, LM.s_end, LM.s_run, LM.s_calm, LM.s_fail, LM.alloc_wp, LM.asBM, LM.putM, LM.par2M.eq_1, W.bind_wp, W.ret_wp, W.want_wp, W.any_wp, s_ite, s_get0, s_get, s_then, s_end, s_run, s_calm, s_fail, s_start1, s_start2, s_start3, s_start4, s_start5, List.replicate, List.set_cons_zero, List.set_cons_succ, asB_bl, asS_str, Nat.reduceSub, Nat.reduceAdd, addW.eq_1, addW.eq_2, addW.eq_3, addW.eq_4, addW.eq_5, subW.eq_1, subW.eq_2, mulW.eq_1, mulW.eq_2, mulW.eq_3, intOp.eq_1, negW.eq_1, ordW.eq_1, ordW.eq_2, isW.eq_1, isntW.eq_1, ixW.eq_1, ixW.eq_2, ixW.eq_3, slW.eq_1, slW.eq_2, slW.eq_3, revTW.eq_1, revLW.eq_1, lenW.eq_1, lenW.eq_2, lenW.eq_3, tupleW.eq_1, tupleW.eq_2, listW.eq_1, listW.eq_2, min2W.eq_1, max2W.eq_1, strW.eq_1, strW.eq_2, joinW.eq_1, joinW.eq_2, walkLW.eq_1, walkTW.eq_1, walkSW.eq_1, range1W.eq_1, zipW.eq_1, zipW.eq_2, tupG.eq_1, gsW.eq_1, gsW.eq_2, par2.eq_1, extW.eq_1, extW.eq_2, partW.eq_1, optW.eq_1, optW.eq_2, modW, fdivW, powW, ltW, leW, gtW, geW, isNone, isi_non, isi_bl, isi_int, isi_str, isi_tup, isi_lst, upperW, putW, appW, tupW, lstW, asB_bl, String.reduceBEq, beq_self_eq_true, Bool.or_true, Bool.true_or, Bool.or_false, Bool.false_or, Bool.and_true, Bool.true_and, Bool.and_false, Bool.false_and, Bool.not_true, Bool.not_false, forall_const, true_implies, true_and, and_true, false_implies, reduceCtorEq, List.length_cons, List.length_nil, forall_eq, imp_self, implies_true, if_true, if_false, Bool.false_eq_true, Bool.true_eq_false]
  refine go ?_ ?_ (fun w => absurd w (by simpa using z)) h1
  · split <;> decide
  · split <;> decide
theorem lay8 {ws : List D} (hl : ws.length ≤ 3) (w0 : ws ≠ []) (hw : ∀ w ∈ ws, Way w) (hy : y.length ≤ 8) (i0 : 0 ≤ i) (i1 : i ≤ 10) (hf : Hnd k r s) (hn : k + 8 ≤ 1000000) (h : ∀ d s', Sz 64 3 3000 d → Hnd (k + 8) r s' → Q d s') :
    (bSLaying_8 [some (.tok 1), some (.str y), e2, some (.int i), some (.tup ws), none, none, none, none, none, none]).wp (Fin Q E) E s := by
  have wp := List.length_pos_iff.mpr w0
  simp only [bSLaying_8, LM.M.bind_wp, LM.M.ret_wp, LM.M.lift_wp, LM.M.want_wp, LM.M.any_wp, LM.s_ite, LM.s_then, LM.s_end, LM.s_run, LM.s_calm, LM.s_fail, LM.alloc_wp, LM.asBM, LM.putM, LM.par2M.eq_1, W.bind_wp, W.ret_wp, W.want_wp, W.any_wp, s_ite, s_get0, s_get, s_then, s_end, s_run, s_calm, s_fail, s_start1, s_start2, s_start3, s_start4, s_start5, List.replicate, List.set_cons_zero, List.set_cons_succ, asB_bl, asS_str, Nat.reduceSub, Nat.reduceAdd, addW.eq_1, addW.eq_2, addW.eq_3, addW.eq_4, addW.eq_5, subW.eq_1, subW.eq_2, mulW.eq_1, mulW.eq_2, mulW.eq_3, intOp.eq_1, negW.eq_1, ordW.eq_1, ordW.eq_2, isW.eq_1, isntW.eq_1, ixW.eq_1, ixW.eq_2, ixW.eq_3, slW.eq_1, slW.eq_2, slW.eq_3, revTW.eq_1, revLW.eq_1, lenW.eq_1, lenW.eq_2, lenW.eq_3, tupleW.eq_1, tupleW.eq_2, listW.eq_1, listW.eq_2, min2W.eq_1, max2W.eq_1, strW.eq_1, strW.eq_2, joinW.eq_1, joinW.eq_2, walkLW.eq_1, walkTW.eq_1, walkSW.eq_1, range1W.eq_1, zipW.eq_1, zipW.eq_2, tupG.eq_1, gsW.eq_1, gsW.eq_2, par2.eq_1, extW.eq_1, extW.eq_2, partW.eq_1, optW.eq_1, optW.eq_2, modW, fdivW, powW, ltW, leW, gtW, geW, isNone, isi_non, isi_bl, isi_int, isi_str, isi_tup, isi_lst, upperW, putW, appW, tupW, lstW, asB_bl, String.reduceBEq, beq_self_eq_true, Bool.or_true, Bool.true_or, Bool.or_false, Bool.false_or, Bool.and_true, Bool.true_and, Bool.and_false, Bool.false_and, Bool.not_true, Bool.not_false, forall_const, true_implies, true_and, and_true, false_implies, reduceCtorEq, List.length_cons, List.length_nil, forall_eq, imp_self, implies_true, if_true, if_false, Bool.false_eq_true, Bool.true_eq_false]
  refine dip (by decide) (by decide) hf (by omega) fun x s1 x0 x1 h1 => ?_
  simp only [eqW_int, intB, LM.M.bind_wp, LM.M.ret_wp, LM.M.lift_wp, LM.M.want_wp, LM.M.any_wp, LM.s_ite, LM.s_then, LM.s_end, LM.s_run, LM.s_calm, LM.s_fail, LM.alloc_wp, LM.asBM, LM.putM, LM.par2M.eq_1, W.bind_wp, W.ret_wp, W.want_wp, W.any_wp, s_ite, s_get0, s_get, s_then, s_end, s_run, s_calm, s_fail, s_start1, s_start2, s_start3, s_start4, s_start5, List.replicate, List.set_cons_zero, List.set_cons_succ, asB_bl, asS_str, Nat.reduceSub, Nat.reduceAdd, addW.eq_1, addW.eq_2, addW.eq_3, addW.eq_4, addW.eq_5, subW.eq_1, subW.eq_2, mulW.eq_1, mulW.eq_2, mulW.eq_3, intOp.eq_1, negW.eq_1, ordW.eq_1, ordW.eq_2, isW.eq_1, isntW.eq_1, ixW.eq_1, ixW.eq_2, ixW.eq_3, slW.eq_1, slW.eq_2, slW.eq_3, revTW.eq_1, revLW.eq_1, lenW.eq_1, lenW.eq_2, lenW.eq_3, tupleW.eq_1, tupleW.eq_2, listW.eq_1, listW.eq_2, min2W.eq_1, max2W.eq_1, strW.eq_1, strW.eq_2, joinW.eq_1, joinW.eq_2, walkLW.eq_1, walkTW.eq_1, walkSW.eq_1, range1W.eq_1, zipW.eq_1, zipW.eq_2, tupG.eq_1, gsW.eq_1, gsW.eq_2, par2.eq_1, extW.eq_1, extW.eq_2, partW.eq_1, optW.eq_1, optW.eq_2, modW, fdivW, powW, ltW, leW, gtW, geW, isNone, isi_non, isi_bl, isi_int, isi_str, isi_tup, isi_lst, upperW, putW, appW, tupW, lstW, asB_bl, String.reduceBEq, beq_self_eq_true, Bool.or_true, Bool.true_or, Bool.or_false, Bool.false_or, Bool.and_true, Bool.true_and, Bool.and_false, Bool.false_and, Bool.not_true, Bool.not_false, forall_const, true_implies, true_and, and_true, false_implies, reduceCtorEq, List.length_cons, List.length_nil, forall_eq, imp_self, implies_true, if_true, if_false, Bool.false_eq_true, Bool.true_eq_false]
  have b2 : (0 : Int) ≤ (if (x == 0) = true then 1 else 0) ∧ (if (x == 0) = true then (1 : Int) else 0) ≤ 1 := by split <;> decide
  refine dip (by omega) (by omega) h1 (by omega) fun j s1 j0 j1 h1 => ?_
  simp only [bSLaying_7, LM.M.bind_wp, LM.M.ret_wp, LM.M.lift_wp, LM.M.want_wp, LM.M.any_wp, LM.s_ite, LM.s_then, LM.s_end, LM.s_run, LM.s_calm, LM.s_fail, LM.alloc_wp, LM.asBM, LM.putM, LM.par2M.eq_1, W.bind_wp, W.ret_wp, W.want_wp, W.any_wp, s_ite, s_get0, s_get, s_then, s_end, s_run, s_calm, s_fail, s_start1, s_start2, s_start3, s_start4, s_start5, List.replicate, List.set_cons_zero, List.set_cons_succ, asB_bl, asS_str, Nat.reduceSub, Nat.reduceAdd, addW.eq_1, addW.eq_2, addW.eq_3, addW.eq_4, addW.eq_5, subW.eq_1, subW.eq_2, mulW.eq_1, mulW.eq_2, mulW.eq_3, intOp.eq_1, negW.eq_1, ordW.eq_1, ordW.eq_2, isW.eq_1, isntW.eq_1, ixW.eq_1, ixW.eq_2, ixW.eq_3, slW.eq_1, slW.eq_2, slW.eq_3, revTW.eq_1, revLW.eq_1, lenW.eq_1, lenW.eq_2, lenW.eq_3, tupleW.eq_1, tupleW.eq_2, listW.eq_1, listW.eq_2, min2W.eq_1, max2W.eq_1, strW.eq_1, strW.eq_2, joinW.eq_1, joinW.eq_2, walkLW.eq_1, walkTW.eq_1, walkSW.eq_1, range1W.eq_1, zipW.eq_1, zipW.eq_2, tupG.eq_1, gsW.eq_1, gsW.eq_2, par2.eq_1, extW.eq_1, extW.eq_2, partW.eq_1, optW.eq_1, optW.eq_2, modW, fdivW, powW, ltW, leW, gtW, geW, isNone, isi_non, isi_bl, isi_int, isi_str, isi_tup, isi_lst, upperW, putW, appW, tupW, lstW, asB_bl, String.reduceBEq, beq_self_eq_true, Bool.or_true, Bool.true_or, Bool.or_false, Bool.false_or, Bool.and_true, Bool.true_and, Bool.and_false, Bool.false_and, Bool.not_true, Bool.not_false, forall_const, true_implies, true_and, and_true, false_implies, reduceCtorEq, List.length_cons, List.length_nil, forall_eq, imp_self, implies_true, if_true, if_false, Bool.false_eq_true, Bool.true_eq_false]
  refine ⟨fun z => ?_, fun z => ?_⟩
  · obtain ⟨d, hd, e⟩ := at_ix (l := ws) j0 (by simpa using z)
    obtain ⟨ts, rfl, h2, h3⟩ := hw d hd
    simp only [e, LM.M.bind_wp, LM.M.ret_wp, LM.M.lift_wp, LM.M.want_wp, LM.M.any_wp, LM.s_ite, LM.s_then, LM.s_end, LM.s_run, LM.s_calm, LM.s_fail, LM.alloc_wp, LM.asBM, LM.putM, LM.par2M.eq_1, W.bind_wp, W.ret_wp, W.want_wp, W.any_wp, s_ite, s_get0, s_get, s_then, s_end, s_run, s_calm, s_fail, s_start1, s_start2, s_start3, s_start4, s_start5, List.replicate, List.set_cons_zero, List.set_cons_succ, asB_bl, asS_str, Nat.reduceSub, Nat.reduceAdd, addW.eq_1, addW.eq_2, addW.eq_3, addW.eq_4, addW.eq_5, subW.eq_1, subW.eq_2, mulW.eq_1, mulW.eq_2, mulW.eq_3, intOp.eq_1, negW.eq_1, ordW.eq_1, ordW.eq_2, isW.eq_1, isntW.eq_1, ixW.eq_1, ixW.eq_2, ixW.eq_3, slW.eq_1, slW.eq_2, slW.eq_3, revTW.eq_1, revLW.eq_1, lenW.eq_1, lenW.eq_2, lenW.eq_3, tupleW.eq_1, tupleW.eq_2, listW.eq_1, listW.eq_2, min2W.eq_1, max2W.eq_1, strW.eq_1, strW.eq_2, joinW.eq_1, joinW.eq_2, walkLW.eq_1, walkTW.eq_1, walkSW.eq_1, range1W.eq_1, zipW.eq_1, zipW.eq_2, tupG.eq_1, gsW.eq_1, gsW.eq_2, par2.eq_1, extW.eq_1, extW.eq_2, partW.eq_1, optW.eq_1, optW.eq_2, modW, fdivW, powW, ltW, leW, gtW, geW, isNone, isi_non, isi_bl, isi_int, isi_str, isi_tup, isi_lst, upperW, putW, appW, tupW, lstW, asB_bl, String.reduceBEq, beq_self_eq_true, Bool.or_true, Bool.true_or, Bool.or_false, Bool.false_or, Bool.and_true, Bool.true_and, Bool.and_false, Bool.false_and, Bool.not_true, Bool.not_false, forall_const, true_implies, true_and, and_true, false_implies, reduceCtorEq, List.length_cons, List.length_nil, forall_eq, imp_self, implies_true, if_true, if_false, Bool.false_eq_true, Bool.true_eq_false]
    exact lay6 h2 h3 hy i0 i1 j0 (by omega) h1 (by omega) fun d s' hd hs => h d s' hd (hs.mono (by omega))
  · refine ⟨by decide, ?_⟩
    exact lay6 (ts := []) (by decide) (fun _ h => (nomatch h)) hy i0 i1 j0 (by omega) h1 (by omega) fun d s' hd hs => h d s' hd (hs.mono (by omega))
theorem slaying {sh : D} (hy : y.length ≤ 8) (hsh : Sht sh) (hf : Hnd k r s) (hn : k + 20 ≤ 1000000)
    (h : ∀ d s', Sz 64 3 3000 d → Hnd (k + 20) r s' → Q d s') : (fSLaying [.tok 1, .str y, sh]).wp Q E s := by
  have sz := hsh.sz
  obtain ⟨rs, rfl, l3, hr⟩ := hsh
  have go : ∀ {b : Int} {s1 : LM.Sto}, 0 ≤ b → b ≤ 1 → (rs = [] → b = 1) → Hnd (k + 1) r s1 → (fDip [.tok 1, .int ((rs.length : Int) + b)]).wp (fun a s' => (bSLaying_9 [some (.tok 1), some (.str y), some (.tup rs), some a, none, none, none, none, none, none, none]).wp (Fin Q E) E s') E s1 := fun {b s1} b0 b1 b2 h1 => by
    have lp : 0 < (rs.length : Int) + b := by
      by_cases z : rs = []
      · rw [b2 z]; omega
      · have := List.length_pos_iff.mpr z
        omega
    refine dip lp (by omega) h1 (by omega) fun x s1 x0 x1 h1 => ?_
    simp only [bSLaying_9, LM.M.bind_wp, LM.M.ret_wp, LM.M.lift_wp, LM.M.want_wp, LM.M.any_wp, LM.s_ite, LM.s_then, LM.s_end, LM.s_run, LM.s_calm, LM.s_fail, LM.alloc_wp, LM.asBM, LM.putM, LM.par2M.eq_1, W.bind_wp, W.ret_wp, W.want_wp, W.any_wp, s_ite, s_get0, s_get, s_then, s_end, s_run, s_calm, s_fail, s_start1, s_start2, s_start3, s_start4, s_start5, List.replicate, List.set_cons_zero, List.set_cons_succ, asB_bl, asS_str, Nat.reduceSub, Nat.reduceAdd, addW.eq_1, addW.eq_2, addW.eq_3, addW.eq_4, addW.eq_5, subW.eq_1, subW.eq_2, mulW.eq_1, mulW.eq_2, mulW.eq_3, intOp.eq_1, negW.eq_1, ordW.eq_1, ordW.eq_2, isW.eq_1, isntW.eq_1, ixW.eq_1, ixW.eq_2, ixW.eq_3, slW.eq_1, slW.eq_2, slW.eq_3, revTW.eq_1, revLW.eq_1, lenW.eq_1, lenW.eq_2, lenW.eq_3, tupleW.eq_1, tupleW.eq_2, listW.eq_1, listW.eq_2, min2W.eq_1, max2W.eq_1, strW.eq_1, strW.eq_2, joinW.eq_1, joinW.eq_2, walkLW.eq_1, walkTW.eq_1, walkSW.eq_1, range1W.eq_1, zipW.eq_1, zipW.eq_2, tupG.eq_1, gsW.eq_1, gsW.eq_2, par2.eq_1, extW.eq_1, extW.eq_2, partW.eq_1, optW.eq_1, optW.eq_2, modW, fdivW, powW, ltW, leW, gtW, geW, isNone, isi_non, isi_bl, isi_int, isi_str, isi_tup, isi_lst, upperW, putW, appW, tupW, lstW, asB_bl, String.reduceBEq, beq_self_eq_true, Bool.or_true, Bool.true_or, Bool.or_false, Bool.false_or, Bool.and_true, Bool.true_and, Bool.and_false, Bool.false_and, Bool.not_true, Bool.not_false, forall_const, true_implies, true_and, and_true, false_implies, reduceCtorEq, List.length_cons, List.length_nil, forall_eq, imp_self, implies_true, if_true, if_false, Bool.false_eq_true, Bool.true_eq_false]
    refine ⟨fun z => ?_, fun z => ?_⟩
    · obtain ⟨d, hd, e⟩ := at_ix (l := rs) x0 (by simpa using z)
      obtain ⟨ws, rfl, h2, h3, h4⟩ := hr d hd
      simp only [e, LM.M.bind_wp, LM.M.ret_wp, LM.M.lift_wp, LM.M.want_wp, LM.M.any_wp, LM.s_ite, LM.s_then, LM.s_end, LM.s_run, LM.s_calm, LM.s_fail, LM.alloc_wp, LM.asBM, LM.putM, LM.par2M.eq_1, W.bind_wp, W.ret_wp, W.want_wp, W.any_wp, s_ite, s_get0, s_get, s_then, s_end, s_run, s_calm, s_fail, s_start1, s_start2, s_start3, s_start4, s_start5, List.replicate, List.set_cons_zero, List.set_cons_succ, asB_bl, asS_str, Nat.reduceSub, Nat.reduceAdd, addW.eq_1, addW.eq_2, addW.eq_3, addW.eq_4, addW.eq_5, subW.eq_1, subW.eq_2, mulW.eq_1, mulW.eq_2, mulW.eq_3, intOp.eq_1, negW.eq_1, ordW.eq_1, ordW.eq_2, isW.eq_1, isntW.eq_1, ixW.eq_1, ixW.eq_2, ixW.eq_3, slW.eq_1, slW.eq_2, slW.eq_3, revTW.eq_1, revLW.eq_1, lenW.eq_1, lenW.eq_2, lenW.eq_3, tupleW.eq_1, tupleW.eq_2, listW.eq_1, listW.eq_2, min2W.eq_1, max2W.eq_1, strW.eq_1, strW.eq_2, joinW.eq_1, joinW.eq_2, walkLW.eq_1, walkTW.eq_1, walkSW.eq_1, range1W.eq_1, zipW.eq_1, zipW.eq_2, tupG.eq_1, gsW.eq_1, gsW.eq_2, par2.eq_1, extW.eq_1, extW.eq_2, partW.eq_1, optW.eq_1, optW.eq_2, modW, fdivW, powW, ltW, leW, gtW, geW, isNone, isi_non, isi_bl, isi_int, isi_str, isi_tup, isi_lst, upperW, putW, appW, tupW, lstW, asB_bl, String.reduceBEq, beq_self_eq_true, Bool.or_true, Bool.true_or, Bool.or_false, Bool.false_or, Bool.and_true, Bool.true_and, Bool.and_false, Bool.false_and, Bool.not_true, Bool.not_false, forall_const, true_implies, true_and, and_true, false_implies, reduceCtorEq, List.length_cons, List.length_nil, forall_eq, imp_self, implies_true, if_true, if_false, Bool.false_eq_true, Bool.true_eq_false]
      exact lay8 h2 h3 h4 hy x0 (by omega) h1 (by omega) fun d s' hd hs => h d s' hd (hs.mono (by omega))
    · refine ⟨by decide, by decide, ?_⟩
      exact lay8 (ws := [.tup []]) (by decide) (by decide) (fun w hw => by rw [List.mem_singleton.mp hw]; exact ⟨[], rfl, by decide, fun _ h => (nomatch h)⟩) hy x0 (by omega) h1 (by omega) fun d s' hd hs => h d s' hd (hs.mono (by omega))
  simp only [fSLaying, bSLaying, eqE sz (by decide), intB, LM.M.bind_wp, LM.M.ret_wp, LM.M.lift_wp, LM.M.want_wp, LM.M.any_wp, LM.s_ite, LM.s_then, LM.s_end, LM.s_run, LM.s_calm, LM.s_fail, LM.alloc_wp, LM.asBM, LM.putM, LM.par2M.eq_1, W.bind_wp, W.ret_wp, W.want_wp, W.any_wp, s_ite, s_get0, s_get, s_then, s_end, s_run, s_calm, s_fail, s_start1, s_start2, s_start3, s_start4, s_start5, List.replicate, List.set_cons_zero, List.set_cons_succ, asB_bl, asS_str, Nat.reduceSub, Nat.reduceAdd, addW.eq_1, addW.eq_2, addW.eq_3, addW.eq_4, addW.eq_5, subW.eq_1, subW.eq_2, mulW.eq_1, mulW.eq_2, mulW.eq_3, intOp.eq_1, negW.eq_1, ordW.eq_1, ordW.eq_2, isW.eq_1, isntW.eq_1, ixW.eq_1, ixW.eq_2, ixW.eq_3, slW.eq_1, slW.eq_2, slW.eq_3, revTW.eq_1, revLW.eq_1, lenW.eq_1, lenW.eq_2, lenW.eq_3, tupleW.eq_1, tupleW.eq_2, listW.eq_1, listW.eq_2, min2W.eq_1, max2W.eq_1, strW.eq_1, strW.eq_2, joinW.eq_1, joinW.eq_2, walkLW.eq_1, walkTW.eq_1, walkSW.eq_1, range1W.eq_1, zipW.eq_1, zipW.eq_2, tupG.eq_1, gsW.eq_1, gsW.eq_2, par2.eq_1, extW.eq_1, extW.eq_2, partW.eq_1, optW.eq_1, optW.eq_2, modW, fdivW, powW, ltW, leW, gtW, geW, isNone, isi_non, isi_bl, isi_int, isi_str, isi_tup, isi_lst, upperW, putW, appW, tupW, lstW, asB_bl, String.reduceBEq, beq_self_eq_true, Bool.or_true, Bool.true_or, Bool.or_false, Bool.false_or, Bool.and_true, Bool.true_and, Bool.and_false, Bool.false_and, Bool.not_true, Bool.not_false, forall_const, true_implies, true_and, and_true, false_implies, reduceCtorEq, List.length_cons, List.length_nil, forall_eq, imp_self, implies_true, if_true, if_false, Bool.false_eq_true, Bool.true_eq_false]
  refine ⟨by decide, fun z => go (by decide) (by decide) (fun _ => rfl) (hf.mono (by omega)), fun z => ?_⟩
  refine dip (by decide) (by decide) hf (by omega) fun x s1 x0 x1 h1 => ?_
  simp only [eqW_int, intB, LM.M.bind_wp, LM.M.ret_wp, LM.M.lift_wp, LM.M.want_wp, LM.M.any_wp, LM.s_ite, LM.s_then, LM.s_end, LM.s_run, LM.s_calm, LM.s_fail, LM.alloc_wp, LM.asBM, LM.putM, LM.par2M.eq_1, W.bind_wp, W.ret_wp, W.want_wp, W.any_wp, s_ite, s_get0, s_get, s_then, s_end, s_run, s_calm, s_fail, s_start1, s_start2, s_start3, s_start4, s_start5, List.replicate, List.set_cons_zero, List.set_cons_succ, asB_bl, asS_str, Nat.reduceSub, Nat.reduceAdd, addW.eq_1, addW.eq_2, addW.eq_3, addW.eq_4, addW.eq_5, subW.eq_1, subW.eq_2, mulW.eq_1, mulW.eq_2, mulW.eq_3, intOp.eq_1, negW.eq_1, ordW.eq_1, ordW.eq_2, isW.eq_1, isntW.eq_1, ixW.eq_1, ixW.eq_2, ixW.eq_3, slW.eq_1, slW.eq_2, slW.eq_3, revTW.eq_1, revLW.eq_1, lenW.eq_1, lenW.eq_2, lenW.eq_3, tupleW.eq_1, tupleW.eq_2, listW.eq_1, listW.eq_2, min2W.eq_1, max2W.eq_1, strW.eq_1, strW.eq_2, joinW.eq_1, joinW.eq_2, walkLW.eq_1, walkTW.eq_1, walkSW.eq_1, range1W.eq_1, zipW.eq_1, zipW.eq_2, tupG.eq_1, gsW.eq_1, gsW.eq_2, par2.eq_1, extW.eq_1, extW.eq_2, partW.eq_1, optW.eq_1, optW.eq_2, modW, fdivW, powW, ltW, leW, gtW, geW, isNone, isi_non, isi_bl, isi_int, isi_str, isi_tup, isi_lst, upperW, putW, appW, tupW, lstW, asB_bl, String.reduceBEq, beq_self_eq_true, Bool.or_true, Bool.true_or, Bool.or_false, Bool.false_or, Bool.and_true, Bool.true_and, Bool.and_false, Bool.false_and, Bool.not_true, Bool.not_false, forall_const, true_implies, true_and, and_true, false_implies, reduceCtorEq, List.length_cons, List.length_nil, forall_eq, imp_self, implies_true, if_true, if_false, Bool.false_eq_true, Bool.true_eq_false]
  refine go ?_ ?_ (fun w => absurd w (by simpa using z)) h1
  · split <;> decide
  · split <;> decide
end
end LP.HD
namespace LP.HD
open PySem PySem.Spec PyProof.Rows L2 PK LP
/-! ### the sheets begun -/
theorem dget_mem : ∀ {ks vs : List D} {y d : D}, LM.dget ks vs y = some d → d ∈ vs
  | [], _, _, _, h => (nomatch h)
  | _ :: _, [], _, _, h => (nomatch h)
  | q :: ks, v :: vs, y, d, h => by
    have h : (if LM.kOf q = LM.kOf y then some v else LM.dget ks vs y) = some d := h
    split at h
    · cases h
      exact List.mem_cons_self
    · exact List.mem_cons_of_mem _ (dget_mem h)
theorem dput_at : ∀ {ks vs : List D} {y z : D}, ks.length = vs.length → LM.dget (LM.dputK ks y) (LM.dputV ks vs y z) y = some z
  | [], [], y, z, _ => by
    show (if LM.kOf y = LM.kOf y then some z else _) = some z
    rw [if_pos rfl]
  | q :: ks, v :: vs, y, z, h => by
    by_cases e : LM.kOf q = LM.kOf y
    · have e1 : LM.dputK (q :: ks) y = q :: ks := by show (if _ then _ else _) = _; rw [if_pos e]
      have e2 : LM.dputV (q :: ks) (v :: vs) y z = z :: vs := by show (if _ then _ else _) = _; rw [if_pos e]
      rw [e1, e2]
      show (if LM.kOf q = LM.kOf y then some z else _) = some z
      rw [if_pos e]
    · have e1 : LM.dputK (q :: ks) y = q :: LM.dputK ks y := by show (if _ then _ else _) = _; rw [if_neg e]
      have e2 : LM.dputV (q :: ks) (v :: vs) y z = v :: LM.dputV ks vs y z := by show (if _ then _ else _) = _; rw [if_neg e]
      rw [e1, e2]
      show (if LM.kOf q = LM.kOf y then some v else _) = some z
      rw [if_neg e]
      exact dput_at (Nat.succ.inj h)
theorem dput_len : ∀ {ks vs : List D} {y z : D}, ks.length = vs.length → (LM.dputK ks y).length = (LM.dputV ks vs y z).length ∧ (LM.dputK ks y).length ≤ ks.length + 1 ∧ ∀ v ∈ LM.dputV ks vs y z, v ∈ vs ∨ v = z
  | [], [], y, z, _ => ⟨rfl, Nat.le_refl _, fun v h => .inr (List.mem_singleton.mp h)⟩
  | q :: ks, v :: vs, y, z, h => by
    by_cases e : LM.kOf q = LM.kOf y
    · have e1 : LM.dputK (q :: ks) y = q :: ks := by show (if _ then _ else _) = _; rw [if_pos e]
      have e2 : LM.dputV (q :: ks) (v :: vs) y z = z :: vs := by show (if _ then _ else _) = _; rw [if_pos e]
      rw [e1, e2]
      refine ⟨h, Nat.le_succ _, fun w hw => ?_⟩
      rcases List.mem_cons.mp hw with g | g
      · exact .inr g
      · exact .inl (List.mem_cons_of_mem _ g)
    · have e1 : LM.dputK (q :: ks) y = q :: LM.dputK ks y := by show (if _ then _ else _) = _; rw [if_neg e]
      have e2 : LM.dputV (q :: ks) (v :: vs) y z = v :: LM.dputV ks vs y z := by show (if _ then _ else _) = _; rw [if_neg e]
      obtain ⟨h1, h2, h3⟩ := dput_len (y := y) (z := z) (Nat.succ.inj h)
      rw [e1, e2]
      refine ⟨by rw [List.length_cons, List.length_cons, h1], by rw [List.length_cons, List.length_cons]; omega, fun w hw => ?_⟩
      rcases List.mem_cons.mp hw with g | g
      · exact .inl (by rw [g]; exact List.mem_cons_self)
      · exact (h3 w g).imp (List.mem_cons_of_mem _) id
/-- so many names at most, each with a sheet -/
structure Shs (t : Nat) (ks vs : List D) : Prop where
  two : ks.length = vs.length
  few : ks.length ≤ t
  each : ∀ v ∈ vs, Sht v
section
variable {k t : Nat} {ks vs : List D} {s : LM.Sto} {y : Str} {z : D} {E : Ex → LM.Sto → Prop}
theorem dct_at {Q : Unit → LM.Sto → Prop} (hf : Hnd k [.dct ks vs] s) (q : Q () s) : (LM.dctAt (.tok 3)).wp Q E s := by
  obtain ⟨m, i, l, cs, _, _, rfl⟩ := hf
  exact ⟨_, rfl, q⟩
theorem ix_at {Q : D → LM.Sto → Prop} {d : D} (hf : Hnd k [.dct ks vs] s) (e : LM.dget ks vs (.str y) = some d) (q : Q d s) : (LM.ixS (.tok 3) (.str y)).wp Q E s := by
  obtain ⟨m, i, l, cs, _, _, rfl⟩ := hf
  refine ⟨_, rfl, ?_⟩
  show (optW (LM.dget ks vs (.str y))).wp _ _
  rw [e]
  exact q
theorem in_at {Q : D → LM.Sto → Prop} (hf : Hnd k [.dct ks vs] s) (q : Q (.bl (!(LM.dget ks vs (.str y)).isSome)) s) : (LM.inK true (.tok 3) (.str y)).wp Q E s := by
  obtain ⟨m, i, l, cs, _, _, rfl⟩ := hf
  refine ⟨_, rfl, ?_⟩
  show Q (.bl (true.xor (LM.dget ks vs (.str y)).isSome)) _
  rw [Bool.true_xor]
  exact q
theorem setd_at {Q : D → LM.Sto → Prop} (hs : Shs t ks vs) (ht : t ≤ 1000) (hz : Sht z) (hf : Hnd k [.dct ks vs] s) (q : ∀ d ks' vs' s', Shs (t + 1) ks' vs' → Hnd k [.dct ks' vs'] s' → (∃ w, LM.dget ks' vs' (.str y) = some w ∧ Sht w) → Q d s') : (LM.setdS (.tok 3) (.str y) z).wp Q E s := by
  obtain ⟨m, i, l, cs, h1, h2, rfl⟩ := hf
  have few := hs.few
  refine ⟨_, rfl, smallT (by omega), ?_⟩
  cases e : LM.dget ks vs (.str y) with
  | some u => exact q u ks vs _ ⟨hs.two, by omega, hs.each⟩ ⟨m, i, l, cs, h1, h2, rfl⟩ ⟨u, e, hs.each u (dget_mem e)⟩
  | none =>
    obtain ⟨p1, p2, p3⟩ := dput_len (y := .str y) (z := z) hs.two
    exact q z (LM.dputK ks (.str y)) (LM.dputV ks vs (.str y) z) _ ⟨p1, by omega, fun v hv => (p3 v hv).elim (hs.each v) fun w => by rw [w]; exact hz⟩ ⟨m, i, l, cs, h1, h2, rfl⟩ ⟨z, dput_at hs.two, hz⟩
end
/-! ### a deed -/
section
variable {k t : Nat} {ks vs : List D} {s : LM.Sto} {Q : D → LM.Sto → Prop} {E : Ex → LM.Sto → Prop}
theorem sdeed {menu : List D} (hm : menu.all txB = true) (m0 : menu ≠ []) (m1 : menu.length ≤ 20) (hs : Shs t ks vs) (ht : t ≤ 1000) (hf : Hnd k [.dct ks vs] s) (hn : k + 150 ≤ 1000000)
    (h : ∀ d ks' vs' s', Sz 64 6 9000 d → Shs (t + 1) ks' vs' → Hnd (k + 150) [.dct ks' vs'] s' → Q d s') : (fSDeed [.tok 1, .tok 3, .lst menu]).wp Q E s := by
  have mp := List.length_pos_iff.mpr m0
  have hs1 : Shs (t + 1) ks vs := ⟨hs.two, Nat.le_succ_of_le hs.few, hs.each⟩
  simp only [fSDeed, bSDeed, LM.M.bind_wp, LM.M.ret_wp, LM.M.lift_wp, LM.M.want_wp, LM.M.any_wp, LM.s_ite, LM.s_then, LM.s_end, LM.s_run, LM.s_calm, LM.s_fail, LM.alloc_wp, LM.asBM, LM.putM, LM.par2M.eq_1, W.bind_wp, W.ret_wp, W.want_wp, W.any_wp, s_ite, s_get0, s_get, s_then, s_end, s_run, s_calm, s_fail, s_start1, s_start2, s_start3, s_start4, s_start5, List.replicate, List.set_cons_zero, List.set_cons_succ, asB_bl, asS_str, Nat.reduceSub, Nat.reduceAdd, addW.eq_1, addW.eq_2, addW.eq_3, addW.eq_4, addW.eq_5, subW.eq_1, subW.eq_2, mulW.eq_1, mulW.eq_2, mulW.eq_3, intOp.eq_1, negW.eq_1, ordW.eq_1, ordW.eq_2, isW.eq_1, isntW.eq_1, ixW.eq_1, ixW.eq_2, ixW.eq_3, slW.eq_1, slW.eq_2, slW.eq_3, revTW.eq_1, revLW.eq_1, lenW.eq_1, lenW.eq_2, lenW.eq_3, tupleW.eq_1, tupleW.eq_2, listW.eq_1, listW.eq_2, min2W.eq_1, max2W.eq_1, strW.eq_1, strW.eq_2, joinW.eq_1, joinW.eq_2, walkLW.eq_1, walkTW.eq_1, walkSW.eq_1, range1W.eq_1, zipW.eq_1, zipW.eq_2, tupG.eq_1, gsW.eq_1, gsW.eq_2, par2.eq_1, extW.eq_1, extW.eq_2, partW.eq_1, optW.eq_1, optW.eq_2, modW, fdivW, powW, ltW, leW, gtW, geW, isNone, isi_non, isi_bl, isi_int, isi_str, isi_tup, isi_lst, upperW, putW, appW, tupW, lstW, asB_bl, String.reduceBEq, beq_self_eq_true, Bool.or_true, Bool.true_or, Bool.or_false, Bool.false_or, Bool.and_true, Bool.true_and, Bool.and_false, Bool.false_and, Bool.not_true, Bool.not_false, forall_const, true_implies, true_and, and_true, false_implies, reduceCtorEq, List.length_cons, List.length_nil, forall_eq, imp_self, implies_true, if_true, if_false, Bool.false_eq_true, Bool.true_eq_false]
  refine dip (by omega) (by omega) hf (by omega) fun x s1 x0 x1 h1 => ?_
  refine at_tx hm x0 x1 fun w hw => ?_
  simp only [bSDeed_6, LM.M.bind_wp, LM.M.ret_wp, LM.M.lift_wp, LM.M.want_wp, LM.M.any_wp, LM.s_ite, LM.s_then, LM.s_end, LM.s_run, LM.s_calm, LM.s_fail, LM.alloc_wp, LM.asBM, LM.putM, LM.par2M.eq_1, W.bind_wp, W.ret_wp, W.want_wp, W.any_wp, s_ite, s_get0, s_get, s_then, s_end, s_run, s_calm, s_fail, s_start1, s_start2, s_start3, s_start4, s_start5, List.replicate, List.set_cons_zero, List.set_cons_succ, asB_bl, asS_str, Nat.reduceSub, Nat.reduceAdd, addW.eq_1, addW.eq_2, addW.eq_3, addW.eq_4, addW.eq_5, subW.eq_1, subW.eq_2, mulW.eq_1, mulW.eq_2, mulW.eq_3, intOp.eq_1, negW.eq_1, ordW.eq_1, ordW.eq_2, isW.eq_1, isntW.eq_1, ixW.eq_1, ixW.eq_2, ixW.eq_3, slW.eq_1, slW.eq_2, slW.eq_3, revTW.eq_1, revLW.eq_1, lenW.eq_1, lenW.eq_2, lenW.eq_3, tupleW.eq_1, tupleW.eq_2, listW.eq_1, listW.eq_2, min2W.eq_1, max2W.eq_1, strW.eq_1, strW.eq_2, joinW.eq_1, joinW.eq_2, walkLW.eq_1, walkTW.eq_1, walkSW.eq_1, range1W.eq_1, zipW.eq_1, zipW.eq_2, tupG.eq_1, gsW.eq_1, gsW.eq_2, par2.eq_1, extW.eq_1, extW.eq_2, partW.eq_1, optW.eq_1, optW.eq_2, modW, fdivW, powW, ltW, leW, gtW, geW, isNone, isi_non, isi_bl, isi_int, isi_str, isi_tup, isi_lst, upperW, putW, appW, tupW, lstW, asB_bl, String.reduceBEq, beq_self_eq_true, Bool.or_true, Bool.true_or, Bool.or_false, Bool.false_or, Bool.and_true, Bool.true_and, Bool.and_false, Bool.false_and, Bool.not_true, Bool.not_false, forall_const, true_implies, true_and, and_true, false_implies, reduceCtorEq, List.length_cons, List.length_nil, forall_eq, imp_self, implies_true, if_true, if_false, Bool.false_eq_true, Bool.true_eq_false]
  refine ⟨by decide, ?_⟩
  refine dip (by decide) (by decide) h1 (by omega) fun x s1 x0 x1 h1 => ?_
  refine at_tx (by decide +kernel) x0 x1 fun y hy => ?_
  simp only [bSDeed_5, eqW_str, neW_str, LM.M.bind_wp, LM.M.ret_wp, LM.M.lift_wp, LM.M.want_wp, LM.M.any_wp, LM.s_ite, LM.s_then, LM.s_end, LM.s_run, LM.s_calm, LM.s_fail, LM.alloc_wp, LM.asBM, LM.putM, LM.par2M.eq_1, W.bind_wp, W.ret_wp, W.want_wp, W.any_wp, s_ite, s_get0, s_get, s_then, s_end, s_run, s_calm, s_fail, s_start1, s_start2, s_start3, s_start4, s_start5, List.replicate, List.set_cons_zero, List.set_cons_succ, asB_bl, asS_str, Nat.reduceSub, Nat.reduceAdd, addW.eq_1, addW.eq_2, addW.eq_3, addW.eq_4, addW.eq_5, subW.eq_1, subW.eq_2, mulW.eq_1, mulW.eq_2, mulW.eq_3, intOp.eq_1, negW.eq_1, ordW.eq_1, ordW.eq_2, isW.eq_1, isntW.eq_1, ixW.eq_1, ixW.eq_2, ixW.eq_3, slW.eq_1, slW.eq_2, slW.eq_3, revTW.eq_1, revLW.eq_1, lenW.eq_1, lenW.eq_2, lenW.eq_3, tupleW.eq_1, tupleW.eq_2, listW.eq_1, listW.eq_2, min2W.eq_1, max2W.eq_1, strW.eq_1, strW.eq_2, joinW.eq_1, joinW.eq_2, walkLW.eq_1, walkTW.eq_1, walkSW.eq_1, range1W.eq_1, zipW.eq_1, zipW.eq_2, tupG.eq_1, gsW.eq_1, gsW.eq_2, par2.eq_1, extW.eq_1, extW.eq_2, partW.eq_1, optW.eq_1, optW.eq_2, modW, fdivW, powW, ltW, leW, gtW, geW, isNone, isi_non, isi_bl, isi_int, isi_str, isi_tup, isi_lst, upperW, putW, appW, tupW, lstW, asB_bl, String.reduceBEq, beq_self_eq_true, Bool.or_true, Bool.true_or, Bool.or_false, Bool.false_or, Bool.and_true, Bool.true_and, Bool.and_false, Bool.false_and, Bool.not_true, Bool.not_false, forall_const, true_implies, true_and, and_true, false_implies, reduceCtorEq, List.length_cons, List.length_nil, forall_eq, imp_self, implies_true, if_true, if_false, Bool.false_eq_true, Bool.true_eq_false]
  refine ⟨fun _ => ?_, fun _ => ?_⟩
  · refine srows (by decide) (by decide) h1 (by omega) fun a s1 ha h1 => ?_
    refine srows (by decide) (by decide) h1 (by omega) fun b s1 hb h1 => ?_
    refine ⟨by decide, h _ ks vs s1 ?_ hs1 (h1.mono (by omega))⟩
    have : Szs 64 2 _ [D.str (Str.ofString "open"), a, b] := Szs.cons ((sz_tx (by decide +kernel)).mono (Nat.le_refl _) (by decide) (Nat.le_refl _)) (Szs.cons ha (Szs.cons hb (Szs.nil (n := 0))))
    exact (Sz.tup this).mono (Nat.le_refl _) (by decide) (by decide)
  have beg : ∀ {K : Fl → LM.Sto → Prop}, (∀ d s', Q d s' → K (.rt d) s') → (bSDeed_1 [some (.tok 1), some (.tok 3), some (.lst menu), some (.str w), some (.str y), none]).wp K E s1 := fun {K} hK => by
    simp only [bSDeed_1, LM.M.bind_wp, LM.M.ret_wp, LM.M.lift_wp, LM.M.want_wp, LM.M.any_wp, LM.s_ite, LM.s_then, LM.s_end, LM.s_run, LM.s_calm, LM.s_fail, LM.alloc_wp, LM.asBM, LM.putM, LM.par2M.eq_1, W.bind_wp, W.ret_wp, W.want_wp, W.any_wp, s_ite, s_get0, s_get, s_then, s_end, s_run, s_calm, s_fail, s_start1, s_start2, s_start3, s_start4, s_start5, List.replicate, List.set_cons_zero, List.set_cons_succ, asB_bl, asS_str, Nat.reduceSub, Nat.reduceAdd, addW.eq_1, addW.eq_2, addW.eq_3, addW.eq_4, addW.eq_5, subW.eq_1, subW.eq_2, mulW.eq_1, mulW.eq_2, mulW.eq_3, intOp.eq_1, negW.eq_1, ordW.eq_1, ordW.eq_2, isW.eq_1, isntW.eq_1, ixW.eq_1, ixW.eq_2, ixW.eq_3, slW.eq_1, slW.eq_2, slW.eq_3, revTW.eq_1, revLW.eq_1, lenW.eq_1, lenW.eq_2, lenW.eq_3, tupleW.eq_1, tupleW.eq_2, listW.eq_1, listW.eq_2, min2W.eq_1, max2W.eq_1, strW.eq_1, strW.eq_2, joinW.eq_1, joinW.eq_2, walkLW.eq_1, walkTW.eq_1, walkSW.eq_1, range1W.eq_1, zipW.eq_1, zipW.eq_2, tupG.eq_1, gsW.eq_1, gsW.eq_2, par2.eq_1, extW.eq_1, extW.eq_2, partW.eq_1, optW.eq_1, optW.eq_2, modW, fdivW, powW, ltW, leW, gtW, geW, isNone, isi_non, isi_bl, isi_int, isi_str, isi_tup, isi_lst, upperW, putW, appW, tupW, lstW, asB_bl, String.reduceBEq, beq_self_eq_true, Bool.or_true, Bool.true_or, Bool.or_false, Bool.false_or, Bool.and_true, Bool.true_and, Bool.and_false, Bool.false_and, Bool.not_true, Bool.not_false, forall_const, true_implies, true_and, and_true, false_implies, reduceCtorEq, List.length_cons, List.length_nil, forall_eq, imp_self, implies_true, if_true, if_false, Bool.false_eq_true, Bool.true_eq_false]
    refine dct_at h1 ?_
    refine ssheet h1 (by omega) fun z s2 hz h2 => ?_
    refine setd_at hs ht hz h2 fun _ ks' vs' s3 hs3 h3 ⟨v, ev, hv⟩ => ?_
    refine ix_at h3 ev ?_
    refine ⟨by decide, hK _ _ (h _ ks' vs' s3 ?_ hs3 (h3.mono (by omega)))⟩
    have : Szs 64 5 _ [D.str (Str.ofString "begin"), .str y, v] := Szs.cons ((sz_tx (by decide +kernel)).mono (Nat.le_refl _) (by decide) (Nat.le_refl _)) (Szs.cons ((sz_tx hy).mono (Nat.le_refl _) (by decide) (Nat.le_refl _)) (Szs.cons hv.sz (Szs.nil (n := 0))))
    exact (Sz.tup this).mono (Nat.le_refl _) (by decide) (by decide)
  have rest : (w = "lay" ∨ w = "off" → ∃ v, LM.dget ks vs (.str y) = some v) → (bSDeed_3 [some (.tok 1), some (.tok 3), some (.lst menu), some (.str w), some (.str y), none]).wp (Fin Q E) E s1 := fun hin => by
    simp only [bSDeed_3, eqW_str, neW_str, LM.M.bind_wp, LM.M.ret_wp, LM.M.lift_wp, LM.M.want_wp, LM.M.any_wp, LM.s_ite, LM.s_then, LM.s_end, LM.s_run, LM.s_calm, LM.s_fail, LM.alloc_wp, LM.asBM, LM.putM, LM.par2M.eq_1, W.bind_wp, W.ret_wp, W.want_wp, W.any_wp, s_ite, s_get0, s_get, s_then, s_end, s_run, s_calm, s_fail, s_start1, s_start2, s_start3, s_start4, s_start5, List.replicate, List.set_cons_zero, List.set_cons_succ, asB_bl, asS_str, Nat.reduceSub, Nat.reduceAdd, addW.eq_1, addW.eq_2, addW.eq_3, addW.eq_4, addW.eq_5, subW.eq_1, subW.eq_2, mulW.eq_1, mulW.eq_2, mulW.eq_3, intOp.eq_1, negW.eq_1, ordW.eq_1, ordW.eq_2, isW.eq_1, isntW.eq_1, ixW.eq_1, ixW.eq_2, ixW.eq_3, slW.eq_1, slW.eq_2, slW.eq_3, revTW.eq_1, revLW.eq_1, lenW.eq_1, lenW.eq_2, lenW.eq_3, tupleW.eq_1, tupleW.eq_2, listW.eq_1, listW.eq_2, min2W.eq_1, max2W.eq_1, strW.eq_1, strW.eq_2, joinW.eq_1, joinW.eq_2, walkLW.eq_1, walkTW.eq_1, walkSW.eq_1, range1W.eq_1, zipW.eq_1, zipW.eq_2, tupG.eq_1, gsW.eq_1, gsW.eq_2, par2.eq_1, extW.eq_1, extW.eq_2, partW.eq_1, optW.eq_1, optW.eq_2, modW, fdivW, powW, ltW, leW, gtW, geW, isNone, isi_non, isi_bl, isi_int, isi_str, isi_tup, isi_lst, upperW, putW, appW, tupW, lstW, asB_bl, String.reduceBEq, beq_self_eq_true, Bool.or_true, Bool.true_or, Bool.or_false, Bool.false_or, Bool.and_true, Bool.true_and, Bool.and_false, Bool.false_and, Bool.not_true, Bool.not_false, forall_const, true_implies, true_and, and_true, false_implies, reduceCtorEq, List.length_cons, List.length_nil, forall_eq, imp_self, implies_true, if_true, if_false, Bool.false_eq_true, Bool.true_eq_false]
    have lay : (w = "lay" ∨ w = "off") → (LM.ixS (.tok 3) (.str y)).wp (fun a s' => (fSLaying [.tok 1, .str y, a]).wp (fun a s' => Q a s') E s') E s1 := fun hw => by
      obtain ⟨v, ev⟩ := hin hw
      refine ix_at h1 ev ?_
      exact slaying hy (hs.each v (dget_mem ev)) h1 (by omega) fun d s2 hd h2 => h d ks vs s2 (hd.mono (Nat.le_refl _) (by decide) (by decide)) hs1 (h2.mono (by omega))
    refine ⟨fun z => lay (.inl (beq_iff_eq.mp z)), fun _ => ⟨fun z => lay (.inr (beq_iff_eq.mp z)), fun _ => ?_⟩⟩
    simp only [bSDeed_2, eqW_str, LM.M.bind_wp, LM.M.ret_wp, LM.M.lift_wp, LM.M.want_wp, LM.M.any_wp, LM.s_ite, LM.s_then, LM.s_end, LM.s_run, LM.s_calm, LM.s_fail, LM.alloc_wp, LM.asBM, LM.putM, LM.par2M.eq_1, W.bind_wp, W.ret_wp, W.want_wp, W.any_wp, s_ite, s_get0, s_get, s_then, s_end, s_run, s_calm, s_fail, s_start1, s_start2, s_start3, s_start4, s_start5, List.replicate, List.set_cons_zero, List.set_cons_succ, asB_bl, asS_str, Nat.reduceSub, Nat.reduceAdd, addW.eq_1, addW.eq_2, addW.eq_3, addW.eq_4, addW.eq_5, subW.eq_1, subW.eq_2, mulW.eq_1, mulW.eq_2, mulW.eq_3, intOp.eq_1, negW.eq_1, ordW.eq_1, ordW.eq_2, isW.eq_1, isntW.eq_1, ixW.eq_1, ixW.eq_2, ixW.eq_3, slW.eq_1, slW.eq_2, slW.eq_3, revTW.eq_1, revLW.eq_1, lenW.eq_1, lenW.eq_2, lenW.eq_3, tupleW.eq_1, tupleW.eq_2, listW.eq_1, listW.eq_2, min2W.eq_1, max2W.eq_1, strW.eq_1, strW.eq_2, joinW.eq_1, joinW.eq_2, walkLW.eq_1, walkTW.eq_1, walkSW.eq_1, range1W.eq_1, zipW.eq_1, zipW.eq_2, tupG.eq_1, gsW.eq_1, gsW.eq_2, par2.eq_1, extW.eq_1, extW.eq_2, partW.eq_1, optW.eq_1, optW.eq_2, modW, fdivW, powW, ltW, leW, gtW, geW, isNone, isi_non, isi_bl, isi_int, isi_str, isi_tup, isi_lst, upperW, putW, appW, tupW, lstW, asB_bl, String.reduceBEq, beq_self_eq_true, Bool.or_true, Bool.true_or, Bool.or_false, Bool.false_or, Bool.and_true, Bool.true_and, Bool.and_false, Bool.false_and, Bool.not_true, Bool.not_false, forall_const, true_implies, true_and, and_true, false_implies, reduceCtorEq, List.length_cons, List.length_nil, forall_eq, imp_self, implies_true, if_true, if_false, Bool.false_eq_true, Bool.true_eq_false]
    refine ⟨by decide, ?_⟩
    refine dip (by decide) (by decide) h1 (by omega) fun x s1 x0 x1 h1 => ?_
    refine at_nu (a := 1) (m := 2) (by decide +kernel) x0 x1 fun c c0 c1 => ?_
    refine srows (by omega) (by omega) h1 (by omega) fun a s1 ha h1 => ?_
    have fin : ∀ {u : Str} {s2 : LM.Sto}, u.length ≤ 8 → Hnd (k + 150) [.dct ks vs] s2 → Q (.tup [.str w, .str u, a]) s2 := fun {u s2} hu h2 => by
      refine h _ ks vs s2 ?_ hs1 h2
      have : Szs 64 2 _ [D.str w, .str u, a] := Szs.cons ((sz_tx hw).mono (Nat.le_refl _) (by decide) (Nat.le_refl _)) (Szs.cons ((sz_tx hu).mono (Nat.le_refl _) (by decide) (Nat.le_refl _)) (Szs.cons ha (Szs.nil (n := 0))))
      exact (Sz.tup this).mono (Nat.le_refl _) (by decide) (by decide)
    refine ⟨fun _ => ⟨by decide, fin hy (h1.mono (by omega))⟩, fun _ => ⟨by decide, ?_⟩⟩
    refine dip (by decide) (by decide) h1 (by omega) fun x s1 x0 x1 h1 => ?_
    refine at_tx (by decide +kernel) x0 x1 fun u hu => ?_
    exact ⟨by decide, fin hu (h1.mono (by omega))⟩
  simp only [bSDeed_4, eqW_str, neW_str, LM.M.bind_wp, LM.M.ret_wp, LM.M.lift_wp, LM.M.want_wp, LM.M.any_wp, LM.s_ite, LM.s_then, LM.s_end, LM.s_run, LM.s_calm, LM.s_fail, LM.alloc_wp, LM.asBM, LM.putM, LM.par2M.eq_1, W.bind_wp, W.ret_wp, W.want_wp, W.any_wp, s_ite, s_get0, s_get, s_then, s_end, s_run, s_calm, s_fail, s_start1, s_start2, s_start3, s_start4, s_start5, List.replicate, List.set_cons_zero, List.set_cons_succ, asB_bl, asS_str, Nat.reduceSub, Nat.reduceAdd, addW.eq_1, addW.eq_2, addW.eq_3, addW.eq_4, addW.eq_5, subW.eq_1, subW.eq_2, mulW.eq_1, mulW.eq_2, mulW.eq_3, intOp.eq_1, negW.eq_1, ordW.eq_1, ordW.eq_2, isW.eq_1, isntW.eq_1, ixW.eq_1, ixW.eq_2, ixW.eq_3, slW.eq_1, slW.eq_2, slW.eq_3, revTW.eq_1, revLW.eq_1, lenW.eq_1, lenW.eq_2, lenW.eq_3, tupleW.eq_1, tupleW.eq_2, listW.eq_1, listW.eq_2, min2W.eq_1, max2W.eq_1, strW.eq_1, strW.eq_2, joinW.eq_1, joinW.eq_2, walkLW.eq_1, walkTW.eq_1, walkSW.eq_1, range1W.eq_1, zipW.eq_1, zipW.eq_2, tupG.eq_1, gsW.eq_1, gsW.eq_2, par2.eq_1, extW.eq_1, extW.eq_2, partW.eq_1, optW.eq_1, optW.eq_2, modW, fdivW, powW, ltW, leW, gtW, geW, isNone, isi_non, isi_bl, isi_int, isi_str, isi_tup, isi_lst, upperW, putW, appW, tupW, lstW, asB_bl, String.reduceBEq, beq_self_eq_true, Bool.or_true, Bool.true_or, Bool.or_false, Bool.false_or, Bool.and_true, Bool.true_and, Bool.and_false, Bool.false_and, Bool.not_true, Bool.not_false, forall_const, true_implies, true_and, and_true, false_implies, reduceCtorEq, List.length_cons, List.length_nil, forall_eq, imp_self, implies_true, if_true, if_false, Bool.false_eq_true, Bool.true_eq_false]
  have no : ∀ {u v : Str}, u ≠ v → w = u → (w == v) = false := fun h e => by rw [e]; exact beq_eq_false_iff_ne.mpr h
  refine ⟨fun _ => beg fun d s' q => q, fun _ => ⟨fun z1 => ⟨fun z2 => ?_, fun z2 => rest fun hin => ?_⟩, fun z1 => rest fun hin => ?_⟩⟩
  · refine in_at h1 ?_
    simp only [LM.M.bind_wp, LM.M.ret_wp, LM.M.lift_wp, LM.M.want_wp, LM.M.any_wp, LM.s_ite, LM.s_then, LM.s_end, LM.s_run, LM.s_calm, LM.s_fail, LM.alloc_wp, LM.asBM, LM.putM, LM.par2M.eq_1, W.bind_wp, W.ret_wp, W.want_wp, W.any_wp, s_ite, s_get0, s_get, s_then, s_end, s_run, s_calm, s_fail, s_start1, s_start2, s_start3, s_start4, s_start5, List.replicate, List.set_cons_zero, List.set_cons_succ, asB_bl, asS_str, Nat.reduceSub, Nat.reduceAdd, addW.eq_1, addW.eq_2, addW.eq_3, addW.eq_4, addW.eq_5, subW.eq_1, subW.eq_2, mulW.eq_1, mulW.eq_2, mulW.eq_3, intOp.eq_1, negW.eq_1, ordW.eq_1, ordW.eq_2, isW.eq_1, isntW.eq_1, ixW.eq_1, ixW.eq_2, ixW.eq_3, slW.eq_1, slW.eq_2, slW.eq_3, revTW.eq_1, revLW.eq_1, lenW.eq_1, lenW.eq_2, lenW.eq_3, tupleW.eq_1, tupleW.eq_2, listW.eq_1, listW.eq_2, min2W.eq_1, max2W.eq_1, strW.eq_1, strW.eq_2, joinW.eq_1, joinW.eq_2, walkLW.eq_1, walkTW.eq_1, walkSW.eq_1, range1W.eq_1, zipW.eq_1, zipW.eq_2, tupG.eq_1, gsW.eq_1, gsW.eq_2, par2.eq_1, extW.eq_1, extW.eq_2, partW.eq_1, optW.eq_1, optW.eq_2, modW, fdivW, powW, ltW, leW, gtW, geW, isNone, isi_non, isi_bl, isi_int, isi_str, isi_tup, isi_lst, upperW, putW, appW, tupW, lstW, asB_bl, String.reduceBEq, beq_self_eq_true, Bool.or_true, Bool.true_or, Bool.or_false, Bool.false_or, Bool.and_true, Bool.true_and, Bool.and_false, Bool.false_and, Bool.not_true, Bool.not_false, forall_const, true_implies, true_and, and_true, false_implies, reduceCtorEq, List.length_cons, List.length_nil, forall_eq, imp_self, implies_true, if_true, if_false, Bool.false_eq_true, Bool.true_eq_false]
    refine ⟨fun _ => beg fun d s' q => q, fun z => rest fun _ => ?_⟩
    exact Option.isSome_iff_exists.mp (by simpa using z)
  · exfalso
    have e : w = "bring" := beq_iff_eq.mp (by simpa using z2)
    rcases hin with h | h <;> exact absurd (h.symm.trans e) (by decide +kernel)
  · exfalso
    have e : w = "lend" := beq_iff_eq.mp (by simpa using z1)
    rcases hin with h | h <;> exact absurd (h.symm.trans e) (by decide +kernel)
end
/-! ### a tale -/
/-- the pages drawn: hour, number, deed -/
structure Pgs (t : Nat) (L : List D) : Prop where
  len : L.length = t
  at_ : ∀ (j : Nat) (d : D), L[j]? = some d → ∃ (c : Int) (e : D), d = D.tup [D.int c, D.int (j : Int), e] ∧ 0 ≤ c ∧ c ≤ 2 + 300 * t ∧ Sz 64 6 9000 e
theorem Pgs.snoc {t : Nat} {L : List D} {c : Int} {e : D} (h : Pgs t L) (c0 : 0 ≤ c) (c1 : c ≤ 2 + 300 * ((t + 1 : Nat) : Int)) (he : Sz 64 6 9000 e) : Pgs (t + 1) (L ++ [.tup [.int c, .int (t : Int), e]]) := by
  refine ⟨by rw [List.length_append, h.len]; rfl, fun j d hd => ?_⟩
  by_cases z : j < L.length
  · rw [List.getElem?_append_left z] at hd
    obtain ⟨c', e', e1, a, b, q⟩ := h.at_ j d hd
    exact ⟨c', e', e1, a, by omega, q⟩
  · rw [List.getElem?_append_right (by omega)] at hd
    have lt := (List.getElem?_eq_some_iff.mp hd).1
    have : j = t := by rw [List.length_singleton] at lt; have := h.len; omega
    subst this
    rw [h.len, Nat.sub_self] at hd
    cases hd
    exact ⟨c, e, rfl, c0, c1, he⟩
section
variable {k : Nat} {s : LM.Sto} {Q : D → LM.Sto → Prop} {E : Ex → LM.Sto → Prop}
theorem stale {menu : List D} (hm : menu.all txB = true) (m0 : menu ≠ []) (m1 : menu.length ≤ 20) (hf : Hnd k [] s) (hn : k + 3000 ≤ 1000000)
    (h : ∀ L t ks vs s', t ≤ 13 → 1 ≤ t → Pgs t L → Hnd (k + 3000) [.dct ks vs] s' → Q (.lst L) s') : (fSTale [.tok 1, .int 12, .lst menu]).wp Q E s := by
  simp only [fSTale, bSTale, LM.M.bind_wp, LM.M.ret_wp, LM.M.lift_wp, LM.M.want_wp, LM.M.any_wp, LM.s_ite, LM.s_then, LM.s_end, LM.s_run, LM.s_calm, LM.s_fail, LM.alloc_wp, LM.asBM, LM.putM, LM.par2M.eq_1, W.bind_wp, W.ret_wp, W.want_wp, W.any_wp, s_ite, s_get0, s_get, s_then, s_end, s_run, s_calm, s_fail, s_start1, s_start2, s_start3, s_start4, s_start5, List.replicate, List.set_cons_zero, List.set_cons_succ, asB_bl, asS_str, Nat.reduceSub, Nat.reduceAdd, addW.eq_1, addW.eq_2, addW.eq_3, addW.eq_4, addW.eq_5, subW.eq_1, subW.eq_2, mulW.eq_1, mulW.eq_2, mulW.eq_3, intOp.eq_1, negW.eq_1, ordW.eq_1, ordW.eq_2, isW.eq_1, isntW.eq_1, ixW.eq_1, ixW.eq_2, ixW.eq_3, slW.eq_1, slW.eq_2, slW.eq_3, revTW.eq_1, revLW.eq_1, lenW.eq_1, lenW.eq_2, lenW.eq_3, tupleW.eq_1, tupleW.eq_2, listW.eq_1, listW.eq_2, min2W.eq_1, max2W.eq_1, strW.eq_1, strW.eq_2, joinW.eq_1, joinW.eq_2, walkLW.eq_1, walkTW.eq_1, walkSW.eq_1, range1W.eq_1, zipW.eq_1, zipW.eq_2, tupG.eq_1, gsW.eq_1, gsW.eq_2, par2.eq_1, extW.eq_1, extW.eq_2, partW.eq_1, optW.eq_1, optW.eq_2, modW, fdivW, powW, ltW, leW, gtW, geW, isNone, isi_non, isi_bl, isi_int, isi_str, isi_tup, isi_lst, upperW, putW, appW, tupW, lstW, asB_bl, String.reduceBEq, beq_self_eq_true, Bool.or_true, Bool.true_or, Bool.or_false, Bool.false_or, Bool.and_true, Bool.true_and, Bool.and_false, Bool.false_and, Bool.not_true, Bool.not_false, forall_const, true_implies, true_and, and_true, false_implies, reduceCtorEq, List.length_cons, List.length_nil, forall_eq, imp_self, implies_true, if_true, if_false, Bool.false_eq_true, Bool.true_eq_false]
  obtain ⟨m, i, l, cs, hm1, hi, rfl⟩ := hf
  have e3 : List.length (tapS i l (m : Int) cs []) + 1 = 3 := rfl
  rw [e3]
  have h0 : Hnd k [.dct [] []] ((tapS i l (m : Int) cs [] : List D) ++ [D.dct [] []]) := ⟨m, i, l, cs, hm1, hi, rfl⟩
  generalize ((tapS i l (m : Int) cs [] : List D) ++ [D.dct [] []]) = s at h0
  refine dip (by decide) (by decide) h0 (by omega) fun c s1 c0 c1 h1 => ?_
  simp only [bSTale_6, LM.M.bind_wp, LM.M.ret_wp, LM.M.lift_wp, LM.M.want_wp, LM.M.any_wp, LM.s_ite, LM.s_then, LM.s_end, LM.s_run, LM.s_calm, LM.s_fail, LM.alloc_wp, LM.asBM, LM.putM, LM.par2M.eq_1, W.bind_wp, W.ret_wp, W.want_wp, W.any_wp, s_ite, s_get0, s_get, s_then, s_end, s_run, s_calm, s_fail, s_start1, s_start2, s_start3, s_start4, s_start5, List.replicate, List.set_cons_zero, List.set_cons_succ, asB_bl, asS_str, Nat.reduceSub, Nat.reduceAdd, addW.eq_1, addW.eq_2, addW.eq_3, addW.eq_4, addW.eq_5, subW.eq_1, subW.eq_2, mulW.eq_1, mulW.eq_2, mulW.eq_3, intOp.eq_1, negW.eq_1, ordW.eq_1, ordW.eq_2, isW.eq_1, isntW.eq_1, ixW.eq_1, ixW.eq_2, ixW.eq_3, slW.eq_1, slW.eq_2, slW.eq_3, revTW.eq_1, revLW.eq_1, lenW.eq_1, lenW.eq_2, lenW.eq_3, tupleW.eq_1, tupleW.eq_2, listW.eq_1, listW.eq_2, min2W.eq_1, max2W.eq_1, strW.eq_1, strW.eq_2, joinW.eq_1, joinW.eq_2, walkLW.eq_1, walkTW.eq_1, walkSW.eq_1, range1W.eq_1, zipW.eq_1, zipW.eq_2, tupG.eq_1, gsW.eq_1, gsW.eq_2, par2.eq_1, extW.eq_1, extW.eq_2, partW.eq_1, optW.eq_1, optW.eq_2, modW, fdivW, powW, ltW, leW, gtW, geW, isNone, isi_non, isi_bl, isi_int, isi_str, isi_tup, isi_lst, upperW, putW, appW, tupW, lstW, asB_bl, String.reduceBEq, beq_self_eq_true, Bool.or_true, Bool.true_or, Bool.or_false, Bool.false_or, Bool.and_true, Bool.true_and, Bool.and_false, Bool.false_and, Bool.not_true, Bool.not_false, forall_const, true_implies, true_and, and_true, false_implies, reduceCtorEq, List.length_cons, List.length_nil, forall_eq, imp_self, implies_true, if_true, if_false, Bool.false_eq_true, Bool.true_eq_false]
  refine LM.lc_wp ?_
  simp only [LM.M.bind_wp, LM.M.ret_wp, LM.M.lift_wp, LM.M.want_wp, LM.M.any_wp, LM.s_ite, LM.s_then, LM.s_end, LM.s_run, LM.s_calm, LM.s_fail, LM.alloc_wp, LM.asBM, LM.putM, LM.par2M.eq_1, W.bind_wp, W.ret_wp, W.want_wp, W.any_wp, s_ite, s_get0, s_get, s_then, s_end, s_run, s_calm, s_fail, s_start1, s_start2, s_start3, s_start4, s_start5, List.replicate, List.set_cons_zero, List.set_cons_succ, asB_bl, asS_str, Nat.reduceSub, Nat.reduceAdd, addW.eq_1, addW.eq_2, addW.eq_3, addW.eq_4, addW.eq_5, subW.eq_1, subW.eq_2, mulW.eq_1, mulW.eq_2, mulW.eq_3, intOp.eq_1, negW.eq_1, ordW.eq_1, ordW.eq_2, isW.eq_1, isntW.eq_1, ixW.eq_1, ixW.eq_2, ixW.eq_3, slW.eq_1, slW.eq_2, slW.eq_3, revTW.eq_1, revLW.eq_1, lenW.eq_1, lenW.eq_2, lenW.eq_3, tupleW.eq_1, tupleW.eq_2, listW.eq_1, listW.eq_2, min2W.eq_1, max2W.eq_1, strW.eq_1, strW.eq_2, joinW.eq_1, joinW.eq_2, walkLW.eq_1, walkTW.eq_1, walkSW.eq_1, range1W.eq_1, zipW.eq_1, zipW.eq_2, tupG.eq_1, gsW.eq_1, gsW.eq_2, par2.eq_1, extW.eq_1, extW.eq_2, partW.eq_1, optW.eq_1, optW.eq_2, modW, fdivW, powW, ltW, leW, gtW, geW, isNone, isi_non, isi_bl, isi_int, isi_str, isi_tup, isi_lst, upperW, putW, appW, tupW, lstW, asB_bl, String.reduceBEq, beq_self_eq_true, Bool.or_true, Bool.true_or, Bool.or_false, Bool.false_or, Bool.and_true, Bool.true_and, Bool.and_false, Bool.false_and, Bool.not_true, Bool.not_false, forall_const, true_implies, true_and, and_true, false_implies, reduceCtorEq, List.length_cons, List.length_nil, forall_eq, imp_self, implies_true, if_true, if_false, Bool.false_eq_true, Bool.true_eq_false]
  refine ⟨by decide, fun v acc s => Szs 64 1 (252 * v) acc ∧ acc.length = v ∧ Hnd (k + 1 + v) [.dct [] []] s, ⟨Szs.nil, rfl, h1⟩, ?_, ?_⟩
  · rintro v d acc s2 hd ⟨ha, hl, hs2⟩
    obtain ⟨y, rfl, hy⟩ := txB_at (List.all_eq_true.mp (show ([D.str (Str.ofString "a"), D.str (Str.ofString "brick"), D.str (Str.ofString "plate")].all txB) = true by decide +kernel) d (List.mem_of_getElem? hd))
    have hv := (List.getElem?_eq_some_iff.mp hd).1
    have hv : v < 3 := hv
    simp only [LM.M.bind_wp, LM.M.ret_wp, LM.M.lift_wp, LM.M.want_wp, LM.M.any_wp, LM.s_ite, LM.s_then, LM.s_end, LM.s_run, LM.s_calm, LM.s_fail, LM.alloc_wp, LM.asBM, LM.putM, LM.par2M.eq_1, W.bind_wp, W.ret_wp, W.want_wp, W.any_wp, s_ite, s_get0, s_get, s_then, s_end, s_run, s_calm, s_fail, s_start1, s_start2, s_start3, s_start4, s_start5, List.replicate, List.set_cons_zero, List.set_cons_succ, asB_bl, asS_str, Nat.reduceSub, Nat.reduceAdd, addW.eq_1, addW.eq_2, addW.eq_3, addW.eq_4, addW.eq_5, subW.eq_1, subW.eq_2, mulW.eq_1, mulW.eq_2, mulW.eq_3, intOp.eq_1, negW.eq_1, ordW.eq_1, ordW.eq_2, isW.eq_1, isntW.eq_1, ixW.eq_1, ixW.eq_2, ixW.eq_3, slW.eq_1, slW.eq_2, slW.eq_3, revTW.eq_1, revLW.eq_1, lenW.eq_1, lenW.eq_2, lenW.eq_3, tupleW.eq_1, tupleW.eq_2, listW.eq_1, listW.eq_2, min2W.eq_1, max2W.eq_1, strW.eq_1, strW.eq_2, joinW.eq_1, joinW.eq_2, walkLW.eq_1, walkTW.eq_1, walkSW.eq_1, range1W.eq_1, zipW.eq_1, zipW.eq_2, tupG.eq_1, gsW.eq_1, gsW.eq_2, par2.eq_1, extW.eq_1, extW.eq_2, partW.eq_1, optW.eq_1, optW.eq_2, modW, fdivW, powW, ltW, leW, gtW, geW, isNone, isi_non, isi_bl, isi_int, isi_str, isi_tup, isi_lst, upperW, putW, appW, tupW, lstW, asB_bl, String.reduceBEq, beq_self_eq_true, Bool.or_true, Bool.true_or, Bool.or_false, Bool.false_or, Bool.and_true, Bool.true_and, Bool.and_false, Bool.false_and, Bool.not_true, Bool.not_false, forall_const, true_implies, true_and, and_true, false_implies, reduceCtorEq, List.length_cons, List.length_nil, forall_eq, imp_self, implies_true, if_true, if_false, Bool.false_eq_true, Bool.true_eq_false]
    refine dip (by decide) (by decide) hs2 (by omega) fun x s3 x0 x1 h3 => ?_
    simp only [LM.M.bind_wp, LM.M.ret_wp, LM.M.lift_wp, LM.M.want_wp, LM.M.any_wp, LM.s_ite, LM.s_then, LM.s_end, LM.s_run, LM.s_calm, LM.s_fail, LM.alloc_wp, LM.asBM, LM.putM, LM.par2M.eq_1, W.bind_wp, W.ret_wp, W.want_wp, W.any_wp, s_ite, s_get0, s_get, s_then, s_end, s_run, s_calm, s_fail, s_start1, s_start2, s_start3, s_start4, s_start5, List.replicate, List.set_cons_zero, List.set_cons_succ, asB_bl, asS_str, Nat.reduceSub, Nat.reduceAdd, addW.eq_1, addW.eq_2, addW.eq_3, addW.eq_4, addW.eq_5, subW.eq_1, subW.eq_2, mulW.eq_1, mulW.eq_2, mulW.eq_3, intOp.eq_1, negW.eq_1, ordW.eq_1, ordW.eq_2, isW.eq_1, isntW.eq_1, ixW.eq_1, ixW.eq_2, ixW.eq_3, slW.eq_1, slW.eq_2, slW.eq_3, revTW.eq_1, revLW.eq_1, lenW.eq_1, lenW.eq_2, lenW.eq_3, tupleW.eq_1, tupleW.eq_2, listW.eq_1, listW.eq_2, min2W.eq_1, max2W.eq_1, strW.eq_1, strW.eq_2, joinW.eq_1, joinW.eq_2, walkLW.eq_1, walkTW.eq_1, walkSW.eq_1, range1W.eq_1, zipW.eq_1, zipW.eq_2, tupG.eq_1, gsW.eq_1, gsW.eq_2, par2.eq_1, extW.eq_1, extW.eq_2, partW.eq_1, optW.eq_1, optW.eq_2, modW, fdivW, powW, ltW, leW, gtW, geW, isNone, isi_non, isi_bl, isi_int, isi_str, isi_tup, isi_lst, upperW, putW, appW, tupW, lstW, asB_bl, String.reduceBEq, beq_self_eq_true, Bool.or_true, Bool.true_or, Bool.or_false, Bool.false_or, Bool.and_true, Bool.true_and, Bool.and_false, Bool.false_and, Bool.not_true, Bool.not_false, forall_const, true_implies, true_and, and_true, false_implies, reduceCtorEq, List.length_cons, List.length_nil, forall_eq, imp_self, implies_true, if_true, if_false, Bool.false_eq_true, Bool.true_eq_false]
    refine ⟨by decide, smallT (by omega), ?_, by rw [List.length_append, hl]; rfl, h3⟩
    exact (Szs.snoc ha (row_sz hy (by decide +kernel) (by omega) (by omega))).mono (Nat.le_refl _) (Nat.le_refl _) (by omega)
  · rintro acc1 s2 ⟨ha1, hl1, h2⟩
    have hl1 : acc1.length = 3 := hl1
    have ha1 : Szs 64 1 756 acc1 := ha1
    have h2 : Hnd (k + 4) [.dct [] []] s2 := h2
    simp only [bSTale_5, LM.M.bind_wp, LM.M.ret_wp, LM.M.lift_wp, LM.M.want_wp, LM.M.any_wp, LM.s_ite, LM.s_then, LM.s_end, LM.s_run, LM.s_calm, LM.s_fail, LM.alloc_wp, LM.asBM, LM.putM, LM.par2M.eq_1, W.bind_wp, W.ret_wp, W.want_wp, W.any_wp, s_ite, s_get0, s_get, s_then, s_end, s_run, s_calm, s_fail, s_start1, s_start2, s_start3, s_start4, s_start5, List.replicate, List.set_cons_zero, List.set_cons_succ, asB_bl, asS_str, Nat.reduceSub, Nat.reduceAdd, addW.eq_1, addW.eq_2, addW.eq_3, addW.eq_4, addW.eq_5, subW.eq_1, subW.eq_2, mulW.eq_1, mulW.eq_2, mulW.eq_3, intOp.eq_1, negW.eq_1, ordW.eq_1, ordW.eq_2, isW.eq_1, isntW.eq_1, ixW.eq_1, ixW.eq_2, ixW.eq_3, slW.eq_1, slW.eq_2, slW.eq_3, revTW.eq_1, revLW.eq_1, lenW.eq_1, lenW.eq_2, lenW.eq_3, tupleW.eq_1, tupleW.eq_2, listW.eq_1, listW.eq_2, min2W.eq_1, max2W.eq_1, strW.eq_1, strW.eq_2, joinW.eq_1, joinW.eq_2, walkLW.eq_1, walkTW.eq_1, walkSW.eq_1, range1W.eq_1, zipW.eq_1, zipW.eq_2, tupG.eq_1, gsW.eq_1, gsW.eq_2, par2.eq_1, extW.eq_1, extW.eq_2, partW.eq_1, optW.eq_1, optW.eq_2, modW, fdivW, powW, ltW, leW, gtW, geW, isNone, isi_non, isi_bl, isi_int, isi_str, isi_tup, isi_lst, upperW, putW, appW, tupW, lstW, asB_bl, String.reduceBEq, beq_self_eq_true, Bool.or_true, Bool.true_or, Bool.or_false, Bool.false_or, Bool.and_true, Bool.true_and, Bool.and_false, Bool.false_and, Bool.not_true, Bool.not_false, forall_const, true_implies, true_and, and_true, false_implies, reduceCtorEq, List.length_cons, List.length_nil, forall_eq, imp_self, implies_true, if_true, if_false, Bool.false_eq_true, Bool.true_eq_false]
    refine LM.lc_wp ?_
    simp only [LM.M.bind_wp, LM.M.ret_wp, LM.M.lift_wp, LM.M.want_wp, LM.M.any_wp, LM.s_ite, LM.s_then, LM.s_end, LM.s_run, LM.s_calm, LM.s_fail, LM.alloc_wp, LM.asBM, LM.putM, LM.par2M.eq_1, W.bind_wp, W.ret_wp, W.want_wp, W.any_wp, s_ite, s_get0, s_get, s_then, s_end, s_run, s_calm, s_fail, s_start1, s_start2, s_start3, s_start4, s_start5, List.replicate, List.set_cons_zero, List.set_cons_succ, asB_bl, asS_str, Nat.reduceSub, Nat.reduceAdd, addW.eq_1, addW.eq_2, addW.eq_3, addW.eq_4, addW.eq_5, subW.eq_1, subW.eq_2, mulW.eq_1, mulW.eq_2, mulW.eq_3, intOp.eq_1, negW.eq_1, ordW.eq_1, ordW.eq_2, isW.eq_1, isntW.eq_1, ixW.eq_1, ixW.eq_2, ixW.eq_3, slW.eq_1, slW.eq_2, slW.eq_3, revTW.eq_1, revLW.eq_1, lenW.eq_1, lenW.eq_2, lenW.eq_3, tupleW.eq_1, tupleW.eq_2, listW.eq_1, listW.eq_2, min2W.eq_1, max2W.eq_1, strW.eq_1, strW.eq_2, joinW.eq_1, joinW.eq_2, walkLW.eq_1, walkTW.eq_1, walkSW.eq_1, range1W.eq_1, zipW.eq_1, zipW.eq_2, tupG.eq_1, gsW.eq_1, gsW.eq_2, par2.eq_1, extW.eq_1, extW.eq_2, partW.eq_1, optW.eq_1, optW.eq_2, modW, fdivW, powW, ltW, leW, gtW, geW, isNone, isi_non, isi_bl, isi_int, isi_str, isi_tup, isi_lst, upperW, putW, appW, tupW, lstW, asB_bl, String.reduceBEq, beq_self_eq_true, Bool.or_true, Bool.true_or, Bool.or_false, Bool.false_or, Bool.and_true, Bool.true_and, Bool.and_false, Bool.false_and, Bool.not_true, Bool.not_false, forall_const, true_implies, true_and, and_true, false_implies, reduceCtorEq, List.length_cons, List.length_nil, forall_eq, imp_self, implies_true, if_true, if_false, Bool.false_eq_true, Bool.true_eq_false]
    refine ⟨by decide, fun v acc s => Szs 64 1 (252 * v) acc ∧ acc.length = v ∧ Hnd (k + 4 + v) [.dct [] []] s, ⟨Szs.nil, rfl, h2⟩, ?_, ?_⟩
    · rintro v d acc s2 hd ⟨ha, hl, hs2⟩
      obtain ⟨y, rfl, hy⟩ := txB_at (List.all_eq_true.mp (show ([D.str (Str.ofString "a"), D.str (Str.ofString "brick"), D.str (Str.ofString "plate")].all txB) = true by decide +kernel) d (List.mem_of_getElem? hd))
      have hv := (List.getElem?_eq_some_iff.mp hd).1
      have hv : v < 3 := hv
      simp only [LM.M.bind_wp, LM.M.ret_wp, LM.M.lift_wp, LM.M.want_wp, LM.M.any_wp, LM.s_ite, LM.s_then, LM.s_end, LM.s_run, LM.s_calm, LM.s_fail, LM.alloc_wp, LM.asBM, LM.putM, LM.par2M.eq_1, W.bind_wp, W.ret_wp, W.want_wp, W.any_wp, s_ite, s_get0, s_get, s_then, s_end, s_run, s_calm, s_fail, s_start1, s_start2, s_start3, s_start4, s_start5, List.replicate, List.set_cons_zero, List.set_cons_succ, asB_bl, asS_str, Nat.reduceSub, Nat.reduceAdd, addW.eq_1, addW.eq_2, addW.eq_3, addW.eq_4, addW.eq_5, subW.eq_1, subW.eq_2, mulW.eq_1, mulW.eq_2, mulW.eq_3, intOp.eq_1, negW.eq_1, ordW.eq_1, ordW.eq_2, isW.eq_1, isntW.eq_1, ixW.eq_1, ixW.eq_2, ixW.eq_3, slW.eq_1, slW.eq_2, slW.eq_3, revTW.eq_1, revLW.eq_1, lenW.eq_1, lenW.eq_2, lenW.eq_3, tupleW.eq_1, tupleW.eq_2, listW.eq_1, listW.eq_2, min2W.eq_1, max2W.eq_1, strW.eq_1, strW.eq_2, joinW.eq_1, joinW.eq_2, walkLW.eq_1, walkTW.eq_1, walkSW.eq_1, range1W.eq_1, zipW.eq_1, zipW.eq_2, tupG.eq_1, gsW.eq_1, gsW.eq_2, par2.eq_1, extW.eq_1, extW.eq_2, partW.eq_1, optW.eq_1, optW.eq_2, modW, fdivW, powW, ltW, leW, gtW, geW, isNone, isi_non, isi_bl, isi_int, isi_str, isi_tup, isi_lst, upperW, putW, appW, tupW, lstW, asB_bl, String.reduceBEq, beq_self_eq_true, Bool.or_true, Bool.true_or, Bool.or_false, Bool.false_or, Bool.and_true, Bool.true_and, Bool.and_false, Bool.false_and, Bool.not_true, Bool.not_false, forall_const, true_implies, true_and, and_true, false_implies, reduceCtorEq, List.length_cons, List.length_nil, forall_eq, imp_self, implies_true, if_true, if_false, Bool.false_eq_true, Bool.true_eq_false]
      refine dip (by decide) (by decide) hs2 (by omega) fun x s3 x0 x1 h3 => ?_
      simp only [LM.M.bind_wp, LM.M.ret_wp, LM.M.lift_wp, LM.M.want_wp, LM.M.any_wp, LM.s_ite, LM.s_then, LM.s_end, LM.s_run, LM.s_calm, LM.s_fail, LM.alloc_wp, LM.asBM, LM.putM, LM.par2M.eq_1, W.bind_wp, W.ret_wp, W.want_wp, W.any_wp, s_ite, s_get0, s_get, s_then, s_end, s_run, s_calm, s_fail, s_start1, s_start2, s_start3, s_start4, s_start5, List.replicate, List.set_cons_zero, List.set_cons_succ, asB_bl, asS_str, Nat.reduceSub, Nat.reduceAdd, addW.eq_1, addW.eq_2, addW.eq_3, addW.eq_4, addW.eq_5, subW.eq_1, subW.eq_2, mulW.eq_1, mulW.eq_2, mulW.eq_3, intOp.eq_1, negW.eq_1, ordW.eq_1, ordW.eq_2, isW.eq_1, isntW.eq_1, ixW.eq_1, ixW.eq_2, ixW.eq_3, slW.eq_1, slW.eq_2, slW.eq_3, revTW.eq_1, revLW.eq_1, lenW.eq_1, lenW.eq_2, lenW.eq_3, tupleW.eq_1, tupleW.eq_2, listW.eq_1, listW.eq_2, min2W.eq_1, max2W.eq_1, strW.eq_1, strW.eq_2, joinW.eq_1, joinW.eq_2, walkLW.eq_1, walkTW.eq_1, walkSW.eq_1, range1W.eq_1, zipW.eq_1, zipW.eq_2, tupG.eq_1, gsW.eq_1, gsW.eq_2, par2.eq_1, extW.eq_1, extW.eq_2, partW.eq_1, optW.eq_1, optW.eq_2, modW, fdivW, powW, ltW, leW, gtW, geW, isNone, isi_non, isi_bl, isi_int, isi_str, isi_tup, isi_lst, upperW, putW, appW, tupW, lstW, asB_bl, String.reduceBEq, beq_self_eq_true, Bool.or_true, Bool.true_or, Bool.or_false, Bool.false_or, Bool.and_true, Bool.true_and, Bool.and_false, Bool.false_and, Bool.not_true, Bool.not_false, forall_const, true_implies, true_and, and_true, false_implies, reduceCtorEq, List.length_cons, List.length_nil, forall_eq, imp_self, implies_true, if_true, if_false, Bool.false_eq_true, Bool.true_eq_false]
      refine ⟨by decide, smallT (by omega), ?_, by rw [List.length_append, hl]; rfl, h3⟩
      exact (Szs.snoc ha (row_sz hy (by decide +kernel) (by omega) (by omega))).mono (Nat.le_refl _) (Nat.le_refl _) (by omega)
    · rintro acc2 s2 ⟨ha2, hl2, h2⟩
      have hl2 : acc2.length = 3 := hl2
      have ha2 : Szs 64 1 756 acc2 := ha2
      have h2 : Hnd (k + 7) [.dct [] []] s2 := h2
      refine ⟨small (by omega), ?_⟩
      have hk := ha1.app ha2
      simp only [bSTale_4, LM.M.bind_wp, LM.M.ret_wp, LM.M.lift_wp, LM.M.want_wp, LM.M.any_wp, LM.s_ite, LM.s_then, LM.s_end, LM.s_run, LM.s_calm, LM.s_fail, LM.alloc_wp, LM.asBM, LM.putM, LM.par2M.eq_1, W.bind_wp, W.ret_wp, W.want_wp, W.any_wp, s_ite, s_get0, s_get, s_then, s_end, s_run, s_calm, s_fail, s_start1, s_start2, s_start3, s_start4, s_start5, List.replicate, List.set_cons_zero, List.set_cons_succ, asB_bl, asS_str, Nat.reduceSub, Nat.reduceAdd, addW.eq_1, addW.eq_2, addW.eq_3, addW.eq_4, addW.eq_5, subW.eq_1, subW.eq_2, mulW.eq_1, mulW.eq_2, mulW.eq_3, intOp.eq_1, negW.eq_1, ordW.eq_1, ordW.eq_2, isW.eq_1, isntW.eq_1, ixW.eq_1, ixW.eq_2, ixW.eq_3, slW.eq_1, slW.eq_2, slW.eq_3, revTW.eq_1, revLW.eq_1, lenW.eq_1, lenW.eq_2, lenW.eq_3, tupleW.eq_1, tupleW.eq_2, listW.eq_1, listW.eq_2, min2W.eq_1, max2W.eq_1, strW.eq_1, strW.eq_2, joinW.eq_1, joinW.eq_2, walkLW.eq_1, walkTW.eq_1, walkSW.eq_1, range1W.eq_1, zipW.eq_1, zipW.eq_2, tupG.eq_1, gsW.eq_1, gsW.eq_2, par2.eq_1, extW.eq_1, extW.eq_2, partW.eq_1, optW.eq_1, optW.eq_2, modW, fdivW, powW, ltW, leW, gtW, geW, isNone, isi_non, isi_bl, isi_int, isi_str, isi_tup, isi_lst, upperW, putW, appW, tupW, lstW, asB_bl, String.reduceBEq, beq_self_eq_true, Bool.or_true, Bool.true_or, Bool.or_false, Bool.false_or, Bool.and_true, Bool.true_and, Bool.and_false, Bool.false_and, Bool.not_true, Bool.not_false, forall_const, true_implies, true_and, and_true, false_implies, reduceCtorEq, List.length_cons, List.length_nil, forall_eq, imp_self, implies_true, if_true, if_false, Bool.false_eq_true, Bool.true_eq_false]
      refine srows (by decide) (by decide) h2 (by omega) fun a s3 ha h3 => ?_
      refine ⟨by decide, by decide, by decide, by decide, ?_⟩
      simp only [bSTale_3, LM.M.bind_wp, LM.M.ret_wp, LM.M.lift_wp, LM.M.want_wp, LM.M.any_wp, LM.s_ite, LM.s_then, LM.s_end, LM.s_run, LM.s_calm, LM.s_fail, LM.alloc_wp, LM.asBM, LM.putM, LM.par2M.eq_1, W.bind_wp, W.ret_wp, W.want_wp, W.any_wp, s_ite, s_get0, s_get, s_then, s_end, s_run, s_calm, s_fail, s_start1, s_start2, s_start3, s_start4, s_start5, List.replicate, List.set_cons_zero, List.set_cons_succ, asB_bl, asS_str, Nat.reduceSub, Nat.reduceAdd, addW.eq_1, addW.eq_2, addW.eq_3, addW.eq_4, addW.eq_5, subW.eq_1, subW.eq_2, mulW.eq_1, mulW.eq_2, mulW.eq_3, intOp.eq_1, negW.eq_1, ordW.eq_1, ordW.eq_2, isW.eq_1, isntW.eq_1, ixW.eq_1, ixW.eq_2, ixW.eq_3, slW.eq_1, slW.eq_2, slW.eq_3, revTW.eq_1, revLW.eq_1, lenW.eq_1, lenW.eq_2, lenW.eq_3, tupleW.eq_1, tupleW.eq_2, listW.eq_1, listW.eq_2, min2W.eq_1, max2W.eq_1, strW.eq_1, strW.eq_2, joinW.eq_1, joinW.eq_2, walkLW.eq_1, walkTW.eq_1, walkSW.eq_1, range1W.eq_1, zipW.eq_1, zipW.eq_2, tupG.eq_1, gsW.eq_1, gsW.eq_2, par2.eq_1, extW.eq_1, extW.eq_2, partW.eq_1, optW.eq_1, optW.eq_2, modW, fdivW, powW, ltW, leW, gtW, geW, isNone, isi_non, isi_bl, isi_int, isi_str, isi_tup, isi_lst, upperW, putW, appW, tupW, lstW, asB_bl, String.reduceBEq, beq_self_eq_true, Bool.or_true, Bool.true_or, Bool.or_false, Bool.false_or, Bool.and_true, Bool.true_and, Bool.and_false, Bool.false_and, Bool.not_true, Bool.not_false, forall_const, true_implies, true_and, and_true, false_implies, reduceCtorEq, List.length_cons, List.length_nil, forall_eq, imp_self, implies_true, if_true, if_false, Bool.false_eq_true, Bool.true_eq_false]
      refine dip (by decide) (by decide) h3 (by omega) fun x s3 x0 x1 h3 => ?_
      simp only [LM.M.bind_wp, LM.M.ret_wp, LM.M.lift_wp, LM.M.want_wp, LM.M.any_wp, LM.s_ite, LM.s_then, LM.s_end, LM.s_run, LM.s_calm, LM.s_fail, LM.alloc_wp, LM.asBM, LM.putM, LM.par2M.eq_1, W.bind_wp, W.ret_wp, W.want_wp, W.any_wp, s_ite, s_get0, s_get, s_then, s_end, s_run, s_calm, s_fail, s_start1, s_start2, s_start3, s_start4, s_start5, List.replicate, List.set_cons_zero, List.set_cons_succ, asB_bl, asS_str, Nat.reduceSub, Nat.reduceAdd, addW.eq_1, addW.eq_2, addW.eq_3, addW.eq_4, addW.eq_5, subW.eq_1, subW.eq_2, mulW.eq_1, mulW.eq_2, mulW.eq_3, intOp.eq_1, negW.eq_1, ordW.eq_1, ordW.eq_2, isW.eq_1, isntW.eq_1, ixW.eq_1, ixW.eq_2, ixW.eq_3, slW.eq_1, slW.eq_2, slW.eq_3, revTW.eq_1, revLW.eq_1, lenW.eq_1, lenW.eq_2, lenW.eq_3, tupleW.eq_1, tupleW.eq_2, listW.eq_1, listW.eq_2, min2W.eq_1, max2W.eq_1, strW.eq_1, strW.eq_2, joinW.eq_1, joinW.eq_2, walkLW.eq_1, walkTW.eq_1, walkSW.eq_1, range1W.eq_1, zipW.eq_1, zipW.eq_2, tupG.eq_1, gsW.eq_1, gsW.eq_2, par2.eq_1, extW.eq_1, extW.eq_2, partW.eq_1, optW.eq_1, optW.eq_2, modW, fdivW, powW, ltW, leW, gtW, geW, isNone, isi_non, isi_bl, isi_int, isi_str, isi_tup, isi_lst, upperW, putW, appW, tupW, lstW, asB_bl, String.reduceBEq, beq_self_eq_true, Bool.or_true, Bool.true_or, Bool.or_false, Bool.false_or, Bool.and_true, Bool.true_and, Bool.and_false, Bool.false_and, Bool.not_true, Bool.not_false, forall_const, true_implies, true_and, and_true, false_implies, reduceCtorEq, List.length_cons, List.length_nil, forall_eq, imp_self, implies_true, if_true, if_false, Bool.false_eq_true, Bool.true_eq_false]
      have p1 : Pgs 1 [.tup [.int c, .int 0, .tup [.str (Str.ofString "open"), .tup (acc1 ++ acc2), a]]] := by
        refine Pgs.snoc (t := 0) (L := []) ⟨rfl, fun j d h => by simp at h⟩ c0 (by omega) ?_
        have : Szs 64 2 _ [D.str (Str.ofString "open"), .tup (acc1 ++ acc2), a] := Szs.cons ((sz_tx (by decide +kernel)).mono (Nat.le_refl _) (by decide) (Nat.le_refl _)) (Szs.cons (Sz.tup hk) (Szs.cons ha (Szs.nil (n := 0))))
        exact (Sz.tup this).mono (Nat.le_refl _) (by decide) (by decide)
      refine ⟨⟨by omega, by omega⟩, LM.for_wp (fun t env s => ∃ (L : List D) (c : Int) (ks vs : List D) (y5 y6 y8 : Option D), env = [some (.tok 1), some (.int 12), some (.lst menu), some (.tok 3), some (.int c), y5, y6, some (.lst L), y8] ∧ Pgs (t + 1) L ∧ 0 ≤ c ∧ c ≤ 2 + 300 * (t : Int) ∧ Shs t ks vs ∧ Hnd (k + 7 + 31 + 151 * t) [.dct ks vs] s) ⟨_, c, [], [], _, _, _, rfl, p1, c0, by omega, ⟨rfl, Nat.le_refl _, fun _ h => (nomatch h)⟩, h3⟩ ?_ ?_⟩
      · rintro t d env s4 hd ⟨L, c, ks, vs, y5, y6, y8, rfl, hL, c0, c1, hs, h4⟩
        obtain ⟨ht, rfl⟩ := rangeAt hd
        have ht' : t < 12 := by omega
        have lL := hL.len
        simp only [bSTale_2, LM.M.bind_wp, LM.M.ret_wp, LM.M.lift_wp, LM.M.want_wp, LM.M.any_wp, LM.s_ite, LM.s_then, LM.s_end, LM.s_run, LM.s_calm, LM.s_fail, LM.alloc_wp, LM.asBM, LM.putM, LM.par2M.eq_1, W.bind_wp, W.ret_wp, W.want_wp, W.any_wp, s_ite, s_get0, s_get, s_then, s_end, s_run, s_calm, s_fail, s_start1, s_start2, s_start3, s_start4, s_start5, List.replicate, List.set_cons_zero, List.set_cons_succ, asB_bl, asS_str, Nat.reduceSub, Nat.reduceAdd, addW.eq_1, addW.eq_2, addW.eq_3, addW.eq_4, addW.eq_5, subW.eq_1, subW.eq_2, mulW.eq_1, mulW.eq_2, mulW.eq_3, intOp.eq_1, negW.eq_1, ordW.eq_1, ordW.eq_2, isW.eq_1, isntW.eq_1, ixW.eq_1, ixW.eq_2, ixW.eq_3, slW.eq_1, slW.eq_2, slW.eq_3, revTW.eq_1, revLW.eq_1, lenW.eq_1, lenW.eq_2, lenW.eq_3, tupleW.eq_1, tupleW.eq_2, listW.eq_1, listW.eq_2, min2W.eq_1, max2W.eq_1, strW.eq_1, strW.eq_2, joinW.eq_1, joinW.eq_2, walkLW.eq_1, walkTW.eq_1, walkSW.eq_1, range1W.eq_1, zipW.eq_1, zipW.eq_2, tupG.eq_1, gsW.eq_1, gsW.eq_2, par2.eq_1, extW.eq_1, extW.eq_2, partW.eq_1, optW.eq_1, optW.eq_2, modW, fdivW, powW, ltW, leW, gtW, geW, isNone, isi_non, isi_bl, isi_int, isi_str, isi_tup, isi_lst, upperW, putW, appW, tupW, lstW, asB_bl, String.reduceBEq, beq_self_eq_true, Bool.or_true, Bool.true_or, Bool.or_false, Bool.false_or, Bool.and_true, Bool.true_and, Bool.and_false, Bool.false_and, Bool.not_true, Bool.not_false, forall_const, true_implies, true_and, and_true, false_implies, reduceCtorEq, List.length_cons, List.length_nil, forall_eq, imp_self, implies_true, if_true, if_false, Bool.false_eq_true, Bool.true_eq_false]
        refine ⟨by decide, ?_⟩
        refine dip (by decide) (by decide) h4 (by omega) fun x s5 x0 x1 h5 => ?_
        refine at_nu (a := 0) (m := 300) (by decide +kernel) x0 x1 fun u u0 u1 => ?_
        simp only [bSTale_1, LM.M.bind_wp, LM.M.ret_wp, LM.M.lift_wp, LM.M.want_wp, LM.M.any_wp, LM.s_ite, LM.s_then, LM.s_end, LM.s_run, LM.s_calm, LM.s_fail, LM.alloc_wp, LM.asBM, LM.putM, LM.par2M.eq_1, W.bind_wp, W.ret_wp, W.want_wp, W.any_wp, s_ite, s_get0, s_get, s_then, s_end, s_run, s_calm, s_fail, s_start1, s_start2, s_start3, s_start4, s_start5, List.replicate, List.set_cons_zero, List.set_cons_succ, asB_bl, asS_str, Nat.reduceSub, Nat.reduceAdd, addW.eq_1, addW.eq_2, addW.eq_3, addW.eq_4, addW.eq_5, subW.eq_1, subW.eq_2, mulW.eq_1, mulW.eq_2, mulW.eq_3, intOp.eq_1, negW.eq_1, ordW.eq_1, ordW.eq_2, isW.eq_1, isntW.eq_1, ixW.eq_1, ixW.eq_2, ixW.eq_3, slW.eq_1, slW.eq_2, slW.eq_3, revTW.eq_1, revLW.eq_1, lenW.eq_1, lenW.eq_2, lenW.eq_3, tupleW.eq_1, tupleW.eq_2, listW.eq_1, listW.eq_2, min2W.eq_1, max2W.eq_1, strW.eq_1, strW.eq_2, joinW.eq_1, joinW.eq_2, walkLW.eq_1, walkTW.eq_1, walkSW.eq_1, range1W.eq_1, zipW.eq_1, zipW.eq_2, tupG.eq_1, gsW.eq_1, gsW.eq_2, par2.eq_1, extW.eq_1, extW.eq_2, partW.eq_1, optW.eq_1, optW.eq_2, modW, fdivW, powW, ltW, leW, gtW, geW, isNone, isi_non, isi_bl, isi_int, isi_str, isi_tup, isi_lst, upperW, putW, appW, tupW, lstW, asB_bl, String.reduceBEq, beq_self_eq_true, Bool.or_true, Bool.true_or, Bool.or_false, Bool.false_or, Bool.and_true, Bool.true_and, Bool.and_false, Bool.false_and, Bool.not_true, Bool.not_false, forall_const, true_implies, true_and, and_true, false_implies, reduceCtorEq, List.length_cons, List.length_nil, forall_eq, imp_self, implies_true, if_true, if_false, Bool.false_eq_true, Bool.true_eq_false]
        refine sdeed hm m0 m1 hs (by omega) h5 (by omega) fun e ks' vs' s6 he hs6 h6 => ?_
        refine ⟨by decide, smallT (by omega), _, c + u, ks', vs', _, _, _, rfl, ?_, by omega, by omega, hs6, h6.mono (by omega)⟩
        have e1 : (0 + (t : Int) + 1) = ((t + 1 : Nat) : Int) := by omega
        rw [e1]
        exact hL.snoc (by omega) (by omega) he
      · rintro env s4 ⟨L, c, ks, vs, y5, y6, y8, rfl, hL, c0, c1, hs, h4⟩
        rw [rangeLen] at hL h4
        simp only [LM.M.bind_wp, LM.M.ret_wp, LM.M.lift_wp, LM.M.want_wp, LM.M.any_wp, LM.s_ite, LM.s_then, LM.s_end, LM.s_run, LM.s_calm, LM.s_fail, LM.alloc_wp, LM.asBM, LM.putM, LM.par2M.eq_1, W.bind_wp, W.ret_wp, W.want_wp, W.any_wp, s_ite, s_get0, s_get, s_then, s_end, s_run, s_calm, s_fail, s_start1, s_start2, s_start3, s_start4, s_start5, List.replicate, List.set_cons_zero, List.set_cons_succ, asB_bl, asS_str, Nat.reduceSub, Nat.reduceAdd, addW.eq_1, addW.eq_2, addW.eq_3, addW.eq_4, addW.eq_5, subW.eq_1, subW.eq_2, mulW.eq_1, mulW.eq_2, mulW.eq_3, intOp.eq_1, negW.eq_1, ordW.eq_1, ordW.eq_2, isW.eq_1, isntW.eq_1, ixW.eq_1, ixW.eq_2, ixW.eq_3, slW.eq_1, slW.eq_2, slW.eq_3, revTW.eq_1, revLW.eq_1, lenW.eq_1, lenW.eq_2, lenW.eq_3, tupleW.eq_1, tupleW.eq_2, listW.eq_1, listW.eq_2, min2W.eq_1, max2W.eq_1, strW.eq_1, strW.eq_2, joinW.eq_1, joinW.eq_2, walkLW.eq_1, walkTW.eq_1, walkSW.eq_1, range1W.eq_1, zipW.eq_1, zipW.eq_2, tupG.eq_1, gsW.eq_1, gsW.eq_2, par2.eq_1, extW.eq_1, extW.eq_2, partW.eq_1, optW.eq_1, optW.eq_2, modW, fdivW, powW, ltW, leW, gtW, geW, isNone, isi_non, isi_bl, isi_int, isi_str, isi_tup, isi_lst, upperW, putW, appW, tupW, lstW, asB_bl, String.reduceBEq, beq_self_eq_true, Bool.or_true, Bool.true_or, Bool.or_false, Bool.false_or, Bool.and_true, Bool.true_and, Bool.and_false, Bool.false_and, Bool.not_true, Bool.not_false, forall_const, true_implies, true_and, and_true, false_implies, reduceCtorEq, List.length_cons, List.length_nil, forall_eq, imp_self, implies_true, if_true, if_false, Bool.false_eq_true, Bool.true_eq_false]
        exact h L _ ks vs s4 (by omega) (by omega) hL (h4.mono (by omega))
end
end LP.HD
namespace LP.K74
open PySem PySem.Spec PyProof.Rows L2 PK LP LP.HD
/-! ### a copy is the same -/
theorem isi_tup (l : List D) : isiW "tuple" (.tup l) = W.ret (.bl true) := rfl
theorem lc_all {g : D → Env → W Env} {el : Env → W D} {vs : List Nat} {pi : Env → W (List D)} {env : Env} {ds : List D} (hi : Ret (pi env) ds) (hl : ds.length ≤ sizeLine)
    (h : ∀ d ∈ ds, (g d (wipeE env vs)).wp (fun env' => (el env').wp (fun y => y = d) fun _ => False) fun _ => False) : Ret (lcD g (fun _ => W.ret true) el vs pi env) (.lst ds) := by
  have := lc_map (fun d => d) hi hl h
  rwa [List.map_id''] at this
  exact fun _ => rfl
theorem cop_ret : ∀ (n : Nat) {m w : Nat} {d : D}, w ≤ 1000000 → Sz m n w d → Ret (fCop (n + 1) [d]) d
  | n, m, w, d, hw, hz => by
    intro Q E q
    refine ⟨rfl, ?_⟩
    show (endW (bCop (fCop n) (startE 2 [d]))).wp Q E
    have pl := hz.pl
    cases d <;> try cases pl
    case tup l =>
      have dep : PyData.depthAll (D.toPs l) + 1 ≤ n := hz.dep
      obtain ⟨n, rfl⟩ : ∃ j, n = j + 1 := ⟨n - 1, by omega⟩
      obtain ⟨hs, hw2⟩ := hz.untup
      simp only [bCop, isi_tup, W.bind_wp, W.ret_wp, W.want_wp, W.any_wp, s_ite, s_get0, s_get, s_then, s_end, s_run, s_calm, s_fail, s_start1, s_start2, s_start3, s_start4, s_start5, List.replicate, List.set_cons_zero, List.set_cons_succ, asB_bl, asS_str, Nat.reduceSub, Nat.reduceAdd, addW.eq_1, addW.eq_2, addW.eq_3, addW.eq_4, addW.eq_5, subW.eq_1, subW.eq_2, mulW.eq_1, mulW.eq_2, mulW.eq_3, intOp.eq_1, negW.eq_1, ordW.eq_1, ordW.eq_2, isW.eq_1, isntW.eq_1, ixW.eq_1, ixW.eq_2, ixW.eq_3, slW.eq_1, slW.eq_2, slW.eq_3, revTW.eq_1, revLW.eq_1, lenW.eq_1, lenW.eq_2, lenW.eq_3, tupleW.eq_1, tupleW.eq_2, listW.eq_1, listW.eq_2, min2W.eq_1, max2W.eq_1, strW.eq_1, strW.eq_2, joinW.eq_1, joinW.eq_2, walkLW.eq_1, walkTW.eq_1, walkSW.eq_1, range1W.eq_1, zipW.eq_1, zipW.eq_2, tupG.eq_1, gsW.eq_1, gsW.eq_2, par2.eq_1, extW.eq_1, extW.eq_2, partW.eq_1, optW.eq_1, optW.eq_2, modW, fdivW, powW, ltW, leW, gtW, geW, isNone, isi_non, isi_bl, isi_int, isi_str, isi_tup, isi_lst, upperW, putW, appW, tupW, lstW, asB_bl, String.reduceBEq, beq_self_eq_true, Bool.or_true, Bool.true_or, Bool.or_false, Bool.false_or, Bool.and_true, Bool.true_and, Bool.and_false, Bool.false_and, Bool.not_true, Bool.not_false, forall_const, true_implies, true_and, and_true, false_implies, reduceCtorEq, List.length_cons, List.length_nil, forall_eq, imp_self, implies_true, if_true, if_false, Bool.false_eq_true, Bool.true_eq_false]
      have ll : l.length ≤ 500000 := by
        have := wts_len (ds := D.toPs l) (n := 500000) (by omega)
        rwa [toPs_map, List.length_map] at this
      refine (lc_all (ds := l) (fun Q E q => q) (small (by omega)) fun d hd => ?_).go ?_
      · simp only [wipeE, W.bind_wp, W.ret_wp, W.want_wp, W.any_wp, s_ite, s_get0, s_get, s_then, s_end, s_run, s_calm, s_fail, s_start1, s_start2, s_start3, s_start4, s_start5, List.replicate, List.set_cons_zero, List.set_cons_succ, asB_bl, asS_str, Nat.reduceSub, Nat.reduceAdd, addW.eq_1, addW.eq_2, addW.eq_3, addW.eq_4, addW.eq_5, subW.eq_1, subW.eq_2, mulW.eq_1, mulW.eq_2, mulW.eq_3, intOp.eq_1, negW.eq_1, ordW.eq_1, ordW.eq_2, isW.eq_1, isntW.eq_1, ixW.eq_1, ixW.eq_2, ixW.eq_3, slW.eq_1, slW.eq_2, slW.eq_3, revTW.eq_1, revLW.eq_1, lenW.eq_1, lenW.eq_2, lenW.eq_3, tupleW.eq_1, tupleW.eq_2, listW.eq_1, listW.eq_2, min2W.eq_1, max2W.eq_1, strW.eq_1, strW.eq_2, joinW.eq_1, joinW.eq_2, walkLW.eq_1, walkTW.eq_1, walkSW.eq_1, range1W.eq_1, zipW.eq_1, zipW.eq_2, tupG.eq_1, gsW.eq_1, gsW.eq_2, par2.eq_1, extW.eq_1, extW.eq_2, partW.eq_1, optW.eq_1, optW.eq_2, modW, fdivW, powW, ltW, leW, gtW, geW, isNone, isi_non, isi_bl, isi_int, isi_str, isi_tup, isi_lst, upperW, putW, appW, tupW, lstW, asB_bl, String.reduceBEq, beq_self_eq_true, Bool.or_true, Bool.true_or, Bool.or_false, Bool.false_or, Bool.and_true, Bool.true_and, Bool.and_false, Bool.false_and, Bool.not_true, Bool.not_false, forall_const, true_implies, true_and, and_true, false_implies, reduceCtorEq, List.length_cons, List.length_nil, forall_eq, imp_self, implies_true, if_true, if_false, Bool.false_eq_true, Bool.true_eq_false]
        exact (cop_ret n hw (hs.mem d hd)).go rfl
      · simp only [W.bind_wp, W.ret_wp, W.want_wp, W.any_wp, s_ite, s_get0, s_get, s_then, s_end, s_run, s_calm, s_fail, s_start1, s_start2, s_start3, s_start4, s_start5, List.replicate, List.set_cons_zero, List.set_cons_succ, asB_bl, asS_str, Nat.reduceSub, Nat.reduceAdd, addW.eq_1, addW.eq_2, addW.eq_3, addW.eq_4, addW.eq_5, subW.eq_1, subW.eq_2, mulW.eq_1, mulW.eq_2, mulW.eq_3, intOp.eq_1, negW.eq_1, ordW.eq_1, ordW.eq_2, isW.eq_1, isntW.eq_1, ixW.eq_1, ixW.eq_2, ixW.eq_3, slW.eq_1, slW.eq_2, slW.eq_3, revTW.eq_1, revLW.eq_1, lenW.eq_1, lenW.eq_2, lenW.eq_3, tupleW.eq_1, tupleW.eq_2, listW.eq_1, listW.eq_2, min2W.eq_1, max2W.eq_1, strW.eq_1, strW.eq_2, joinW.eq_1, joinW.eq_2, walkLW.eq_1, walkTW.eq_1, walkSW.eq_1, range1W.eq_1, zipW.eq_1, zipW.eq_2, tupG.eq_1, gsW.eq_1, gsW.eq_2, par2.eq_1, extW.eq_1, extW.eq_2, partW.eq_1, optW.eq_1, optW.eq_2, modW, fdivW, powW, ltW, leW, gtW, geW, isNone, isi_non, isi_bl, isi_int, isi_str, isi_tup, isi_lst, upperW, putW, appW, tupW, lstW, asB_bl, String.reduceBEq, beq_self_eq_true, Bool.or_true, Bool.true_or, Bool.or_false, Bool.false_or, Bool.and_true, Bool.true_and, Bool.and_false, Bool.false_and, Bool.not_true, Bool.not_false, forall_const, true_implies, true_and, and_true, false_implies, reduceCtorEq, List.length_cons, List.length_nil, forall_eq, imp_self, implies_true, if_true, if_false, Bool.false_eq_true, Bool.true_eq_false]
        exact q
    all_goals
      simp only [bCop, W.bind_wp, W.ret_wp, W.want_wp, W.any_wp, s_ite, s_get0, s_get, s_then, s_end, s_run, s_calm, s_fail, s_start1, s_start2, s_start3, s_start4, s_start5, List.replicate, List.set_cons_zero, List.set_cons_succ, asB_bl, asS_str, Nat.reduceSub, Nat.reduceAdd, addW.eq_1, addW.eq_2, addW.eq_3, addW.eq_4, addW.eq_5, subW.eq_1, subW.eq_2, mulW.eq_1, mulW.eq_2, mulW.eq_3, intOp.eq_1, negW.eq_1, ordW.eq_1, ordW.eq_2, isW.eq_1, isntW.eq_1, ixW.eq_1, ixW.eq_2, ixW.eq_3, slW.eq_1, slW.eq_2, slW.eq_3, revTW.eq_1, revLW.eq_1, lenW.eq_1, lenW.eq_2, lenW.eq_3, tupleW.eq_1, tupleW.eq_2, listW.eq_1, listW.eq_2, min2W.eq_1, max2W.eq_1, strW.eq_1, strW.eq_2, joinW.eq_1, joinW.eq_2, walkLW.eq_1, walkTW.eq_1, walkSW.eq_1, range1W.eq_1, zipW.eq_1, zipW.eq_2, tupG.eq_1, gsW.eq_1, gsW.eq_2, par2.eq_1, extW.eq_1, extW.eq_2, partW.eq_1, optW.eq_1, optW.eq_2, modW, fdivW, powW, ltW, leW, gtW, geW, isNone, isi_non, isi_bl, isi_int, isi_str, isi_tup, isi_lst, upperW, putW, appW, tupW, lstW, asB_bl, String.reduceBEq, beq_self_eq_true, Bool.or_true, Bool.true_or, Bool.or_false, Bool.false_or, Bool.and_true, Bool.true_and, Bool.and_false, Bool.false_and, Bool.not_true, Bool.not_false, forall_const, true_implies, true_and, and_true, false_implies, reduceCtorEq, List.length_cons, List.length_nil, forall_eq, imp_self, implies_true, if_true, if_false, Bool.false_eq_true, Bool.true_eq_false]
      exact q
/-! ### pages -/
/-- a page -/
def Pg (d : D) : Prop := ∃ (c : Int) (j : Nat) (e : D), d = D.tup [.int c, .int (j : Int), e] ∧ 0 ≤ c ∧ c ≤ 2 ^ 50 ∧ j ≤ 1000 ∧ Sz 64 6 9000 e
theorem Pg.sz {d : D} (h : Pg d) : Sz 64 7 9200 d := by
  obtain ⟨c, j, e, rfl, c0, c1, j1, he⟩ := h
  have : Szs 64 6 _ [D.int c, .int (j : Int), e] := Szs.cons ((sz_int c0 (by omega)).mono (Nat.le_refl _) (by decide) (Nat.le_refl _)) (Szs.cons ((sz_int (by omega) (by omega)).mono (Nat.le_refl _) (by decide) (Nat.le_refl _)) (Szs.cons he (Szs.nil (n := 0))))
  exact (Sz.tup this).mono (Nat.le_refl _) (Nat.le_refl _) (by omega)
/-- the two numbers of a page -/
def pk (d : D) : Int × Int := pgK d.toP
/-- some pages, no two of one number -/
structure PgL (G : List D) : Prop where
  len : G.length ≤ 13
  each : ∀ d ∈ G, Pg d
  one : (G.map fun d => (pk d).2).Nodup
theorem PgL.perm {G G' : List D} (h : PgL G) (p : G.Perm G') : PgL G' := ⟨by rw [← p.length_eq]; exact h.len, fun d hd => h.each d (p.mem_iff.mpr hd), (p.map _).nodup_iff.mp h.one⟩
theorem PgL.sub {G G' : List D} (h : PgL G) (p : G'.Sublist G) : PgL G' := ⟨Nat.le_trans p.length_le h.len, fun d hd => h.each d (p.subset hd), (p.map _).nodup h.one⟩
theorem PgL.ok {G : List D} (h : PgL G) : PgOk (D.toPs G) := by
  refine ⟨fun d hd => ?_, ?_⟩
  · rw [toPs_map] at hd
    obtain ⟨g, hg, rfl⟩ := List.mem_map.mp hd
    obtain ⟨c, j, e, rfl, _⟩ := h.each g hg
    exact ⟨c, j, [e.toP], rfl⟩
  · rw [toPs_map, List.map_map]
    have n1 : G.Pairwise fun a b => (pk a).2 ≠ (pk b).2 := List.pairwise_map.mp h.one
    unfold List.Nodup
    refine List.pairwise_map.mpr (n1.imp_of_mem fun {a b} ha hb ne e => ?_)
    obtain ⟨c, j, e1, rfl, _⟩ := h.each a ha
    obtain ⟨c', j', e2, rfl, _⟩ := h.each b hb
    have e : some (c, (j : Int)) = some (c', (j' : Int)) := e
    injection e with e
    exact ne (congrArg Prod.snd e)
theorem PgL.szs {G : List D} (h : PgL G) : Szs 64 7 119626 G := (Szs.each fun d hd => (h.each d hd).sz).mono (Nat.le_refl _) (Nat.le_refl _) (by have := h.len; omega)
theorem PgL.sz {G : List D} (h : PgL G) : Sz 64 8 119629 (.tup G) := Sz.tup h.szs
/-- two rising lists of the same are one -/
theorem one_list {G G' : List D} (p : G.Perm G') (h1 : G.Pairwise fun a b => pgLt (pk a) (pk b) = true) (h2 : G'.Pairwise fun a b => pgLt (pk a) (pk b) = true) : G = G' := by
  induction G generalizing G' with
  | nil => exact (List.nil_perm.mp p).symm
  | cons a G ih =>
    cases G' with
    | nil => exact absurd p.length_eq (by simp)
    | cons b G' =>
      obtain ⟨q1, q2⟩ := List.pairwise_cons.mp h1
      obtain ⟨r1, r2⟩ := List.pairwise_cons.mp h2
      have e : a = b := by
        rcases List.mem_cons.mp (p.mem_iff.mp List.mem_cons_self) with e | ha
        · exact e
        · rcases List.mem_cons.mp (p.mem_iff.mpr List.mem_cons_self) with e | hb
          · exact e.symm
          · have x := q1 b hb
            have y := r1 a ha
            have z := pgOrd.trans _ _ _ x y
            rw [pgOrd.irrefl] at z
            cases z
      subst e
      rw [ih (List.perm_cons a |>.mp p) q2 r2]
theorem PgL.sorted {G : List D} (h : PgL G) : (sortPD G).Pairwise fun a b => pgLt (pk a) (pk b) = true := by
  have p : (sortPD G).Perm G := srtP_perm _ _
  have h' := h.perm p.symm
  have up : (sortPD G).Pairwise fun a b => pgLt (pk b) (pk a) = false := by
    have := List.pairwise_mergeSort (le := PySem.W.sortLe pgOrd false fun d : D => pgK d.toP) (fun a b c => (PySem.W.sortLe_total pgOrd false _).trans a b c) (fun a b => by
      rcases (PySem.W.sortLe_total pgOrd false fun d : D => pgK d.toP).total a b with e | e <;> rw [e] <;> simp) G
    refine this.imp fun {a b} e => ?_
    have e : (!pgLt (pk b) (pk a)) = true := e
    simpa using e
  have ne : (sortPD G).Pairwise fun a b => (pk a).2 ≠ (pk b).2 := List.pairwise_map.mp h'.one
  refine (List.pairwise_and_iff.mpr ⟨up, ne⟩).imp fun {a b} ⟨e1, e2⟩ => ?_
  cases e : pgLt (pk a) (pk b) with
  | true => rfl
  | false => exact absurd (congrArg Prod.snd (pgOrd.total _ _ e e1)) e2
theorem sort_perm (G : List D) : (sortPD G).Perm G := srtP_perm _ _
/-- sorted is the one rising list -/
theorem PgL.sort_is {G G' : List D} (h : PgL G) (p : G'.Perm G) (up : G'.Pairwise fun a b => pgLt (pk a) (pk b) = true) : G' = sortPD G := one_list (p.trans (sort_perm G).symm) up h.sorted
/-! ### is a page there -/
theorem pg_eqv {a b : D} (ha : Pg a) (hb : Pg b) (e : D.eqv a b = true) : (pk a).2 = (pk b).2 := by
  obtain ⟨c, j, e1, rfl, _⟩ := ha
  obtain ⟨c', j', e2, rfl, _⟩ := hb
  have e : PyData.eqv (.tuple [.int c, .int j, e1.toP]) (.tuple [.int c', .int j', e2.toP]) = true := e
  simp only [PyData.eqv, PyData.eqvAll, Bool.and_eq_true, decide_eq_true_eq, beq_iff_eq] at e
  exact e.2.1
theorem pg_same {a : D} (h : Pg a) : D.eqv a a = true := PySem.SeqAt.eqv_refl_plain _ (plain_of h.sz.pl)
theorem inD_not {G : List D} {d : D} (h : PgL (G ++ [d])) : inD d G = false := by
  unfold inD
  rw [List.any_eq_false]
  intro g hg e
  have n := h.one
  rw [List.map_append] at n
  have := (List.nodup_append.mp n).2.2 _ (List.mem_map.mpr ⟨g, hg, rfl⟩) _ (List.mem_map.mpr ⟨d, List.mem_singleton.mpr rfl, rfl⟩)
  exact this (pg_eqv (h.each g (List.mem_append_left _ hg)) (h.each d (List.mem_append_right _ (List.mem_singleton.mpr rfl))) e)
theorem inD_yes {G : List D} {d : D} (h : PgL G) (hd : d ∈ G) : inD d G = true := by
  unfold inD
  rw [List.any_eq_true]
  exact ⟨d, hd, pg_same (h.each d hd)⟩
end LP.K74
namespace LP.K74
open PySem PySem.Spec PyProof.Rows L2 PK LP LP.HD
theorem cop_tale {G : List D} (h : PgL G) : Ret (fCop 12 [.tup G]) (.tup G) := cop_ret 11 (by decide) (h.sz.mono (Nat.le_refl _) (by decide) (Nat.le_refl _))
theorem cop_page {d : D} (h : Pg d) : Ret (fCop 12 [d]) d := cop_ret 11 (by decide) (h.sz.mono (Nat.le_refl _) (by decide) (Nat.le_refl _))
theorem ind_eq {G : List D} {d : D} (h : PgL G) (hd : Pg d) : indW d (.tup G) = W.ret (.bl (inD d G)) := W.want_bind ⟨hd.sz.pl, h.szs.pl, Nat.le_trans hd.sz.dep (by decide)⟩
theorem sort_eq {G : List D} (h : PgL G) : sortPW [.lst G] = W.ret (.lst (sortPD G)) := W.want_bind ⟨h.szs.pl, h.ok, small (by have := h.len; omega)⟩
theorem sortL {G : List D} (h : PgL G) : PgL (sortPD G) := h.perm (sort_perm G).symm
theorem with_new {G : List D} {d : D} (h : PgL (G ++ [d])) : Ret (fWith [.tup (sortPD G), d]) (.tup (sortPD (G ++ [d]))) := by
  intro Q E q
  have hG : PgL G := h.sub (List.sublist_append_left _ _)
  have hd : Pg d := h.each d (List.mem_append_right _ (List.mem_singleton.mpr rfl))
  have p : (sortPD G ++ [d]).Perm (G ++ [d]) := (sort_perm G).append_right _
  have h2 := h.perm p.symm
  have l2 := h2.len
  refine ⟨rfl, ?_⟩
  show (endW (bWith (startE 2 [.tup (sortPD G), d]))).wp Q E
  simp only [bWith, W.bind_wp, W.ret_wp, W.want_wp, W.any_wp, s_ite, s_get0, s_get, s_then, s_end, s_run, s_calm, s_fail, s_start1, s_start2, s_start3, s_start4, s_start5, List.replicate, List.set_cons_zero, List.set_cons_succ, asB_bl, asS_str, Nat.reduceSub, Nat.reduceAdd, addW.eq_1, addW.eq_2, addW.eq_3, addW.eq_4, addW.eq_5, subW.eq_1, subW.eq_2, mulW.eq_1, mulW.eq_2, mulW.eq_3, intOp.eq_1, negW.eq_1, ordW.eq_1, ordW.eq_2, isW.eq_1, isntW.eq_1, ixW.eq_1, ixW.eq_2, ixW.eq_3, slW.eq_1, slW.eq_2, slW.eq_3, revTW.eq_1, revLW.eq_1, lenW.eq_1, lenW.eq_2, lenW.eq_3, tupleW.eq_1, tupleW.eq_2, listW.eq_1, listW.eq_2, min2W.eq_1, max2W.eq_1, strW.eq_1, strW.eq_2, joinW.eq_1, joinW.eq_2, walkLW.eq_1, walkTW.eq_1, walkSW.eq_1, range1W.eq_1, zipW.eq_1, zipW.eq_2, tupG.eq_1, gsW.eq_1, gsW.eq_2, par2.eq_1, extW.eq_1, extW.eq_2, partW.eq_1, optW.eq_1, optW.eq_2, modW, fdivW, powW, ltW, leW, gtW, geW, isNone, isi_non, isi_bl, isi_int, isi_str, isi_tup, isi_lst, upperW, putW, appW, tupW, lstW, asB_bl, String.reduceBEq, beq_self_eq_true, Bool.or_true, Bool.true_or, Bool.or_false, Bool.false_or, Bool.and_true, Bool.true_and, Bool.and_false, Bool.false_and, Bool.not_true, Bool.not_false, forall_const, true_implies, true_and, and_true, false_implies, reduceCtorEq, List.length_cons, List.length_nil, forall_eq, imp_self, implies_true, if_true, if_false, Bool.false_eq_true, Bool.true_eq_false]
  rw [ind_eq (sortL hG) hd, inD_not h2]
  simp only [starW, W.bind_wp, W.ret_wp, W.want_wp, W.any_wp, s_ite, s_get0, s_get, s_then, s_end, s_run, s_calm, s_fail, s_start1, s_start2, s_start3, s_start4, s_start5, List.replicate, List.set_cons_zero, List.set_cons_succ, asB_bl, asS_str, Nat.reduceSub, Nat.reduceAdd, addW.eq_1, addW.eq_2, addW.eq_3, addW.eq_4, addW.eq_5, subW.eq_1, subW.eq_2, mulW.eq_1, mulW.eq_2, mulW.eq_3, intOp.eq_1, negW.eq_1, ordW.eq_1, ordW.eq_2, isW.eq_1, isntW.eq_1, ixW.eq_1, ixW.eq_2, ixW.eq_3, slW.eq_1, slW.eq_2, slW.eq_3, revTW.eq_1, revLW.eq_1, lenW.eq_1, lenW.eq_2, lenW.eq_3, tupleW.eq_1, tupleW.eq_2, listW.eq_1, listW.eq_2, min2W.eq_1, max2W.eq_1, strW.eq_1, strW.eq_2, joinW.eq_1, joinW.eq_2, walkLW.eq_1, walkTW.eq_1, walkSW.eq_1, range1W.eq_1, zipW.eq_1, zipW.eq_2, tupG.eq_1, gsW.eq_1, gsW.eq_2, par2.eq_1, extW.eq_1, extW.eq_2, partW.eq_1, optW.eq_1, optW.eq_2, modW, fdivW, powW, ltW, leW, gtW, geW, isNone, isi_non, isi_bl, isi_int, isi_str, isi_tup, isi_lst, upperW, putW, appW, tupW, lstW, asB_bl, String.reduceBEq, beq_self_eq_true, Bool.or_true, Bool.true_or, Bool.or_false, Bool.false_or, Bool.and_true, Bool.true_and, Bool.and_false, Bool.false_and, Bool.not_true, Bool.not_false, forall_const, true_implies, true_and, and_true, false_implies, reduceCtorEq, List.length_cons, List.length_nil, forall_eq, imp_self, implies_true, if_true, if_false, Bool.false_eq_true, Bool.true_eq_false]
  refine ⟨small (by omega), ?_⟩
  rw [sort_eq h2]
  simp only [W.bind_wp, W.ret_wp, W.want_wp, W.any_wp, s_ite, s_get0, s_get, s_then, s_end, s_run, s_calm, s_fail, s_start1, s_start2, s_start3, s_start4, s_start5, List.replicate, List.set_cons_zero, List.set_cons_succ, asB_bl, asS_str, Nat.reduceSub, Nat.reduceAdd, addW.eq_1, addW.eq_2, addW.eq_3, addW.eq_4, addW.eq_5, subW.eq_1, subW.eq_2, mulW.eq_1, mulW.eq_2, mulW.eq_3, intOp.eq_1, negW.eq_1, ordW.eq_1, ordW.eq_2, isW.eq_1, isntW.eq_1, ixW.eq_1, ixW.eq_2, ixW.eq_3, slW.eq_1, slW.eq_2, slW.eq_3, revTW.eq_1, revLW.eq_1, lenW.eq_1, lenW.eq_2, lenW.eq_3, tupleW.eq_1, tupleW.eq_2, listW.eq_1, listW.eq_2, min2W.eq_1, max2W.eq_1, strW.eq_1, strW.eq_2, joinW.eq_1, joinW.eq_2, walkLW.eq_1, walkTW.eq_1, walkSW.eq_1, range1W.eq_1, zipW.eq_1, zipW.eq_2, tupG.eq_1, gsW.eq_1, gsW.eq_2, par2.eq_1, extW.eq_1, extW.eq_2, partW.eq_1, optW.eq_1, optW.eq_2, modW, fdivW, powW, ltW, leW, gtW, geW, isNone, isi_non, isi_bl, isi_int, isi_str, isi_tup, isi_lst, upperW, putW, appW, tupW, lstW, asB_bl, String.reduceBEq, beq_self_eq_true, Bool.or_true, Bool.true_or, Bool.or_false, Bool.false_or, Bool.and_true, Bool.true_and, Bool.and_false, Bool.false_and, Bool.not_true, Bool.not_false, forall_const, true_implies, true_and, and_true, false_implies, reduceCtorEq, List.length_cons, List.length_nil, forall_eq, imp_self, implies_true, if_true, if_false, Bool.false_eq_true, Bool.true_eq_false]
  have e : sortPD (sortPD G ++ [d]) = sortPD (G ++ [d]) := h.sort_is ((sort_perm _).trans p) h2.sorted
  rw [e]
  refine (cop_tale (sortL h)).go ?_
  exact q
theorem with_old {G : List D} {d : D} (h : PgL G) (hd : d ∈ G) : Ret (fWith [.tup (sortPD G), d]) (.tup (sortPD G)) := by
  intro Q E q
  have hm : d ∈ sortPD G := (sort_perm G).mem_iff.mpr hd
  refine ⟨rfl, ?_⟩
  show (endW (bWith (startE 2 [.tup (sortPD G), d]))).wp Q E
  simp only [bWith, W.bind_wp, W.ret_wp, W.want_wp, W.any_wp, s_ite, s_get0, s_get, s_then, s_end, s_run, s_calm, s_fail, s_start1, s_start2, s_start3, s_start4, s_start5, List.replicate, List.set_cons_zero, List.set_cons_succ, asB_bl, asS_str, Nat.reduceSub, Nat.reduceAdd, addW.eq_1, addW.eq_2, addW.eq_3, addW.eq_4, addW.eq_5, subW.eq_1, subW.eq_2, mulW.eq_1, mulW.eq_2, mulW.eq_3, intOp.eq_1, negW.eq_1, ordW.eq_1, ordW.eq_2, isW.eq_1, isntW.eq_1, ixW.eq_1, ixW.eq_2, ixW.eq_3, slW.eq_1, slW.eq_2, slW.eq_3, revTW.eq_1, revLW.eq_1, lenW.eq_1, lenW.eq_2, lenW.eq_3, tupleW.eq_1, tupleW.eq_2, listW.eq_1, listW.eq_2, min2W.eq_1, max2W.eq_1, strW.eq_1, strW.eq_2, joinW.eq_1, joinW.eq_2, walkLW.eq_1, walkTW.eq_1, walkSW.eq_1, range1W.eq_1, zipW.eq_1, zipW.eq_2, tupG.eq_1, gsW.eq_1, gsW.eq_2, par2.eq_1, extW.eq_1, extW.eq_2, partW.eq_1, optW.eq_1, optW.eq_2, modW, fdivW, powW, ltW, leW, gtW, geW, isNone, isi_non, isi_bl, isi_int, isi_str, isi_tup, isi_lst, upperW, putW, appW, tupW, lstW, asB_bl, String.reduceBEq, beq_self_eq_true, Bool.or_true, Bool.true_or, Bool.or_false, Bool.false_or, Bool.and_true, Bool.true_and, Bool.and_false, Bool.false_and, Bool.not_true, Bool.not_false, forall_const, true_implies, true_and, and_true, false_implies, reduceCtorEq, List.length_cons, List.length_nil, forall_eq, imp_self, implies_true, if_true, if_false, Bool.false_eq_true, Bool.true_eq_false]
  rw [ind_eq (sortL h) (h.each d hd), inD_yes (sortL h) hm]
  simp only [W.bind_wp, W.ret_wp, W.want_wp, W.any_wp, s_ite, s_get0, s_get, s_then, s_end, s_run, s_calm, s_fail, s_start1, s_start2, s_start3, s_start4, s_start5, List.replicate, List.set_cons_zero, List.set_cons_succ, asB_bl, asS_str, Nat.reduceSub, Nat.reduceAdd, addW.eq_1, addW.eq_2, addW.eq_3, addW.eq_4, addW.eq_5, subW.eq_1, subW.eq_2, mulW.eq_1, mulW.eq_2, mulW.eq_3, intOp.eq_1, negW.eq_1, ordW.eq_1, ordW.eq_2, isW.eq_1, isntW.eq_1, ixW.eq_1, ixW.eq_2, ixW.eq_3, slW.eq_1, slW.eq_2, slW.eq_3, revTW.eq_1, revLW.eq_1, lenW.eq_1, lenW.eq_2, lenW.eq_3, tupleW.eq_1, tupleW.eq_2, listW.eq_1, listW.eq_2, min2W.eq_1, max2W.eq_1, strW.eq_1, strW.eq_2, joinW.eq_1, joinW.eq_2, walkLW.eq_1, walkTW.eq_1, walkSW.eq_1, range1W.eq_1, zipW.eq_1, zipW.eq_2, tupG.eq_1, gsW.eq_1, gsW.eq_2, par2.eq_1, extW.eq_1, extW.eq_2, partW.eq_1, optW.eq_1, optW.eq_2, modW, fdivW, powW, ltW, leW, gtW, geW, isNone, isi_non, isi_bl, isi_int, isi_str, isi_tup, isi_lst, upperW, putW, appW, tupW, lstW, asB_bl, String.reduceBEq, beq_self_eq_true, Bool.or_true, Bool.true_or, Bool.or_false, Bool.false_or, Bool.and_true, Bool.true_and, Bool.and_false, Bool.false_and, Bool.not_true, Bool.not_false, forall_const, true_implies, true_and, and_true, false_implies, reduceCtorEq, List.length_cons, List.length_nil, forall_eq, imp_self, implies_true, if_true, if_false, Bool.false_eq_true, Bool.true_eq_false]
  refine (cop_tale (sortL h)).go ?_
  exact q
theorem sh_page {d : D} (h : Pg d) : D.sh d := ⟨h.sz.pl, Nat.le_trans h.sz.dep (by decide)⟩
theorem without_ret {G : List D} {d : D} (h : PgL G) (hd : Pg d) : Ret (fWithout [.tup G, d]) (.tup (G.filter fun g => !D.eqv g d)) := by
  intro Q E q
  have hl := h.len
  refine ⟨rfl, ?_⟩
  show (endW (bWithout (startE 3 [.tup G, d]))).wp Q E
  simp only [bWithout, W.bind_wp, W.ret_wp, W.want_wp, W.any_wp, s_ite, s_get0, s_get, s_then, s_end, s_run, s_calm, s_fail, s_start1, s_start2, s_start3, s_start4, s_start5, List.replicate, List.set_cons_zero, List.set_cons_succ, asB_bl, asS_str, Nat.reduceSub, Nat.reduceAdd, addW.eq_1, addW.eq_2, addW.eq_3, addW.eq_4, addW.eq_5, subW.eq_1, subW.eq_2, mulW.eq_1, mulW.eq_2, mulW.eq_3, intOp.eq_1, negW.eq_1, ordW.eq_1, ordW.eq_2, isW.eq_1, isntW.eq_1, ixW.eq_1, ixW.eq_2, ixW.eq_3, slW.eq_1, slW.eq_2, slW.eq_3, revTW.eq_1, revLW.eq_1, lenW.eq_1, lenW.eq_2, lenW.eq_3, tupleW.eq_1, tupleW.eq_2, listW.eq_1, listW.eq_2, min2W.eq_1, max2W.eq_1, strW.eq_1, strW.eq_2, joinW.eq_1, joinW.eq_2, walkLW.eq_1, walkTW.eq_1, walkSW.eq_1, range1W.eq_1, zipW.eq_1, zipW.eq_2, tupG.eq_1, gsW.eq_1, gsW.eq_2, par2.eq_1, extW.eq_1, extW.eq_2, partW.eq_1, optW.eq_1, optW.eq_2, modW, fdivW, powW, ltW, leW, gtW, geW, isNone, isi_non, isi_bl, isi_int, isi_str, isi_tup, isi_lst, upperW, putW, appW, tupW, lstW, asB_bl, String.reduceBEq, beq_self_eq_true, Bool.or_true, Bool.true_or, Bool.or_false, Bool.false_or, Bool.and_true, Bool.true_and, Bool.and_false, Bool.false_and, Bool.not_true, Bool.not_false, forall_const, true_implies, true_and, and_true, false_implies, reduceCtorEq, List.length_cons, List.length_nil, forall_eq, imp_self, implies_true, if_true, if_false, Bool.false_eq_true, Bool.true_eq_false]
  refine Ret.go (lc_ret (ds := G) (fun g => !D.eqv g d) (fun g => g) (fun Q E q => q) (small (by omega)) fun g hg => ?_) ?_
  · simp only [wipeE, W.bind_wp, W.ret_wp, W.want_wp, W.any_wp, s_ite, s_get0, s_get, s_then, s_end, s_run, s_calm, s_fail, s_start1, s_start2, s_start3, s_start4, s_start5, List.replicate, List.set_cons_zero, List.set_cons_succ, asB_bl, asS_str, Nat.reduceSub, Nat.reduceAdd, addW.eq_1, addW.eq_2, addW.eq_3, addW.eq_4, addW.eq_5, subW.eq_1, subW.eq_2, mulW.eq_1, mulW.eq_2, mulW.eq_3, intOp.eq_1, negW.eq_1, ordW.eq_1, ordW.eq_2, isW.eq_1, isntW.eq_1, ixW.eq_1, ixW.eq_2, ixW.eq_3, slW.eq_1, slW.eq_2, slW.eq_3, revTW.eq_1, revLW.eq_1, lenW.eq_1, lenW.eq_2, lenW.eq_3, tupleW.eq_1, tupleW.eq_2, listW.eq_1, listW.eq_2, min2W.eq_1, max2W.eq_1, strW.eq_1, strW.eq_2, joinW.eq_1, joinW.eq_2, walkLW.eq_1, walkTW.eq_1, walkSW.eq_1, range1W.eq_1, zipW.eq_1, zipW.eq_2, tupG.eq_1, gsW.eq_1, gsW.eq_2, par2.eq_1, extW.eq_1, extW.eq_2, partW.eq_1, optW.eq_1, optW.eq_2, modW, fdivW, powW, ltW, leW, gtW, geW, isNone, isi_non, isi_bl, isi_int, isi_str, isi_tup, isi_lst, upperW, putW, appW, tupW, lstW, asB_bl, String.reduceBEq, beq_self_eq_true, Bool.or_true, Bool.true_or, Bool.or_false, Bool.false_or, Bool.and_true, Bool.true_and, Bool.and_false, Bool.false_and, Bool.not_true, Bool.not_false, forall_const, true_implies, true_and, and_true, false_implies, reduceCtorEq, List.length_cons, List.length_nil, forall_eq, imp_self, implies_true, if_true, if_false, Bool.false_eq_true, Bool.true_eq_false]
    rw [neW_sh (sh_page (h.each g hg)) (sh_page hd)]
    simp only [W.bind_wp, W.ret_wp, W.want_wp, W.any_wp, s_ite, s_get0, s_get, s_then, s_end, s_run, s_calm, s_fail, s_start1, s_start2, s_start3, s_start4, s_start5, List.replicate, List.set_cons_zero, List.set_cons_succ, asB_bl, asS_str, Nat.reduceSub, Nat.reduceAdd, addW.eq_1, addW.eq_2, addW.eq_3, addW.eq_4, addW.eq_5, subW.eq_1, subW.eq_2, mulW.eq_1, mulW.eq_2, mulW.eq_3, intOp.eq_1, negW.eq_1, ordW.eq_1, ordW.eq_2, isW.eq_1, isntW.eq_1, ixW.eq_1, ixW.eq_2, ixW.eq_3, slW.eq_1, slW.eq_2, slW.eq_3, revTW.eq_1, revLW.eq_1, lenW.eq_1, lenW.eq_2, lenW.eq_3, tupleW.eq_1, tupleW.eq_2, listW.eq_1, listW.eq_2, min2W.eq_1, max2W.eq_1, strW.eq_1, strW.eq_2, joinW.eq_1, joinW.eq_2, walkLW.eq_1, walkTW.eq_1, walkSW.eq_1, range1W.eq_1, zipW.eq_1, zipW.eq_2, tupG.eq_1, gsW.eq_1, gsW.eq_2, par2.eq_1, extW.eq_1, extW.eq_2, partW.eq_1, optW.eq_1, optW.eq_2, modW, fdivW, powW, ltW, leW, gtW, geW, isNone, isi_non, isi_bl, isi_int, isi_str, isi_tup, isi_lst, upperW, putW, appW, tupW, lstW, asB_bl, String.reduceBEq, beq_self_eq_true, Bool.or_true, Bool.true_or, Bool.or_false, Bool.false_or, Bool.and_true, Bool.true_and, Bool.and_false, Bool.false_and, Bool.not_true, Bool.not_false, forall_const, true_implies, true_and, and_true, false_implies, reduceCtorEq, List.length_cons, List.length_nil, forall_eq, imp_self, implies_true, if_true, if_false, Bool.false_eq_true, Bool.true_eq_false]
    exact fun _ => (cop_page (h.each g hg)).go rfl
  · rw [List.map_id'' (fun _ => rfl)]
    simp only [W.bind_wp, W.ret_wp, W.want_wp, W.any_wp, s_ite, s_get0, s_get, s_then, s_end, s_run, s_calm, s_fail, s_start1, s_start2, s_start3, s_start4, s_start5, List.replicate, List.set_cons_zero, List.set_cons_succ, asB_bl, asS_str, Nat.reduceSub, Nat.reduceAdd, addW.eq_1, addW.eq_2, addW.eq_3, addW.eq_4, addW.eq_5, subW.eq_1, subW.eq_2, mulW.eq_1, mulW.eq_2, mulW.eq_3, intOp.eq_1, negW.eq_1, ordW.eq_1, ordW.eq_2, isW.eq_1, isntW.eq_1, ixW.eq_1, ixW.eq_2, ixW.eq_3, slW.eq_1, slW.eq_2, slW.eq_3, revTW.eq_1, revLW.eq_1, lenW.eq_1, lenW.eq_2, lenW.eq_3, tupleW.eq_1, tupleW.eq_2, listW.eq_1, listW.eq_2, min2W.eq_1, max2W.eq_1, strW.eq_1, strW.eq_2, joinW.eq_1, joinW.eq_2, walkLW.eq_1, walkTW.eq_1, walkSW.eq_1, range1W.eq_1, zipW.eq_1, zipW.eq_2, tupG.eq_1, gsW.eq_1, gsW.eq_2, par2.eq_1, extW.eq_1, extW.eq_2, partW.eq_1, optW.eq_1, optW.eq_2, modW, fdivW, powW, ltW, leW, gtW, geW, isNone, isi_non, isi_bl, isi_int, isi_str, isi_tup, isi_lst, upperW, putW, appW, tupW, lstW, asB_bl, String.reduceBEq, beq_self_eq_true, Bool.or_true, Bool.true_or, Bool.or_false, Bool.false_or, Bool.and_true, Bool.true_and, Bool.and_false, Bool.false_and, Bool.not_true, Bool.not_false, forall_const, true_implies, true_and, and_true, false_implies, reduceCtorEq, List.length_cons, List.length_nil, forall_eq, imp_self, implies_true, if_true, if_false, Bool.false_eq_true, Bool.true_eq_false]
    exact q
/-- up to an hour, or all -/
def utB (cl : D) (d : D) : Bool := match cl with
  | .int c => decide ((pk d).1 ≤ c)
  | _ => true
def Clk (d : D) : Prop := d = .non ∨ ∃ c : Int, d = .int c
theorem ut_test {G : List D} {cl : D} (h : PgL G) (hc : Clk cl) {g : D} (hg : g ∈ G) {Q : Bool → Prop} {E : Ex → Prop} (q : Q (utB cl g)) :
    ((isW cl .non).bind fun d => (asB d).bind fun k => W.ite k (W.ret true) (((ixW g (.int 0)).bind fun x => leW x cl).bind asB)).wp Q E := by
  obtain ⟨c, j, e, rfl, _⟩ := h.each g hg
  rcases hc with rfl | ⟨t, rfl⟩
  · simp only [W.bind_wp, W.ret_wp, W.want_wp, W.any_wp, s_ite, s_get0, s_get, s_then, s_end, s_run, s_calm, s_fail, s_start1, s_start2, s_start3, s_start4, s_start5, List.replicate, List.set_cons_zero, List.set_cons_succ, asB_bl, asS_str, Nat.reduceSub, Nat.reduceAdd, addW.eq_1, addW.eq_2, addW.eq_3, addW.eq_4, addW.eq_5, subW.eq_1, subW.eq_2, mulW.eq_1, mulW.eq_2, mulW.eq_3, intOp.eq_1, negW.eq_1, ordW.eq_1, ordW.eq_2, isW.eq_1, isntW.eq_1, ixW.eq_1, ixW.eq_2, ixW.eq_3, slW.eq_1, slW.eq_2, slW.eq_3, revTW.eq_1, revLW.eq_1, lenW.eq_1, lenW.eq_2, lenW.eq_3, tupleW.eq_1, tupleW.eq_2, listW.eq_1, listW.eq_2, min2W.eq_1, max2W.eq_1, strW.eq_1, strW.eq_2, joinW.eq_1, joinW.eq_2, walkLW.eq_1, walkTW.eq_1, walkSW.eq_1, range1W.eq_1, zipW.eq_1, zipW.eq_2, tupG.eq_1, gsW.eq_1, gsW.eq_2, par2.eq_1, extW.eq_1, extW.eq_2, partW.eq_1, optW.eq_1, optW.eq_2, modW, fdivW, powW, ltW, leW, gtW, geW, isNone, isi_non, isi_bl, isi_int, isi_str, isi_tup, isi_lst, upperW, putW, appW, tupW, lstW, asB_bl, String.reduceBEq, beq_self_eq_true, Bool.or_true, Bool.true_or, Bool.or_false, Bool.false_or, Bool.and_true, Bool.true_and, Bool.and_false, Bool.false_and, Bool.not_true, Bool.not_false, forall_const, true_implies, true_and, and_true, false_implies, reduceCtorEq, List.length_cons, List.length_nil, forall_eq, imp_self, implies_true, if_true, if_false, Bool.false_eq_true, Bool.true_eq_false]
    exact q
  · have a0 : atI [D.int c, .int (j : Int), e] 0 = some (.int c) := rfl
    simp only [a0, W.bind_wp, W.ret_wp, W.want_wp, W.any_wp, s_ite, s_get0, s_get, s_then, s_end, s_run, s_calm, s_fail, s_start1, s_start2, s_start3, s_start4, s_start5, List.replicate, List.set_cons_zero, List.set_cons_succ, asB_bl, asS_str, Nat.reduceSub, Nat.reduceAdd, addW.eq_1, addW.eq_2, addW.eq_3, addW.eq_4, addW.eq_5, subW.eq_1, subW.eq_2, mulW.eq_1, mulW.eq_2, mulW.eq_3, intOp.eq_1, negW.eq_1, ordW.eq_1, ordW.eq_2, isW.eq_1, isntW.eq_1, ixW.eq_1, ixW.eq_2, ixW.eq_3, slW.eq_1, slW.eq_2, slW.eq_3, revTW.eq_1, revLW.eq_1, lenW.eq_1, lenW.eq_2, lenW.eq_3, tupleW.eq_1, tupleW.eq_2, listW.eq_1, listW.eq_2, min2W.eq_1, max2W.eq_1, strW.eq_1, strW.eq_2, joinW.eq_1, joinW.eq_2, walkLW.eq_1, walkTW.eq_1, walkSW.eq_1, range1W.eq_1, zipW.eq_1, zipW.eq_2, tupG.eq_1, gsW.eq_1, gsW.eq_2, par2.eq_1, extW.eq_1, extW.eq_2, partW.eq_1, optW.eq_1, optW.eq_2, modW, fdivW, powW, ltW, leW, gtW, geW, isNone, isi_non, isi_bl, isi_int, isi_str, isi_tup, isi_lst, upperW, putW, appW, tupW, lstW, asB_bl, String.reduceBEq, beq_self_eq_true, Bool.or_true, Bool.true_or, Bool.or_false, Bool.false_or, Bool.and_true, Bool.true_and, Bool.and_false, Bool.false_and, Bool.not_true, Bool.not_false, forall_const, true_implies, true_and, and_true, false_implies, reduceCtorEq, List.length_cons, List.length_nil, forall_eq, imp_self, implies_true, if_true, if_false, Bool.false_eq_true, Bool.true_eq_false]
    exact q
theorem until_ret {G : List D} {cl : D} (h : PgL G) (hc : Clk cl) : Ret (fUntil [.tup G, cl]) (.tup (G.filter (utB cl))) := by
  intro Q E q
  have hl := h.len
  refine ⟨rfl, ?_⟩
  show (endW (bUntil (startE 3 [.tup G, cl]))).wp Q E
  simp only [bUntil, W.bind_wp, W.ret_wp, W.want_wp, W.any_wp, s_ite, s_get0, s_get, s_then, s_end, s_run, s_calm, s_fail, s_start1, s_start2, s_start3, s_start4, s_start5, List.replicate, List.set_cons_zero, List.set_cons_succ, asB_bl, asS_str, Nat.reduceSub, Nat.reduceAdd, addW.eq_1, addW.eq_2, addW.eq_3, addW.eq_4, addW.eq_5, subW.eq_1, subW.eq_2, mulW.eq_1, mulW.eq_2, mulW.eq_3, intOp.eq_1, negW.eq_1, ordW.eq_1, ordW.eq_2, isW.eq_1, isntW.eq_1, ixW.eq_1, ixW.eq_2, ixW.eq_3, slW.eq_1, slW.eq_2, slW.eq_3, revTW.eq_1, revLW.eq_1, lenW.eq_1, lenW.eq_2, lenW.eq_3, tupleW.eq_1, tupleW.eq_2, listW.eq_1, listW.eq_2, min2W.eq_1, max2W.eq_1, strW.eq_1, strW.eq_2, joinW.eq_1, joinW.eq_2, walkLW.eq_1, walkTW.eq_1, walkSW.eq_1, range1W.eq_1, zipW.eq_1, zipW.eq_2, tupG.eq_1, gsW.eq_1, gsW.eq_2, par2.eq_1, extW.eq_1, extW.eq_2, partW.eq_1, optW.eq_1, optW.eq_2, modW, fdivW, powW, ltW, leW, gtW, geW, isNone, isi_non, isi_bl, isi_int, isi_str, isi_tup, isi_lst, upperW, putW, appW, tupW, lstW, asB_bl, String.reduceBEq, beq_self_eq_true, Bool.or_true, Bool.true_or, Bool.or_false, Bool.false_or, Bool.and_true, Bool.true_and, Bool.and_false, Bool.false_and, Bool.not_true, Bool.not_false, forall_const, true_implies, true_and, and_true, false_implies, reduceCtorEq, List.length_cons, List.length_nil, forall_eq, imp_self, implies_true, if_true, if_false, Bool.false_eq_true, Bool.true_eq_false]
  refine Ret.go (lc_ret (ds := G) (utB cl) (fun g => g) (fun Q E q => q) (small (by omega)) fun g hg => ?_) ?_
  · have := ut_test h hc hg (Q := fun b => b = utB cl g ∧ (b = true → (fCop 12 [g]).wp (fun y => y = g) fun _ => False)) (E := fun _ => False) ⟨rfl, fun _ => (cop_page (h.each g hg)).go rfl⟩
    simp only [wipeE, W.bind_wp, W.ret_wp, W.want_wp, W.any_wp, s_ite, s_get0, s_get, s_then, s_end, s_run, s_calm, s_fail, s_start1, s_start2, s_start3, s_start4, s_start5, List.replicate, List.set_cons_zero, List.set_cons_succ, asB_bl, asS_str, Nat.reduceSub, Nat.reduceAdd, addW.eq_1, addW.eq_2, addW.eq_3, addW.eq_4, addW.eq_5, subW.eq_1, subW.eq_2, mulW.eq_1, mulW.eq_2, mulW.eq_3, intOp.eq_1, negW.eq_1, ordW.eq_1, ordW.eq_2, isW.eq_1, isntW.eq_1, ixW.eq_1, ixW.eq_2, ixW.eq_3, slW.eq_1, slW.eq_2, slW.eq_3, revTW.eq_1, revLW.eq_1, lenW.eq_1, lenW.eq_2, lenW.eq_3, tupleW.eq_1, tupleW.eq_2, listW.eq_1, listW.eq_2, min2W.eq_1, max2W.eq_1, strW.eq_1, strW.eq_2, joinW.eq_1, joinW.eq_2, walkLW.eq_1, walkTW.eq_1, walkSW.eq_1, range1W.eq_1, zipW.eq_1, zipW.eq_2, tupG.eq_1, gsW.eq_1, gsW.eq_2, par2.eq_1, extW.eq_1, extW.eq_2, partW.eq_1, optW.eq_1, optW.eq_2, modW, fdivW, powW, ltW, leW, gtW, geW, isNone, isi_non, isi_bl, isi_int, isi_str, isi_tup, isi_lst, upperW, putW, appW, tupW, lstW, asB_bl, String.reduceBEq, beq_self_eq_true, Bool.or_true, Bool.true_or, Bool.or_false, Bool.false_or, Bool.and_true, Bool.true_and, Bool.and_false, Bool.false_and, Bool.not_true, Bool.not_false, forall_const, true_implies, true_and, and_true, false_implies, reduceCtorEq, List.length_cons, List.length_nil, forall_eq, imp_self, implies_true, if_true, if_false, Bool.false_eq_true, Bool.true_eq_false] at this ⊢
    exact this
  · rw [List.map_id'' (fun _ => rfl)]
    simp only [W.bind_wp, W.ret_wp, W.want_wp, W.any_wp, s_ite, s_get0, s_get, s_then, s_end, s_run, s_calm, s_fail, s_start1, s_start2, s_start3, s_start4, s_start5, List.replicate, List.set_cons_zero, List.set_cons_succ, asB_bl, asS_str, Nat.reduceSub, Nat.reduceAdd, addW.eq_1, addW.eq_2, addW.eq_3, addW.eq_4, addW.eq_5, subW.eq_1, subW.eq_2, mulW.eq_1, mulW.eq_2, mulW.eq_3, intOp.eq_1, negW.eq_1, ordW.eq_1, ordW.eq_2, isW.eq_1, isntW.eq_1, ixW.eq_1, ixW.eq_2, ixW.eq_3, slW.eq_1, slW.eq_2, slW.eq_3, revTW.eq_1, revLW.eq_1, lenW.eq_1, lenW.eq_2, lenW.eq_3, tupleW.eq_1, tupleW.eq_2, listW.eq_1, listW.eq_2, min2W.eq_1, max2W.eq_1, strW.eq_1, strW.eq_2, joinW.eq_1, joinW.eq_2, walkLW.eq_1, walkTW.eq_1, walkSW.eq_1, range1W.eq_1, zipW.eq_1, zipW.eq_2, tupG.eq_1, gsW.eq_1, gsW.eq_2, par2.eq_1, extW.eq_1, extW.eq_2, partW.eq_1, optW.eq_1, optW.eq_2, modW, fdivW, powW, ltW, leW, gtW, geW, isNone, isi_non, isi_bl, isi_int, isi_str, isi_tup, isi_lst, upperW, putW, appW, tupW, lstW, asB_bl, String.reduceBEq, beq_self_eq_true, Bool.or_true, Bool.true_or, Bool.or_false, Bool.false_or, Bool.and_true, Bool.true_and, Bool.and_false, Bool.false_and, Bool.not_true, Bool.not_false, forall_const, true_implies, true_and, and_true, false_implies, reduceCtorEq, List.length_cons, List.length_nil, forall_eq, imp_self, implies_true, if_true, if_false, Bool.false_eq_true, Bool.true_eq_false]
    exact q
theorem upTo_ret {G : List D} {cl : D} (h : PgL G) (hc : Clk cl) : Ret (fUpTo [.lst G, cl]) (.lst (G.filter (utB cl))) := by
  intro Q E q
  have hl := h.len
  refine ⟨rfl, ?_⟩
  show (endW (bUpTo (startE 3 [.lst G, cl]))).wp Q E
  simp only [bUpTo, W.bind_wp, W.ret_wp, W.want_wp, W.any_wp, s_ite, s_get0, s_get, s_then, s_end, s_run, s_calm, s_fail, s_start1, s_start2, s_start3, s_start4, s_start5, List.replicate, List.set_cons_zero, List.set_cons_succ, asB_bl, asS_str, Nat.reduceSub, Nat.reduceAdd, addW.eq_1, addW.eq_2, addW.eq_3, addW.eq_4, addW.eq_5, subW.eq_1, subW.eq_2, mulW.eq_1, mulW.eq_2, mulW.eq_3, intOp.eq_1, negW.eq_1, ordW.eq_1, ordW.eq_2, isW.eq_1, isntW.eq_1, ixW.eq_1, ixW.eq_2, ixW.eq_3, slW.eq_1, slW.eq_2, slW.eq_3, revTW.eq_1, revLW.eq_1, lenW.eq_1, lenW.eq_2, lenW.eq_3, tupleW.eq_1, tupleW.eq_2, listW.eq_1, listW.eq_2, min2W.eq_1, max2W.eq_1, strW.eq_1, strW.eq_2, joinW.eq_1, joinW.eq_2, walkLW.eq_1, walkTW.eq_1, walkSW.eq_1, range1W.eq_1, zipW.eq_1, zipW.eq_2, tupG.eq_1, gsW.eq_1, gsW.eq_2, par2.eq_1, extW.eq_1, extW.eq_2, partW.eq_1, optW.eq_1, optW.eq_2, modW, fdivW, powW, ltW, leW, gtW, geW, isNone, isi_non, isi_bl, isi_int, isi_str, isi_tup, isi_lst, upperW, putW, appW, tupW, lstW, asB_bl, String.reduceBEq, beq_self_eq_true, Bool.or_true, Bool.true_or, Bool.or_false, Bool.false_or, Bool.and_true, Bool.true_and, Bool.and_false, Bool.false_and, Bool.not_true, Bool.not_false, forall_const, true_implies, true_and, and_true, false_implies, reduceCtorEq, List.length_cons, List.length_nil, forall_eq, imp_self, implies_true, if_true, if_false, Bool.false_eq_true, Bool.true_eq_false]
  refine Ret.go (lc_ret (ds := G) (utB cl) (fun g => g) (fun Q E q => q) (small (by omega)) fun g hg => ?_) ?_
  · have := ut_test h hc hg (Q := fun b => b = utB cl g ∧ (b = true → g = g)) (E := fun _ => False) ⟨rfl, fun _ => rfl⟩
    simp only [wipeE, W.bind_wp, W.ret_wp, W.want_wp, W.any_wp, s_ite, s_get0, s_get, s_then, s_end, s_run, s_calm, s_fail, s_start1, s_start2, s_start3, s_start4, s_start5, List.replicate, List.set_cons_zero, List.set_cons_succ, asB_bl, asS_str, Nat.reduceSub, Nat.reduceAdd, addW.eq_1, addW.eq_2, addW.eq_3, addW.eq_4, addW.eq_5, subW.eq_1, subW.eq_2, mulW.eq_1, mulW.eq_2, mulW.eq_3, intOp.eq_1, negW.eq_1, ordW.eq_1, ordW.eq_2, isW.eq_1, isntW.eq_1, ixW.eq_1, ixW.eq_2, ixW.eq_3, slW.eq_1, slW.eq_2, slW.eq_3, revTW.eq_1, revLW.eq_1, lenW.eq_1, lenW.eq_2, lenW.eq_3, tupleW.eq_1, tupleW.eq_2, listW.eq_1, listW.eq_2, min2W.eq_1, max2W.eq_1, strW.eq_1, strW.eq_2, joinW.eq_1, joinW.eq_2, walkLW.eq_1, walkTW.eq_1, walkSW.eq_1, range1W.eq_1, zipW.eq_1, zipW.eq_2, tupG.eq_1, gsW.eq_1, gsW.eq_2, par2.eq_1, extW.eq_1, extW.eq_2, partW.eq_1, optW.eq_1, optW.eq_2, modW, fdivW, powW, ltW, leW, gtW, geW, isNone, isi_non, isi_bl, isi_int, isi_str, isi_tup, isi_lst, upperW, putW, appW, tupW, lstW, asB_bl, String.reduceBEq, beq_self_eq_true, Bool.or_true, Bool.true_or, Bool.or_false, Bool.false_or, Bool.and_true, Bool.true_and, Bool.and_false, Bool.false_and, Bool.not_true, Bool.not_false, forall_const, true_implies, true_and, and_true, false_implies, reduceCtorEq, List.length_cons, List.length_nil, forall_eq, imp_self, implies_true, if_true, if_false, Bool.false_eq_true, Bool.true_eq_false] at this ⊢
    exact this
  · rw [List.map_id'' (fun _ => rfl)]
    exact q
end LP.K74
namespace LP
open PySem PySem.Spec PyProof.Rows L2 PK LP
end LP
namespace LP
open PySem PySem.Spec PyProof.Rows L2 PK
/-! ### drawn rows -/
structure RS (fs ss : List Str) (b : Int) (n : Nat) (L : List PRow) : Prop where
  len : L.length ≤ n
  each : ∀ r ∈ L, r.1 ∈ fs ∧ r.2.1 ∈ ss ∧ 1 ≤ r.2.2 ∧ r.2.2 ≤ b
theorem RS.nil {fs ss : List Str} {b : Int} : RS fs ss b 0 [] := ⟨Nat.le_refl _, fun _ h => (nomatch h)⟩
theorem RS.mono {fs ss : List Str} {b : Int} {n m : Nat} {L : List PRow} (h : RS fs ss b n L) (k : n ≤ m) : RS fs ss b m L := ⟨Nat.le_trans h.len k, h.each⟩
theorem RS.snoc {fs ss : List Str} {b : Int} {n : Nat} {L : List PRow} {f y : Str} {m : Int} (h : RS fs ss b n L) (hf : f ∈ fs) (hy : y ∈ ss) (h1 : 1 ≤ m) (h2 : m ≤ b) : RS fs ss b (n + 1) (L ++ [(f, y, m)]) := ⟨by have := h.len; simp; omega, fun r hr => by
  rcases List.mem_append.mp hr with z | z
  · exact h.each r z
  · rw [List.mem_singleton.mp z]
    exact ⟨hf, hy, h1, h2⟩⟩
theorem RS.cons {fs ss : List Str} {b : Int} {n : Nat} {L : List PRow} {f y : Str} {m : Int} (h : RS fs ss b n L) (hf : f ∈ fs) (hy : y ∈ ss) (h1 : 1 ≤ m) (h2 : m ≤ b) : RS fs ss b (n + 1) ((f, y, m) :: L) := ⟨by have := h.len; simp; omega, fun r hr => by
  rcases List.mem_cons.mp hr with z | z
  · rw [z]
    exact ⟨hf, hy, h1, h2⟩
  · exact h.each r z⟩
end LP
namespace LP
open PySem PySem.Spec PyProof.Rows L2 PK LP
end LP
namespace LP.K12
open PySem PySem.Spec PyProof.Rows L2 PK LP
end LP.K12
namespace LP
open PySem PySem.Spec PyProof.Rows L2 PK LP RZ
theorem whileN_wp {t : Env → W Bool} {p : Env → W Fl} {Q : Fl → Prop} {E : Ex → Prop} (P : Nat → Env → Prop)
    (hs : ∀ m env, P m env → (t env).wp (fun b => (b = true → (p env).wp (fun f => match f with | .nx e => ∃ j, j < m ∧ P j e | .ct e => ∃ j, j < m ∧ P j e | .bk e => Q (.nx e) | .rt d => Q (.rt d)) E) ∧ (b = false → Q (.nx env))) E) :
    ∀ k m env, m < k → P m env → (whileN t p k env).wp Q E
  | 0, m, env, h, _ => absurd h (Nat.not_lt_zero _)
  | k + 1, m, env, h, hp => by
    refine (t env).mono (fun b hb => ?_) (fun _ z => z) (hs m env hp)
    cases b with
    | false => exact hb.2 rfl
    | true =>
      refine (p env).mono (fun f hf => ?_) (fun _ z => z) (hb.1 rfl)
      cases f with
      | nx e =>
        obtain ⟨j, hj, hq⟩ := hf
        exact whileN_wp P hs k j e (by omega) hq
      | ct e =>
        obtain ⟨j, hj, hq⟩ := hf
        exact whileN_wp P hs k j e (by omega) hq
      | bk e => exact hf
      | rt d => exact hf
theorem while_wp {t : Env → W Bool} {p : Env → W Fl} {Q : Fl → Prop} {E : Ex → Prop} {env : Env} (P : Nat → Env → Prop) (m : Nat) (h0 : P m env)
    (hs : ∀ m env, P m env → (t env).wp (fun b => (b = true → (p env).wp (fun f => match f with | .nx e => ∃ j, j < m ∧ P j e | .ct e => ∃ j, j < m ∧ P j e | .bk e => Q (.nx e) | .rt d => Q (.rt d)) E) ∧ (b = false → Q (.nx env))) E) : (whileW t p env).wp Q E :=
  ⟨m + 1, whileN_wp P hs (m + 1) m env (Nat.lt_succ_self _) h0⟩
/-! ### keys -/
def keyT (k : PKey) : D := .tup [.str k.1, .str k.2]
end LP
namespace LP
open PySem PySem.Spec PyProof.Rows L2 PK LP RZ
end LP
namespace LP
open PySem PySem.Spec PyProof.Rows L2 PK LP RZ
/-! ### a drawn sheet, by its wants -/
abbrev WT := Str × List Str × Int
structure WIn (fs ss : List Str) (w : WT) : Prop where
  f : w.1 ∈ fs
  z : w.2.1.Sublist (sortS ss)
  lo : 1 ≤ w.2.2
  hi : w.2.2 ≤ 1000000000
structure ShIn (fs ss : List Str) (S : List (List (List WT))) : Prop where
  few : S.length ≤ 3
  row : ∀ r ∈ S, r.length ≤ 3
  way : ∀ r ∈ S, ∀ y ∈ r, y.length ≤ 3
  each : ∀ r ∈ S, ∀ y ∈ r, ∀ w ∈ y, WIn fs ss w
end LP
namespace LP.K12
open PySem PySem.Spec PyProof.Rows L2 PK LP RZ
/-! ### pairs of words -/
/-! ### rows renamed -/
end LP.K12
namespace LP.K12
open PySem PySem.Spec PyProof.Rows L2 PK LP RZ
/-! ### wants renamed -/
structure ShZ (S : List (List (List WT))) : Prop where
  few : S.length ≤ 100
  row : ∀ r ∈ S, r.length ≤ 100
  way : ∀ r ∈ S, ∀ y ∈ r, y.length ≤ 100
  z : ∀ r ∈ S, ∀ y ∈ r, ∀ w ∈ y, w.2.1.length ≤ 100
end LP.K12
namespace LP.K12
open PySem PySem.Spec PyProof.Rows L2 PK LP RZ
/-- each once, as they come -/
def once (ns : List Str) (y : Str) : List Str := if y ∈ ns then ns else ns ++ [y]
section
variable {P R : List (Str × Str)} {E : Ex → Prop} {e0 e3 e4 e5 e6 e7 e8 e9 e10 e12 e13 : Option D}
end
end LP.K12
namespace LP
open PySem PySem.Spec PyProof.Rows L2 PK
/-! ### counts -/
end LP
namespace LP
open PySem PySem.Spec PyProof.Rows L2 PK
/-! ### drawn wants -/
abbrev WRow := Str × List Str × Int
def swT (w : WRow) : D := .tup [.str w.1, .tup (w.2.1.map D.str), .int w.2.2]
def swsT (l : List WRow) : D := .tup (l.map swT)
structure WS (fs ss : List Str) (w : WRow) : Prop where
  f : w.1 ∈ fs
  len : w.2.1.length ≤ 10
  sh : ∀ y ∈ w.2.1, y ∈ ss
  lo : 1 ≤ w.2.2
  hi : w.2.2 ≤ 1000000000
end LP
namespace LP
open PySem PySem.Spec PyProof.Rows L2 PK
end LP
namespace LP.K06
open PySem PySem.Spec PyProof.Rows L2 PK LP
end LP.K06
namespace LP.K06
open PySem PySem.Spec PyProof.Rows L2 PK RZ
/-- so great a thing may come of d -/
def Near (m dp n : Nat) (d : D) : Prop := Sz (m + 1) (dp + 1) (2 * n + 10 * m + 300) d
theorem Szs.get {m dp n : Nat} {l : List D} {k : Nat} (h : Szs m dp n l) (hk : k < l.length) : wts (D.toPs (l.take k)) + (wt l[k].toP + 2) + wts (D.toPs (l.drop (k + 1))) = wts (D.toPs l) := by
  have e : l = l.take k ++ ([l[k]] ++ l.drop (k + 1)) := by
    rw [List.singleton_append, ← List.drop_eq_getElem_cons hk, List.take_append_drop]
  have e2 := congrArg (fun x => wts (D.toPs x)) e
  simp only [toPs_app, wts_app] at e2
  rw [e2]
  show _ = _ + (wt l[k].toP + 2 + 0 + _)
  omega
theorem Near.of {m dp n : Nat} {d : D} (h : Sz m dp n d) : Near m dp n d := h.mono (by omega) (by omega) (by omega)
end LP.K06
namespace LP.K06
open PySem PySem.Spec PyProof.Rows L2 PK RZ
end LP.K06
namespace LP.K17
open PySem PySem.Spec PyProof.Rows L2 PK LP
end LP.K17
namespace LP.K17
open PySem PySem.Spec PyProof.Rows L2 PK LP RZ
/-! ### the wants of the methods -/
structure Good (n : Nat) (b : Int) (L : List PRow) : Prop where
  ok : RowsOk n b L
  up : Rises (L.map fun r => pkD (PK.pk r))
/-! ### what a deed tells -/
end LP.K17
namespace LP
open PySem PySem.Spec PyProof.Rows L2 PK
/-! ### what is wanted and held at a place -/
def within (zs : List Str) : Option (List Str) → Bool
  | none => true
  | some ys => !zs.isEmpty && zs.all fun y => decide (y ∈ ys)
end LP
/-! A def that has a store of its own, as one that has none; x is True. -/
namespace LP
open PySem PySem.Spec PyProof.Rows L2 PK RZ
mutual
def D.noTok : D → Bool
  | .tok _ => false
  | .tup l => D.noToks l
  | .lst l => D.noToks l
  | .obj _ l => D.noToks l
  | _ => true
def D.noToks : List D → Bool
  | [] => true
  | d :: l => d.noTok && D.noToks l
end
section
variable {Γ : Sig} {fe fe' : Fd} {H : Hp}
mutual
theorem Rp.cast : ∀ {d : D} {v : V}, d.noTok = true → Rp ⟨Γ, fe⟩ H v d → Rp ⟨Γ, fe'⟩ H v d
  | .non, _, _, .non => .non
  | .bl _, _, _, .bl b => .bl b
  | .int _, _, _, .int i => .int i
  | .str _, _, _, .str y h => .str y h
  | .tup _, _, h, .tup hs ha => .tup hs (RpAll.cast h ha)
  | .lst _, _, h, .lst hs ha => .lst hs (RpAll.cast h ha)
  | .obj _ _, _, h, .obj h1 h2 ha => .obj h1 h2 (RpAll.cast h ha)
  | .tok _, _, h, _ => by cases h
  | .set _, _, _, .set h n o => .set h n o
  | .txt _, _, _, .txt s => .txt s
  | .dct _ _, _, _, .dct h o e1 e2 => .dct h o e1 e2
theorem RpAll.cast : ∀ {ds : List D} {vs : List V}, D.noToks ds = true → RpAll ⟨Γ, fe⟩ H vs ds → RpAll ⟨Γ, fe'⟩ H vs ds
  | [], _, _, .nil => .nil
  | d :: ds, _, h, .cons h1 h2 => by
    have h : (d.noTok && D.noToks ds) = true := h
    rw [Bool.and_eq_true] at h
    exact .cons (Rp.cast h.1 h1) (RpAll.cast h.2 h2)
end
end
/-! ### x is True, x is not True -/
section
variable {X : Cx} {Ξ : Ctx} {H0 : Hp} {O : List Nat} {a b : Expr} {pos : Pos} {pa pb : Env → W D}
end
end LP
namespace LP
open PySem PySem.Spec PyProof.Rows L2 PK LP
end LP
namespace LP
open PySem PySem.Spec PyProof.Rows L2 PK
/-! ### a form and shades, as a key -/
abbrev Ent := Str × List Str
def entD (e : Ent) : D := .tup [.str e.1, .tup (e.2.map D.str)]
theorem ent_toP (e : Ent) : (entD e).toP = .tuple [.str e.1, .tuple (e.2.map PyData.str)] := by
  show PyData.tuple [.str e.1, .tuple (D.toPs (e.2.map D.str))] = _
  rw [toPs_strs]
theorem alike_strs : ∀ a b : List Str, PySem.W.alikeAll (a.map PyData.str) (b.map PyData.str) = true
  | [], _ => by cases ‹List Str› <;> simp [PySem.W.alikeAll]
  | _ :: _, [] => by simp [PySem.W.alikeAll]
  | a :: l, b :: m => by
    rw [List.map_cons, List.map_cons, PySem.W.alikeAll, alike_strs l m]
    simp [PySem.W.alike]
def entP (e : Ent) : PyData := (entD e).toP
theorem ent_alike (a b : Ent) : PySem.W.alike (entP a) (entP b) = true := by
  unfold entP
  rw [ent_toP, ent_toP]
  simp [PySem.W.alike, PySem.W.alikeAll, alike_strs]
theorem ents_alike (es : List Ent) : PySem.W.AllAlike (es.map entP) := PySem.W.AllAlike.of ent_alike
theorem strs_inj : ∀ {a b : List Str}, a.map PyData.str = b.map PyData.str → a = b
  | [], [], _ => rfl
  | [], _ :: _, h => by cases h
  | _ :: _, [], h => by cases h
  | x :: a, y :: b, h => by
    rw [List.map_cons, List.map_cons] at h
    injection h with h1 h2
    injection h1 with h1
    rw [h1, strs_inj h2]
theorem entP_inj {a b : Ent} (h : entP a = entP b) : a = b := by
  unfold entP at h
  rw [ent_toP, ent_toP] at h
  injection h with h
  injection h with h1 h2
  injection h1 with h1
  injection h2 with h2 _
  injection h2 with h2
  exact Prod.ext h1 (strs_inj h2)
def sortE (es : List Ent) : List Ent := srt false entP es
theorem sortE_perm (es : List Ent) : (sortE es).Perm es := srt_perm false _ _
/-! ### a dict by such keys -/
/-! ### wants of like keys added -/
abbrev WTr := Str × List Str × Int
def wk (w : WTr) : Ent := (w.1, w.2.1)
def cntE : List WTr → Ent → Int
  | [], _ => 0
  | w :: ws, k => (if wk w = k then w.2.2 else 0) + cntE ws k
theorem cntE_cons (w : WTr) (ws : List WTr) (k : Ent) : cntE (w :: ws) k = (if wk w = k then w.2.2 else 0) + cntE ws k := rfl
def nubE : List Ent → List Ent
  | [] => []
  | k :: ks => k :: (nubE ks).filter fun q => decide (q ≠ k)
theorem mem_nubE {k : Ent} : ∀ {ks : List Ent}, k ∈ nubE ks ↔ k ∈ ks
  | [] => Iff.rfl
  | q :: ks => by
    show k ∈ q :: _ ↔ _
    rw [List.mem_cons, List.mem_cons, List.mem_filter, mem_nubE (ks := ks)]
    by_cases e : k = q
    · simp [e]
    · simp [e]
theorem nodup_nubE : ∀ ks : List Ent, (nubE ks).Nodup
  | [] => List.nodup_nil
  | q :: ks => List.nodup_cons.mpr ⟨fun h => by
      have := (List.mem_filter.mp h).2
      simp at this, (nodup_nubE ks).filter _⟩
theorem nodup_mapE {ks : List Ent} (h : ks.Nodup) : (ks.map entP).Nodup := by
  unfold List.Nodup at h ⊢
  exact List.pairwise_map.mpr (h.imp fun {a b} q e => q (entP_inj e))
theorem mapE_inj {ks ls : List Ent} : ks.map entP = ls.map entP → ks = ls := by
  induction ks generalizing ls with
  | nil => intro h; cases ls with
    | nil => rfl
    | cons => cases h
  | cons k ks ih =>
    intro h
    cases ls with
    | nil => cases h
    | cons l ls =>
      rw [List.map_cons, List.map_cons] at h
      injection h with h1 h2
      rw [entP_inj h1, ih h2]
theorem rises_sortE {ks : List Ent} (h : ks.Nodup) : Rises ((sortE ks).map entP) := srt_rises (ents_alike ks) (nodup_mapE h)
theorem risesE_ext {ks ls : List Ent} (h1 : Rises (ks.map entP)) (h2 : Rises (ls.map entP)) (hm : ∀ k, k ∈ ks ↔ k ∈ ls) : ks = ls := by
  refine mapE_inj (rises_ext h1 h2 fun d => ⟨fun hd => ?_, fun hd => ?_⟩)
  · obtain ⟨k, hk, rfl⟩ := List.mem_map.mp hd
    exact List.mem_map.mpr ⟨k, (hm k).mp hk, rfl⟩
  · obtain ⟨k, hk, rfl⟩ := List.mem_map.mp hd
    exact List.mem_map.mpr ⟨k, (hm k).mpr hk, rfl⟩
def ekeys (ws : List WTr) : List Ent := sortE (nubE (ws.map wk))
def tidyV (ws : List WTr) : List WTr := (ekeys ws).map fun k => (k.1, k.2, cntE ws k)
theorem mem_ekeys {ws : List WTr} {k : Ent} : k ∈ ekeys ws ↔ k ∈ ws.map wk := ((sortE_perm _).mem_iff).trans mem_nubE
theorem ekeys_rises (ws : List WTr) : Rises ((ekeys ws).map entP) := rises_sortE (nodup_nubE _)
theorem ekeys_of {ws : List WTr} {ks : List Ent} (h : Rises (ks.map entP)) (hm : ∀ k, k ∈ ks ↔ k ∈ ws.map wk) : ks = ekeys ws := risesE_ext h (ekeys_rises ws) fun k => (hm k).trans mem_ekeys.symm
theorem tidyV_of {L M : List WTr} (h : Rises ((M.map wk).map entP)) (hm : ∀ k, k ∈ M.map wk ↔ k ∈ L.map wk) (hc : ∀ r ∈ M, r.2.2 = cntE L (wk r)) : M = tidyV L := by
  have e : M.map wk = ekeys L := ekeys_of h hm
  unfold tidyV
  rw [← e, List.map_map]
  symm
  refine (List.map_congr_left (g := id) fun r hr => ?_).trans (List.map_id _)
  show (r.1, r.2.1, cntE L (wk r)) = r
  rw [← hc r hr]
/-- wants taken out by the least keys -/
structure LeastE (L M R : List WTr) : Prop where
  up : Rises ((M.map wk).map entP)
  ahead : ∀ r ∈ M, ∀ q ∈ R, dlt (entP (wk r)) (entP (wk q)) = true
  all : ∀ k, k ∈ L.map wk ↔ k ∈ M.map wk ∨ k ∈ R.map wk
  many : ∀ r ∈ M, r.2.2 = cntE L (wk r)
  rest : ∀ k ∈ R.map wk, cntE R k = cntE L k
theorem LeastE.start (L : List WTr) : LeastE L [] L := ⟨List.Pairwise.nil, fun _ h => (nomatch h), fun k => ⟨Or.inr, fun h => h.resolve_left (fun z => nomatch z)⟩, fun _ h => (nomatch h), fun _ _ => rfl⟩
theorem LeastE.done {L M : List WTr} (h : LeastE L M []) : M = tidyV L := tidyV_of h.up (fun k => ⟨fun z => (h.all k).mpr (Or.inl z), fun z => ((h.all k).mp z).resolve_right (fun z => nomatch z)⟩) h.many
theorem cntE_filter {R : List WTr} {z k : Ent} (h : k ≠ z) : cntE (R.filter fun w => decide (wk w ≠ z)) k = cntE R k := by
  induction R with
  | nil => rfl
  | cons w R ih =>
    by_cases e : wk w = z
    · rw [List.filter_cons_of_neg (by simp [e]), ih, cntE_cons, if_neg (fun y => h (y.symm.trans e))]
      omega
    · rw [List.filter_cons_of_pos (by simp [e]), cntE_cons, cntE_cons, ih]
theorem LeastE.next {L M R : List WTr} {z : Ent} (h : LeastE L M R) (hz : z ∈ R.map wk) (hl : ∀ q ∈ R, wk q ≠ z → dlt (entP z) (entP (wk q)) = true) : LeastE L (M ++ [(z.1, z.2, cntE R z)]) (R.filter fun w => decide (wk w ≠ z)) := by
  refine ⟨?_, fun r hr q hq => ?_, fun k => ?_, fun r hr => ?_, fun k hk => ?_⟩
  · unfold Rises
    rw [List.map_append, List.map_append]
    refine List.pairwise_append.mpr ⟨h.up, List.pairwise_singleton _ _, fun d hd e he => ?_⟩
    obtain ⟨k, hk, rfl⟩ := List.mem_map.mp hd
    obtain ⟨r, hr, rfl⟩ := List.mem_map.mp hk
    have : e = entP z := List.mem_singleton.mp he
    rw [this]
    obtain ⟨q, hq, rfl⟩ := List.mem_map.mp hz
    exact h.ahead r hr q hq
  · obtain ⟨q1, q2⟩ := List.mem_filter.mp hq
    rcases List.mem_append.mp hr with hr | hr
    · exact h.ahead r hr q q1
    · rw [List.mem_singleton.mp hr]
      exact hl q q1 (of_decide_eq_true q2)
  · rw [h.all k, List.map_append, List.mem_append]
    have e1 : k ∈ [((z.1, z.2, cntE R z) : WTr)].map wk ↔ k = z := by
      rw [List.map_singleton, List.mem_singleton]
      exact Iff.rfl
    rw [e1]
    constructor
    · rintro (a | a)
      · exact .inl (.inl a)
      · by_cases e : k = z
        · exact .inl (.inr e)
        · obtain ⟨q, hq, rfl⟩ := List.mem_map.mp a
          exact .inr (List.mem_map.mpr ⟨q, List.mem_filter.mpr ⟨hq, decide_eq_true e⟩, rfl⟩)
    · rintro ((a | a) | a)
      · exact .inl a
      · rw [a]
        exact .inr hz
      · obtain ⟨q, hq, rfl⟩ := List.mem_map.mp a
        exact .inr (List.mem_map.mpr ⟨q, (List.mem_filter.mp hq).1, rfl⟩)
  · rcases List.mem_append.mp hr with hr | hr
    · exact h.many r hr
    · rw [List.mem_singleton.mp hr]
      exact h.rest z hz
  · obtain ⟨q, hq, rfl⟩ := List.mem_map.mp hk
    obtain ⟨q1, q2⟩ := List.mem_filter.mp hq
    rw [cntE_filter (of_decide_eq_true q2)]
    exact h.rest _ (List.mem_map.mpr ⟨q, q1, rfl⟩)
end LP
namespace LP
open PySem PySem.Spec PyProof.Rows L2 PK
section
variable {ks : List Ent} {f : Ent → Int} {Q : D → LM.Sto → Prop} {E : Ex → LM.Sto → Prop}
end
end LP
/-! Dicts of the store by keys of any kind, by value. -/
namespace LP
open PySem PySem.Spec PyProof.Rows L2 PK
structure KInj {K : Type} (κ : K → D) : Prop where
  inj : ∀ a b, LM.nD (κ a) = LM.nD (κ b) ↔ a = b
  ok : ∀ k, LM.KeyOk (κ k)
abbrev insK {K : Type} [DecidableEq K] (ks : List K) (k : K) : List K := if k ∈ ks then ks else ks ++ [k]
section
variable {K : Type} [DecidableEq K] {κ : K → D} (I : KInj κ)
include I
end
section
variable {K : Type} [DecidableEq K] {κ : K → D} (I : KInj κ) {ks : List K} {f : K → Int} {E : Ex → LM.Sto → Prop}
include I
end
theorem mem_insK {K : Type} [DecidableEq K] {ks : List K} {k q : K} : q ∈ insK ks k ↔ q ∈ ks ∨ q = k := by
  unfold insK
  by_cases h : k ∈ ks
  · rw [if_pos h]
    constructor
    · exact .inl
    · rintro (z | rfl)
      · exact z
      · exact h
  · rw [if_neg h, List.mem_append, List.mem_singleton]
end LP
/-! Parts led to wants: what holds all the time, and why a set of shades that is reached bars. Each want with what it lacks and what it has. -/
namespace LP
open PySem PySem.Spec PyProof.Rows L2 PK
abbrev LdT := List (WRow × Int × List PRow)
def rsum (g : List PRow) : Int := (g.map fun r => r.2.2).sum
def allG (T : LdT) : List PRow := T.flatMap fun t => t.2.2
/-- fr: wants of no shades may have parts of any -/
structure LInv (fr : Bool) (L : List PRow) (T : LdT) (left : List PRow) : Prop where
  nnl : ∀ k, 0 ≤ PK.cnt left k
  nnk : ∀ t ∈ T, 0 ≤ t.2.1
  pos : ∀ t ∈ T, ∀ r ∈ t.2.2, 1 ≤ r.2.2
  form : ∀ t ∈ T, ∀ r ∈ t.2.2, r.1 = t.1.1
  sh : ∀ t ∈ T, ∀ r ∈ t.2.2, r.2.1 ∈ t.1.2.1 ∨ (fr = true ∧ t.1.2.1 = [])
  tot : ∀ t ∈ T, rsum t.2.2 + t.2.1 = t.1.2.2
  all : ∀ k, PK.cnt left k + PK.cnt (allG T) k = PK.cnt L k
/-- how many parts of some shades -/
def sel1 (f : Str) (S : List Str) (r : PRow) : Bool := (r.1 == f) && decide (r.2.1 ∈ S)
def hsum (L : List PRow) (f : Str) (S : List Str) : Int := ((L.filter (sel1 f S)).map fun r => r.2.2).sum
def csum (L : List PRow) (f : Str) (S : List Str) : Int := (S.map fun y => PK.cnt L (f, y)).sum
theorem csum_nil (f : Str) : ∀ S : List Str, csum [] f S = 0
  | [] => rfl
  | y :: S => by
    show 0 + csum [] f S = 0
    rw [csum_nil f S]
    rfl
theorem csum_row (r : PRow) (f : Str) : ∀ {S : List Str}, S.Nodup → (S.map fun y => if PK.pk r = (f, y) then r.2.2 else 0).sum = if sel1 f S r = true then r.2.2 else 0
  | [], _ => by
    have : sel1 f [] r = false := by simp [sel1]
    rw [this]
    rfl
  | y :: S, nd => by
    obtain ⟨n1, n2⟩ := List.nodup_cons.mp nd
    rw [List.map_cons, List.sum_cons, csum_row r f n2]
    by_cases e : PK.pk r = (f, y)
    · rw [if_pos e]
      have e1 : r.1 = f := congrArg Prod.fst e
      have e2 : r.2.1 = y := congrArg Prod.snd e
      have s1 : sel1 f (y :: S) r = true := by simp [sel1, e1, e2]
      have s2 : sel1 f S r = false := by
        have : ¬ r.2.1 ∈ S := by rw [e2]; exact n1
        simp [sel1, this]
      rw [s1, s2]
      simp
    · rw [if_neg e]
      have : sel1 f (y :: S) r = sel1 f S r := by
        unfold sel1
        by_cases e1 : r.1 = f
        · have e2 : r.2.1 ≠ y := fun z => e (by rw [← e1, ← z]; rfl)
          simp [e1, e2]
        · have e3 : (r.1 == f) = false := by rw [beq_eq_false_iff_ne]; exact e1
          rw [e3]
          rfl
      rw [this]
      omega
theorem csum_cons (r : PRow) (L : List PRow) (f : Str) : ∀ S : List Str, csum (r :: L) f S = (S.map fun y => if PK.pk r = (f, y) then r.2.2 else 0).sum + csum L f S
  | [] => rfl
  | y :: S => by
    have ih := csum_cons r L f S
    show (PK.cnt (r :: L) (f, y)) + csum (r :: L) f S = ((if PK.pk r = (f, y) then r.2.2 else 0) + (S.map fun y => if PK.pk r = (f, y) then r.2.2 else 0).sum) + (PK.cnt L (f, y) + csum L f S)
    rw [ih, PK.cnt_cons]
    generalize (S.map fun y => if PK.pk r = (f, y) then r.2.2 else 0).sum = a at *
    omega
theorem hsum_csum (f : Str) {S : List Str} (nd : S.Nodup) : ∀ L : List PRow, hsum L f S = csum L f S
  | [] => (csum_nil f S).symm
  | r :: L => by
    rw [csum_cons, csum_row r f nd, ← hsum_csum f nd L]
    unfold hsum
    by_cases e : sel1 f S r = true
    · rw [List.filter_cons_of_pos e, if_pos e]
      rfl
    · rw [List.filter_cons_of_neg e, if_neg e]
      omega
theorem csum_congr {L M : List PRow} {f : Str} : ∀ {S : List Str}, (∀ y ∈ S, PK.cnt L (f, y) = PK.cnt M (f, y)) → csum L f S = csum M f S
  | [], _ => rfl
  | y :: S, h => by
    show PK.cnt L (f, y) + csum L f S = PK.cnt M (f, y) + csum M f S
    rw [h y List.mem_cons_self, csum_congr fun z hz => h z (List.mem_cons_of_mem _ hz)]
/-- a want that lets none but these shades -/
def inner (f : Str) (S : List Str) (w : WRow) : Bool := (w.1 == f) && within w.2.1 (some S)
end LP
/-! Parts led along a way: what a want has is a dict of parts, its keys once each, its numbers from 1 on. -/
namespace LP
open PySem PySem.Spec PyProof.Rows L2 PK
/-- a dict of parts as part rows -/
def dRows (ks : List PKey) (f : PKey → Int) : List PRow := ks.map fun k => (k.1, k.2, f k)
theorem cnt_dRows {f : PKey → Int} : ∀ {ks : List PKey}, ks.Nodup → ∀ k, PK.cnt (dRows ks f) k = if k ∈ ks then f k else 0
  | [], _, k => rfl
  | q :: ks, h, k => by
    obtain ⟨h1, h2⟩ := List.nodup_cons.mp h
    have e : dRows (q :: ks) f = (q.1, q.2, f q) :: dRows ks f := rfl
    rw [e, PK.cnt_cons, cnt_dRows h2 k]
    show (if q = k then f q else 0) + _ = _
    by_cases e : q = k
    · subst e
      rw [if_pos rfl, if_neg h1, if_pos List.mem_cons_self]
      omega
    · rw [if_neg e]
      by_cases z : k ∈ ks
      · rw [if_pos z, if_pos (List.mem_cons_of_mem _ z)]
        omega
      · rw [if_neg z, if_neg (fun y => (List.mem_cons.mp y).elim (fun y => e y.symm) z)]
        rfl
theorem rsum_dRows (ks : List PKey) (f : PKey → Int) : rsum (dRows ks f) = (ks.map f).sum := by
  unfold rsum dRows
  rw [List.map_map]
  rfl
/-- so many of a part more: the sum -/
theorem sum_more {f g : PKey → Int} {p : PKey} {m : Int} (hg : ∀ k, g k = f k + if k = p then m else 0) : ∀ {ks : List PKey}, ks.Nodup → (ks.map g).sum = (ks.map f).sum + if p ∈ ks then m else 0
  | [], _ => rfl
  | k :: ks, h => by
    obtain ⟨h1, h2⟩ := List.nodup_cons.mp h
    rw [List.map_cons, List.map_cons, List.sum_cons, List.sum_cons, sum_more hg h2, hg k]
    by_cases e : k = p
    · subst e
      rw [if_pos rfl, if_neg h1, if_pos List.mem_cons_self]
      omega
    · rw [if_neg e]
      by_cases z : p ∈ ks
      · rw [if_pos z, if_pos (List.mem_cons_of_mem _ z)]
        omega
      · rw [if_neg z, if_neg (fun y => (List.mem_cons.mp y).elim (fun y => e y.symm) z)]
        omega
/-- a dict of parts, none of nought -/
structure DOk (ks : List PKey) (f : PKey → Int) : Prop where
  nd : ks.Nodup
  pos : ∀ k ∈ ks, 1 ≤ f k
  off : ∀ k, k ∉ ks → f k = 0
theorem DOk.nil : DOk [] fun _ => 0 := ⟨List.nodup_nil, fun _ h => (nomatch h), fun _ _ => rfl⟩
theorem DOk.nn {ks : List PKey} {f : PKey → Int} (h : DOk ks f) (k : PKey) : 0 ≤ f k := by
  by_cases z : k ∈ ks
  · have := h.pos k z
    omega
  · rw [h.off k z]
    exact Int.le_refl _
theorem DOk.cnt {ks : List PKey} {f : PKey → Int} (h : DOk ks f) (k : PKey) : PK.cnt (dRows ks f) k = f k := by
  rw [cnt_dRows h.nd]
  by_cases z : k ∈ ks
  · rw [if_pos z]
  · rw [if_neg z, h.off k z]
/-- the keys behind add_gift -/
def gKeys (ks : List PKey) (g : PKey → Int) (p : PKey) : List PKey := if g p = 0 then (insK ks p).filter fun k => decide (k ≠ p) else insK ks p
theorem insK_nodup {ks : List PKey} {p : PKey} (h : ks.Nodup) : (insK ks p).Nodup := by
  unfold insK
  by_cases z : p ∈ ks
  · rw [if_pos z]
    exact h
  · rw [if_neg z]
    refine List.nodup_append.mpr ⟨h, List.nodup_cons.mpr ⟨List.not_mem_nil, List.nodup_nil⟩, fun a ha b hb e => z ?_⟩
    rw [List.mem_singleton.mp hb] at e
    rw [← e]
    exact ha
theorem sum_filter0 {g : PKey → Int} {p : PKey} (z : g p = 0) : ∀ ks : List PKey, ((ks.filter fun k => decide (k ≠ p)).map g).sum = (ks.map g).sum
  | [] => rfl
  | k :: ks => by
    by_cases e : k = p
    · rw [List.filter_cons_of_neg (by simp [e]), sum_filter0 z ks, List.map_cons, List.sum_cons, e, z]
      omega
    · rw [List.filter_cons_of_pos (by simp [e]), List.map_cons, List.map_cons, List.sum_cons, List.sum_cons, sum_filter0 z ks]
theorem DOk.sum {ks : List PKey} {f g : PKey → Int} {p : PKey} {m : Int} (h : DOk ks f) (hg : ∀ k, g k = f k + if k = p then m else 0) : rsum (dRows (gKeys ks g p) g) = rsum (dRows ks f) + m := by
  rw [rsum_dRows, rsum_dRows]
  have e1 : ((gKeys ks g p).map g).sum = ((insK ks p).map g).sum := by
    unfold gKeys
    by_cases z : g p = 0
    · rw [if_pos z]
      exact sum_filter0 z _
    · rw [if_neg z]
  have e2 : ((insK ks p).map f).sum = (ks.map f).sum := by
    unfold insK
    by_cases z : p ∈ ks
    · rw [if_pos z]
    · rw [if_neg z, List.map_append, List.sum_append, List.map_cons, List.map_nil, List.sum_cons, List.sum_nil, h.off p z]
      omega
  rw [e1, sum_more hg (insK_nodup h.nd), e2, if_pos (mem_insK.mpr (.inr rfl))]
end LP
/-! Parts handed on along a way, step by step: what is missing meanwhile. -/
namespace LP
open PySem PySem.Spec PyProof.Rows L2 PK
theorem cnt_allG_set {t t' : WRow × Int × List PRow} (k : PKey) : ∀ {T : LdT} {i : Nat}, T[i]? = some t → PK.cnt (allG (T.set i t')) k + PK.cnt t.2.2 k = PK.cnt (allG T) k + PK.cnt t'.2.2 k
  | [], i, h => by simp at h
  | u :: T, 0, h => by
    have h : u = t := by simpa using h
    subst h
    show PK.cnt (t'.2.2 ++ allG T) k + _ = PK.cnt (u.2.2 ++ allG T) k + _
    rw [PK.cnt_app, PK.cnt_app]
    omega
  | u :: T, i + 1, h => by
    have ih := cnt_allG_set (t' := t') k (T := T) (i := i) (by simpa using h)
    show PK.cnt (u.2.2 ++ allG (T.set i t')) k + _ = PK.cnt (u.2.2 ++ allG T) k + _
    rw [PK.cnt_app, PK.cnt_app]
    omega
/-- on the way: m parts of miss are with nobody, the want s has yet to get m -/
structure LMid (fr : Bool) (L : List PRow) (T : LdT) (left : List PRow) (miss : PKey) (m : Int) (s : Nat) : Prop where
  nnl : ∀ k, 0 ≤ PK.cnt left k
  nnk : ∀ t ∈ T, 0 ≤ t.2.1
  pos : ∀ t ∈ T, ∀ r ∈ t.2.2, 1 ≤ r.2.2
  form : ∀ t ∈ T, ∀ r ∈ t.2.2, r.1 = t.1.1
  sh : ∀ t ∈ T, ∀ r ∈ t.2.2, r.2.1 ∈ t.1.2.1 ∨ (fr = true ∧ t.1.2.1 = [])
  tot : ∀ i t, T[i]? = some t → rsum t.2.2 + t.2.1 + (if i = s then m else 0) = t.1.2.2
  all : ∀ k, PK.cnt left k + PK.cnt (allG T) k + (if k = miss then m else 0) = PK.cnt L k
theorem mem_set {α : Type} {T : List α} {i : Nat} {t x : α} (h : x ∈ T.set i t) : x = t ∨ x ∈ T := by
  rcases List.mem_or_eq_of_mem_set h with h | h
  · exact .inr h
  · exact .inl h
/-- the way begins: m parts of the end are taken, the want that lacks is to get as many -/
theorem LInv.start {fr : Bool} {L : List PRow} {T : LdT} {left left' : List PRow} (h : LInv fr L T left) {s : Nat} {t : WRow × Int × List PRow} {e : PKey} {m : Int} (ht : T[s]? = some t) (hl : ∀ k, PK.cnt left' k = PK.cnt left k - if k = e then m else 0) (h0 : m ≤ PK.cnt left e) (h1 : m ≤ t.2.1) (hm : 0 ≤ m) :
    LMid fr L (T.set s (t.1, t.2.1 - m, t.2.2)) left' e m s where
  nnl := fun k => by
    have := h.nnl k
    rw [hl k]
    by_cases z : k = e
    · rw [if_pos z, z]
      omega
    · rw [if_neg z]
      omega
  nnk := fun u hu => by
    rcases mem_set hu with rfl | hu
    · show 0 ≤ t.2.1 - m
      omega
    · exact h.nnk u hu
  pos := fun u hu => by
    rcases mem_set hu with rfl | hu
    · exact h.pos t (List.mem_of_getElem? ht)
    · exact h.pos u hu
  form := fun u hu => by
    rcases mem_set hu with rfl | hu
    · exact h.form t (List.mem_of_getElem? ht)
    · exact h.form u hu
  sh := fun u hu => by
    rcases mem_set hu with rfl | hu
    · exact h.sh t (List.mem_of_getElem? ht)
    · exact h.sh u hu
  tot := fun i u hu => by
    rw [List.getElem?_set] at hu
    by_cases z : s = i
    · rw [if_pos z] at hu
      have hs : s < T.length := (List.getElem?_eq_some_iff.mp ht).1
      rw [if_pos hs] at hu
      injection hu with hu
      subst hu
      have := h.tot t (List.mem_of_getElem? ht)
      rw [if_pos z.symm]
      show rsum t.2.2 + (t.2.1 - m) + m = t.1.2.2
      omega
    · rw [if_neg z] at hu
      rw [if_neg fun y => z y.symm]
      have := h.tot u (List.mem_of_getElem? hu)
      omega
  all := fun k => by
    have a := h.all k
    have b := cnt_allG_set (t' := (t.1, t.2.1 - m, t.2.2)) k ht
    have c := hl k
    have b : PK.cnt (allG (T.set s (t.1, t.2.1 - m, t.2.2))) k + PK.cnt t.2.2 k = PK.cnt (allG T) k + PK.cnt t.2.2 k := b
    omega
/-- what a step makes of a gift -/
structure GStep (fr : Bool) (g g' : List PRow) (f : Str) (zs : List Str) (got : PKey) (m : Int) (gone : Option PKey) : Prop where
  cnt : ∀ k, PK.cnt g' k = PK.cnt g k + (if k = got then m else 0) - (if gone = some k then m else 0)
  sum : rsum g' = rsum g + m - (if gone = none then 0 else m)
  pos : ∀ r ∈ g', 1 ≤ r.2.2
  form : ∀ r ∈ g', r.1 = f
  sh : ∀ r ∈ g', r.2.1 ∈ zs ∨ (fr = true ∧ zs = [])
/-- a step that hands on -/
theorem LMid.step {fr : Bool} {L : List PRow} {T : LdT} {left : List PRow} {miss : PKey} {m : Int} {s a : Nat} (h : LMid fr L T left miss m s) {t : WRow × Int × List PRow} {g' : List PRow} {gone : PKey} (ht : T[a]? = some t) (g : GStep fr t.2.2 g' t.1.1 t.1.2.1 miss m (some gone)) :
    LMid fr L (T.set a (t.1, t.2.1, g')) left gone m s where
  nnl := h.nnl
  nnk := fun u hu => by
    rcases mem_set hu with rfl | hu
    · exact h.nnk t (List.mem_of_getElem? ht)
    · exact h.nnk u hu
  pos := fun u hu => by
    rcases mem_set hu with rfl | hu
    · exact g.pos
    · exact h.pos u hu
  form := fun u hu => by
    rcases mem_set hu with rfl | hu
    · exact g.form
    · exact h.form u hu
  sh := fun u hu => by
    rcases mem_set hu with rfl | hu
    · exact g.sh
    · exact h.sh u hu
  tot := fun i u hu => by
    rw [List.getElem?_set] at hu
    by_cases z : a = i
    · rw [if_pos z] at hu
      have hs : a < T.length := (List.getElem?_eq_some_iff.mp ht).1
      rw [if_pos hs] at hu
      injection hu with hu
      subst hu
      subst z
      have e := h.tot a t ht
      have e2 : rsum g' = rsum t.2.2 + m - m := g.sum
      show rsum g' + t.2.1 + _ = t.1.2.2
      omega
    · rw [if_neg z] at hu
      exact h.tot i u hu
  all := fun k => by
    have e1 := h.all k
    have b : PK.cnt (allG (T.set a (t.1, t.2.1, g'))) k + PK.cnt t.2.2 k = PK.cnt (allG T) k + PK.cnt g' k := cnt_allG_set (t' := (t.1, t.2.1, g')) k ht
    have c := g.cnt k
    have e2 : (if (some gone : Option PKey) = some k then m else 0) = if k = gone then m else 0 := by
      by_cases z : k = gone
      · rw [if_pos z, if_pos (by rw [z])]
      · rw [if_neg z, if_neg fun y => z (Option.some.inj y).symm]
    rw [e2] at c
    omega
/-- the last step: the want that lacked gets them -/
theorem LMid.last {fr : Bool} {L : List PRow} {T : LdT} {left : List PRow} {miss : PKey} {m : Int} {s : Nat} (h : LMid fr L T left miss m s) {t : WRow × Int × List PRow} {g' : List PRow} (ht : T[s]? = some t) (g : GStep fr t.2.2 g' t.1.1 t.1.2.1 miss m none) :
    LInv fr L (T.set s (t.1, t.2.1, g')) left where
  nnl := h.nnl
  nnk := fun u hu => by
    rcases mem_set hu with rfl | hu
    · exact h.nnk t (List.mem_of_getElem? ht)
    · exact h.nnk u hu
  pos := fun u hu => by
    rcases mem_set hu with rfl | hu
    · exact g.pos
    · exact h.pos u hu
  form := fun u hu => by
    rcases mem_set hu with rfl | hu
    · exact g.form
    · exact h.form u hu
  sh := fun u hu => by
    rcases mem_set hu with rfl | hu
    · exact g.sh
    · exact h.sh u hu
  tot := fun u hu => by
    obtain ⟨i, hu⟩ := List.mem_iff_getElem?.mp hu
    rw [List.getElem?_set] at hu
    by_cases z : s = i
    · rw [if_pos z] at hu
      have hs : s < T.length := (List.getElem?_eq_some_iff.mp ht).1
      rw [if_pos hs] at hu
      injection hu with hu
      subst hu
      have e := h.tot s t ht
      rw [if_pos rfl] at e
      have e2 : rsum g' = rsum t.2.2 + m - 0 := g.sum
      show rsum g' + t.2.1 = t.1.2.2
      omega
    · rw [if_neg z] at hu
      have e := h.tot i u hu
      rw [if_neg fun y => z y.symm] at e
      omega
  all := fun k => by
    have e1 := h.all k
    have b : PK.cnt (allG (T.set s (t.1, t.2.1, g'))) k + PK.cnt t.2.2 k = PK.cnt (allG T) k + PK.cnt g' k := cnt_allG_set (t' := (t.1, t.2.1, g')) k ht
    have c := g.cnt k
    have e2 : (if (none : Option PKey) = some k then m else 0) = 0 := if_neg (fun z => nomatch z)
    rw [e2] at c
    omega
end LP
/-! What is given is served, and then nothing bars; what a want lacks is filled from what is left. -/
namespace LP
open PySem PySem.Spec PyProof.Rows L2 PK
theorem LInv.loose {fr : Bool} {L : List PRow} {T : LdT} {left : List PRow} (h : LInv fr L T left) : LInv true L T left where
  nnl := h.nnl
  nnk := h.nnk
  pos := h.pos
  form := h.form
  sh := fun t ht r hr => (h.sh t ht r hr).elim .inl fun z => .inr ⟨rfl, z.2⟩
  tot := h.tot
  all := h.all
/-- the same of all parts of a form -/
def fsum (L : List PRow) (f : Str) : Int := ((L.filter fun r => r.1 == f).map fun r => r.2.2).sum
theorem fsum_app (L M : List PRow) (f : Str) : fsum (L ++ M) f = fsum L f + fsum M f := by
  unfold fsum
  rw [List.filter_append, List.map_append, List.sum_append]
theorem fsum_csum {f : Str} {S : List Str} (nd : S.Nodup) {L : List PRow} (h : ∀ r ∈ L, r.1 = f → r.2.1 ∈ S) : fsum L f = csum L f S := by
  rw [← hsum_csum f nd]
  unfold fsum hsum
  congr 2
  refine List.filter_congr fun r hr => ?_
  unfold sel1
  by_cases e : r.1 = f
  · rw [e, decide_eq_true (h r hr e), Bool.and_true]
  · rw [show (r.1 == f) = false from beq_eq_false_iff_ne.mpr e, Bool.false_and]
/-- as many of each part: as many of a form -/
theorem fsum_congr {L M : List PRow} {f : Str} (h : ∀ k, PK.cnt L k = PK.cnt M k) : fsum L f = fsum M f := by
  have nd := PK.nodup_nub ((L ++ M).map fun r => PK.pk r)
  have mk : ∀ A : List PRow, (∀ r ∈ A, r ∈ L ++ M) → fsum A f = csum A f (((PK.nub ((L ++ M).map fun r => PK.pk r)).filter fun k => k.1 == f).map fun k => k.2) := fun A hA => by
    refine fsum_csum ?_ fun r hr e => ?_
    · refine List.pairwise_map.mpr ((nd.filter _).imp_of_mem fun {a b} ha hb q e => q ?_)
      have h1 := (List.mem_filter.mp ha).2
      have h2 := (List.mem_filter.mp hb).2
      rw [beq_iff_eq] at h1 h2
      exact Prod.ext (h1.trans h2.symm) e
    · refine List.mem_map.mpr ⟨PK.pk r, List.mem_filter.mpr ⟨PK.mem_nub.mpr (List.mem_map.mpr ⟨r, hA r hr, rfl⟩), ?_⟩, rfl⟩
      rw [beq_iff_eq]
      exact e
  rw [mk L fun r hr => List.mem_append_left _ hr, mk M fun r hr => List.mem_append_right _ hr]
  exact csum_congr fun y _ => h _
/-- how much wants of a form want, and lack -/
def wsum (T : LdT) (f : Str) : Int := ((T.filter fun t => t.1.1 == f).map fun t => t.1.2.2).sum
def ksum (T : LdT) (f : Str) : Int := ((T.filter fun t => t.1.1 == f).map fun t => t.2.1).sum
theorem fsum_all {T : LdT} {f : Str} (h3 : ∀ t ∈ T, ∀ r ∈ t.2.2, r.1 = t.1.1) (h5 : ∀ t ∈ T, rsum t.2.2 + t.2.1 = t.1.2.2) : fsum (allG T) f + ksum T f = wsum T f := by
  induction T with
  | nil => rfl
  | cons t T ih =>
    have ih := ih (fun t h => h3 t (List.mem_cons_of_mem _ h)) (fun t h => h5 t (List.mem_cons_of_mem _ h))
    have a3 := h3 t List.mem_cons_self
    have a5 := h5 t List.mem_cons_self
    have e1 : allG (t :: T) = t.2.2 ++ allG T := rfl
    rw [e1, fsum_app]
    by_cases e : t.1.1 = f
    · have k1 : ksum (t :: T) f = t.2.1 + ksum T f := by
        unfold ksum
        rw [List.filter_cons_of_pos (by rw [beq_iff_eq]; exact e)]
        rfl
      have k2 : wsum (t :: T) f = t.1.2.2 + wsum T f := by
        unfold wsum
        rw [List.filter_cons_of_pos (by rw [beq_iff_eq]; exact e)]
        rfl
      have k3 : fsum t.2.2 f = rsum t.2.2 := by
        unfold fsum rsum
        rw [List.filter_eq_self.mpr fun r hr => by rw [beq_iff_eq, a3 r hr]; exact e]
      omega
    · have k1 : ksum (t :: T) f = ksum T f := by
        unfold ksum
        rw [List.filter_cons_of_neg (by rw [beq_iff_eq]; exact e)]
      have k2 : wsum (t :: T) f = wsum T f := by
        unfold wsum
        rw [List.filter_cons_of_neg (by rw [beq_iff_eq]; exact e)]
      have k3 : fsum t.2.2 f = 0 := by
        unfold fsum
        rw [List.filter_eq_nil_iff.mpr fun r hr z => e (by rw [beq_iff_eq] at z; rw [← a3 r hr]; exact z)]
        rfl
      omega
/-- what is left of a form and what its wants lack: the difference is that of the whole -/
theorem LInv.rest {fr : Bool} {L : List PRow} {T : LdT} {left : List PRow} (h : LInv fr L T left) (f : Str) : fsum left f - ksum T f = fsum L f - wsum T f := by
  have a := fsum_all (f := f) h.form h.tot
  have b : fsum (left ++ allG T) f = fsum L f := fsum_congr fun k => by
    rw [PK.cnt_app]
    exact h.all k
  rw [fsum_app] at b
  omega
/-- a want lacks nothing once nothing of its form is left, where there is enough -/
theorem LInv.filled {fr : Bool} {L : List PRow} {T : LdT} {left : List PRow} (h : LInv fr L T left) {t : WRow × Int × List PRow} (ht : t ∈ T) (hz : ∀ k, k.1 = t.1.1 → PK.cnt left k = 0) (en : wsum T t.1.1 ≤ fsum L t.1.1) : t.2.1 = 0 := by
  have a := h.rest t.1.1
  have b : fsum left t.1.1 = 0 := by
    have : fsum left t.1.1 = fsum (left.filter fun r => r.1 == t.1.1) t.1.1 := by
      unfold fsum
      rw [List.filter_filter]
      simp
    have e : fsum left t.1.1 = fsum ([] : List PRow) t.1.1 + 0 := by
      have nd := PK.nodup_nub (left.map fun r => PK.pk r)
      rw [fsum_csum (S := ((PK.nub (left.map fun r => PK.pk r)).filter fun k => k.1 == t.1.1).map fun k => k.2) ?_ fun r hr e => ?_]
      · rw [csum_congr (M := []) fun y _ => by rw [hz _ rfl]; rfl, csum_nil]
        rfl
      · refine List.pairwise_map.mpr ((nd.filter _).imp_of_mem fun {a b} ha hb q e => q ?_)
        have h1 := (List.mem_filter.mp ha).2
        have h2 := (List.mem_filter.mp hb).2
        rw [beq_iff_eq] at h1 h2
        exact Prod.ext (h1.trans h2.symm) e
      · refine List.mem_map.mpr ⟨PK.pk r, List.mem_filter.mpr ⟨PK.mem_nub.mpr (List.mem_map.mpr ⟨r, hr, rfl⟩), ?_⟩, rfl⟩
        rw [beq_iff_eq]
        exact e
    rw [e]
    rfl
  have c : t.2.1 ≤ ksum T t.1.1 := by
    unfold ksum
    have mem : t ∈ T.filter fun u => u.1.1 == t.1.1 := List.mem_filter.mpr ⟨ht, by rw [beq_iff_eq]⟩
    have nn : ∀ u ∈ T.filter fun u => u.1.1 == t.1.1, 0 ≤ u.2.1 := fun u hu => h.nnk u (List.mem_filter.mp hu).1
    generalize (T.filter fun u => u.1.1 == t.1.1) = A at mem nn
    have s0 : ∀ B : LdT, (∀ u ∈ B, 0 ≤ u.2.1) → 0 ≤ (B.map fun t => t.2.1).sum := fun B hB => by
      induction B with
      | nil => exact Int.le_refl _
      | cons b B ihB =>
        have := ihB fun u hu => hB u (List.mem_cons_of_mem _ hu)
        have := hB b List.mem_cons_self
        rw [List.map_cons, List.sum_cons]
        omega
    induction A with
    | nil => exact absurd mem List.not_mem_nil
    | cons u A ih =>
      have nA := s0 A fun u hu => nn u (List.mem_cons_of_mem _ hu)
      have nu := nn u List.mem_cons_self
      rw [List.map_cons, List.sum_cons]
      rcases List.mem_cons.mp mem with rfl | mem
      · omega
      · have := ih mem fun u hu => nn u (List.mem_cons_of_mem _ hu)
        omega
  have d := h.nnk t ht
  omega
end LP
/-! The way back from a part to a want that lacks. -/
namespace LP
open PySem PySem.Spec PyProof.Rows L2 PK
abbrev LStep := Nat × PKey × Option PKey
/-- by which want one comes to a part; by which part to a want, none where it lacks -/
inductive Chain (bw : PKey → Option Nat) (bp : Nat → Option (Option PKey)) : PKey → List LStep → Prop
  | last {p : PKey} {a : Nat} : bw p = some a → bp a = some none → Chain bw bp p [(a, p, none)]
  | more {p q : PKey} {a : Nat} {l : List LStep} : bw p = some a → bp a = some (some q) → Chain bw bp q l → Chain bw bp p ((a, p, some q) :: l)
section
variable {bw bw' : PKey → Option Nat} {bp bp' : Nat → Option (Option PKey)}
theorem Chain.grow (h1 : ∀ p a, bw p = some a → bw' p = some a) (h2 : ∀ a q, bp a = some q → bp' a = some q) {p : PKey} {l : List LStep} (c : Chain bw bp p l) : Chain bw' bp' p l := by
  induction c with
  | last e1 e2 => exact .last (h1 _ _ e1) (h2 _ _ e2)
  | more e1 e2 _ ih => exact .more (h1 _ _ e1) (h2 _ _ e2) ih
theorem Chain.one {p : PKey} {l l' : List LStep} (c : Chain bw bp p l) (d : Chain bw bp p l') : l = l' := by
  induction c generalizing l' with
  | last e1 e2 =>
    cases d with
    | last f1 f2 =>
      rw [e1] at f1
      rw [Option.some.inj f1]
    | more f1 f2 _ =>
      rw [e1] at f1
      rw [← Option.some.inj f1, e2] at f2
      exact absurd (Option.some.inj f2) (fun z => nomatch z)
  | more e1 e2 _ ih =>
    cases d with
    | last f1 f2 =>
      rw [e1] at f1
      rw [← Option.some.inj f1, e2] at f2
      exact absurd (Option.some.inj f2) (fun z => nomatch z)
    | more f1 f2 d' =>
      rw [e1] at f1
      have ea := Option.some.inj f1
      subst ea
      rw [e2] at f2
      have eq := Option.some.inj (Option.some.inj f2)
      subst eq
      rw [ih d']
theorem Chain.ne {p : PKey} {l : List LStep} (c : Chain bw bp p l) : l ≠ [] := by
  cases c <;> exact fun z => nomatch z
/-- each step is what the dicts tell, and behind it stands the way of what it hands on -/
theorem Chain.at {p : PKey} {l : List LStep} (c : Chain bw bp p l) : ∀ (A B : List LStep) (a : Nat) (got : PKey) (gone : Option PKey), l = A ++ (a, got, gone) :: B → bw got = some a ∧ bp a = some gone ∧ Chain bw bp got ((a, got, gone) :: B) ∧ (∀ q, gone = some q → Chain bw bp q B) ∧ (gone = none → B = []) := by
  induction c with
  | @last p a0 e1 e2 =>
    intro A B a got gone e
    cases A with
    | nil =>
      injection e with e3 e4
      injection e3 with e5 e6
      injection e6 with e6 e7
      subst e5; subst e6; subst e7; subst e4
      exact ⟨e1, e2, .last e1 e2, fun q z => absurd z (by simp), fun _ => rfl⟩
    | cons x A =>
      injection e with _ e4
      exact absurd e4.symm (by simp)
  | @more p q a0 l e1 e2 c ih =>
    intro A B a got gone e
    cases A with
    | nil =>
      injection e with e3 e4
      injection e3 with e5 e6
      injection e6 with e6 e7
      subst e5; subst e6; subst e7; subst e4
      exact ⟨e1, e2, .more e1 e2 c, fun r z => by rw [← Option.some.inj z]; exact c, fun z => absurd z (by simp)⟩
    | cons x A =>
      injection e with _ e4
      exact ih A B a got gone e4
/-- no want twice on a way -/
theorem Chain.once {p : PKey} {l : List LStep} (c : Chain bw bp p l) : (l.map fun s => s.1).Nodup := by
  have key : ∀ (A B C : List LStep) (a : Nat) (g1 g2 : PKey) (o1 o2 : Option PKey), l = A ++ (a, g1, o1) :: (B ++ (a, g2, o2) :: C) → False := fun A B C a g1 g2 o1 o2 e => by
    obtain ⟨_, u1, _, v1, w1⟩ := c.at A _ a g1 o1 e
    obtain ⟨_, u2, _, v2, w2⟩ := c.at (A ++ (a, g1, o1) :: B) C a g2 o2 (by rw [e, List.append_assoc]; rfl)
    rw [u1] at u2
    have eo := Option.some.inj u2
    subst eo
    cases o1 with
    | none => exact absurd (w1 rfl) (by simp)
    | some q =>
      have := congrArg List.length ((v1 q rfl).one (v2 q rfl))
      rw [List.length_append, List.length_cons] at this
      omega
  clear c
  induction l with
  | nil => exact List.nodup_nil
  | cons s l ih =>
    rw [List.map_cons, List.nodup_cons]
    refine ⟨fun h => ?_, ih fun A B C a g1 g2 o1 o2 e => key (s :: A) B C a g1 g2 o1 o2 (by rw [e]; rfl)⟩
    obtain ⟨u, hu, e⟩ := List.mem_map.mp h
    obtain ⟨B, C, e2⟩ := List.append_of_mem hu
    refine key [] B C s.1 s.2.1 u.2.1 s.2.2 u.2.2 ?_
    obtain ⟨s1, s2, s3⟩ := s
    obtain ⟨u1, u2, u3⟩ := u
    have e : u1 = s1 := e
    subst e
    rw [e2]
    rfl
/-- what a step hands on is not what it gets -/
theorem Chain.unlike {p : PKey} {l : List LStep} (c : Chain bw bp p l) {s : LStep} (h : s ∈ l) : s.2.2 ≠ some s.2.1 := fun e => by
  obtain ⟨A, B, e2⟩ := List.append_of_mem h
  obtain ⟨_, _, c1, c2, _⟩ := c.at A B s.1 s.2.1 s.2.2 e2
  have := congrArg List.length (c1.one (c2 _ e))
  rw [List.length_cons] at this
  omega
/-- the last step is at a want that lacks -/
theorem Chain.end {p : PKey} {l : List LStep} (c : Chain bw bp p l) : ∃ (A : List LStep) (a : Nat) (got : PKey), l = A ++ [(a, got, none)] ∧ bp a = some none ∧ ∀ s ∈ A, ∃ q, s.2.2 = some q := by
  induction c with
  | @last p a e1 e2 => exact ⟨[], a, p, rfl, e2, fun _ h => (nomatch h)⟩
  | @more p q a l e1 e2 c ih =>
    obtain ⟨A, b, got, e, h1, h2⟩ := ih
    refine ⟨(a, p, some q) :: A, b, got, by rw [e]; rfl, h1, fun s hs => ?_⟩
    rcases List.mem_cons.mp hs with rfl | hs
    · exact ⟨q, rfl⟩
    · exact h2 s hs
/-- the next step gets what is handed on -/
theorem Chain.next {p : PKey} {l : List LStep} (c : Chain bw bp p l) {A B : List LStep} {a b : Nat} {g1 g2 : PKey} {o1 o2 : Option PKey} (e : l = A ++ (a, g1, o1) :: (b, g2, o2) :: B) : o1 = some g2 := by
  obtain ⟨_, _, _, v, w⟩ := c.at A _ a g1 o1 e
  cases o1 with
  | none => exact absurd (w rfl) (by simp)
  | some q =>
    have c2 := v q rfl
    cases c2 <;> rfl
theorem Chain.first {p : PKey} {l : List LStep} (c : Chain bw bp p l) : ∃ a o B, l = (a, p, o) :: B := by
  cases c with
  | last => exact ⟨_, _, _, rfl⟩
  | more => exact ⟨_, _, _, rfl⟩
end
end LP
/-! Dicts at any place of the store, by value: keys parts, or numbers. -/
namespace LP
open PySem PySem.Spec PyProof.Rows L2 PK
abbrev gD (ks : List PKey) (f : PKey → Int) : D := LM.dicN (ks.map keyT) (ks.map fun k => D.int (f k))
section
variable {s : LM.Sto} {j : Nat} {ks : List PKey} {f : PKey → Int} {E : Ex → LM.Sto → Prop} {k : PKey}
end
/-! ### keys numbers, things parts or none -/
def oD : Option PKey → D
  | none => .non
  | some k => keyT k
section
variable {s : LM.Sto} {j : Nat} {bk : List Nat} {bp : Nat → Option PKey} {E : Ex → LM.Sto → Prop} {a : Nat}
end
end LP
namespace LP
open PySem PySem.Spec PyProof.Rows L2 PK LP
end LP
/-! The parts that are led, as they stand in the store. -/
namespace LP
open PySem PySem.Spec PyProof.Rows L2 PK
/-- a want, what it lacks, what it has -/
structure LRec where
  w : WRow
  lack : Int
  ks : List PKey
  f : PKey → Int
def toksL (n : Nat) : D := .lst ((List.range n).map fun i => .tok (i + 4))
structure LdS (s : LM.Sto) (R : List LRec) (lk : List PKey) (lf : PKey → Int) : Prop where
  o : (s : List D)[0]? = some (.obj 1 [swsT (R.map (·.w)), .tok 2, .tok 3, .tok (R.length + 4)])
  l : (s : List D)[1]? = some (gD lk lf)
  k : (s : List D)[2]? = some (.lst (R.map fun r => .int r.lack))
  g : ∀ (i : Nat) (r : LRec), R[i]? = some r → (s : List D)[i + 3]? = some (gD r.ks r.f)
  gs : (s : List D)[R.length + 3]? = some (toksL R.length)
/-- all behind the core stays -/
structure LFr (n : Nat) (s s' : LM.Sto) : Prop where
  len : (s : List D).length ≤ (s' : List D).length
  at_ : ∀ (j : Nat) (d : D), n + 4 ≤ j → (s : List D)[j]? = some d → (s' : List D)[j]? = some d
theorem LFr.refl (n : Nat) (s : LM.Sto) : LFr n s s := ⟨Nat.le_refl _, fun _ _ _ h => h⟩
theorem LFr.trans {n : Nat} {a b c : LM.Sto} (x : LFr n a b) (y : LFr n b c) : LFr n a c := ⟨Nat.le_trans x.len y.len, fun j d h e => y.at_ j d h (x.at_ j d h e)⟩
theorem LFr.set {n : Nat} {s : LM.Sto} {j : Nat} {d : D} (h : j < n + 4) : LFr n s ((s : List D).set j d) := ⟨by rw [List.length_set]; exact Nat.le_refl _, fun i e hi h2 => by
  rw [List.getElem?_set_ne (by omega)]
  exact h2⟩
section
variable {s s' : LM.Sto} {R : List LRec} {lk lk' : List PKey} {lf lf' : PKey → Int}
/-- the core alone counts -/
theorem LdS.core (h : LdS s R lk lf) (e : ∀ j, j < R.length + 4 → (s' : List D)[j]? = (s : List D)[j]?) : LdS s' R lk lf :=
  ⟨by rw [e 0 (by omega)]; exact h.o, by rw [e 1 (by omega)]; exact h.l, by rw [e 2 (by omega)]; exact h.k, fun i r hr => by rw [e _ (by have := (List.getElem?_eq_some_iff.mp hr).1; omega)]; exact h.g i r hr, by rw [e _ (by omega)]; exact h.gs⟩
theorem LdS.len (h : LdS s R lk lf) : R.length + 4 ≤ (s : List D).length := by
  have := (List.getElem?_eq_some_iff.mp h.gs).1
  omega
theorem LdS.far (h : LdS s R lk lf) {j : Nat} {d : D} (hj : R.length + 4 ≤ j) : LdS ((s : List D).set j d) R lk lf := h.core fun i hi => List.getElem?_set_ne (by omega)
theorem LdS.left (h : LdS s R lk lf) : LdS ((s : List D).set 1 (gD lk' lf')) R lk' lf' where
  o := by rw [List.getElem?_set_ne (by omega)]; exact h.o
  l := by rw [List.getElem?_set_self (by have := h.len; omega)]
  k := by rw [List.getElem?_set_ne (by omega)]; exact h.k
  g := fun i r hr => by rw [List.getElem?_set_ne (by omega)]; exact h.g i r hr
  gs := by rw [List.getElem?_set_ne (by omega)]; exact h.gs
theorem map_set_w {R : List LRec} {i : Nat} {r : LRec} (hr : R[i]? = some r) (r' : LRec) (e : r'.w = r.w) : (R.set i r').map (·.w) = R.map (·.w) := by
  refine List.ext_getElem? fun j => ?_
  rw [List.getElem?_map, List.getElem?_map, List.getElem?_set]
  by_cases z : i = j
  · subst z
    rw [if_pos rfl, if_pos (List.getElem?_eq_some_iff.mp hr).1, hr]
    exact congrArg some e
  · rw [if_neg z]
theorem LdS.lack (h : LdS s R lk lf) {i : Nat} {r : LRec} {v : Int} (hr : R[i]? = some r) : LdS ((s : List D).set 2 (.lst ((R.map fun r => D.int r.lack).set i (.int v)))) (R.set i { r with lack := v }) lk lf where
  o := by rw [List.getElem?_set_ne (by omega), map_set_w hr { r with lack := v } rfl, List.length_set]; exact h.o
  l := by rw [List.getElem?_set_ne (by omega)]; exact h.l
  k := by
    rw [List.getElem?_set_self (by have := h.len; omega), List.map_set]
  g := fun j q hq => by
    rw [List.getElem?_set_ne (by omega)]
    rw [List.getElem?_set] at hq
    by_cases z : i = j
    · subst z
      rw [if_pos rfl, if_pos (List.getElem?_eq_some_iff.mp hr).1] at hq
      injection hq with hq
      subst hq
      exact h.g i r hr
    · rw [if_neg z] at hq
      exact h.g j q hq
  gs := by rw [List.getElem?_set_ne (by omega), List.length_set]; exact h.gs
theorem LdS.gift (h : LdS s R lk lf) {i : Nat} {r : LRec} {ks : List PKey} {f : PKey → Int} (hr : R[i]? = some r) : LdS ((s : List D).set (i + 3) (gD ks f)) (R.set i { r with ks := ks, f := f }) lk lf where
  o := by rw [List.getElem?_set_ne (by omega), map_set_w hr { r with ks := ks, f := f } rfl, List.length_set]; exact h.o
  l := by rw [List.getElem?_set_ne (by omega)]; exact h.l
  k := by
    rw [List.getElem?_set_ne (by omega), List.map_set]
    have : (R.map fun r => D.int r.lack).set i (.int r.lack) = R.map fun r => D.int r.lack := by
      refine List.ext_getElem? fun j => ?_
      rw [List.getElem?_set]
      by_cases z : i = j
      · subst z
        rw [if_pos rfl, if_pos (by rw [List.length_map]; exact (List.getElem?_eq_some_iff.mp hr).1), List.getElem?_map, hr]
        rfl
      · rw [if_neg z]
    show _ = some (D.lst ((R.map fun r => D.int r.lack).set i (.int r.lack)))
    rw [this]
    exact h.k
  g := fun j q hq => by
    rw [List.getElem?_set] at hq
    by_cases z : i = j
    · subst z
      have hi := (List.getElem?_eq_some_iff.mp hr).1
      rw [if_pos rfl, if_pos hi] at hq
      injection hq with hq
      subst hq
      rw [List.getElem?_set_self (by have := h.len; omega)]
    · rw [if_neg z] at hq
      rw [List.getElem?_set_ne (by omega)]
      exact h.g j q hq
  gs := by
    have hi := (List.getElem?_eq_some_iff.mp hr).1
    rw [List.length_set, List.getElem?_set_ne (by omega)]
    exact h.gs
variable {E : Ex → LM.Sto → Prop}
end
end LP
/-! The way back from a part. -/
namespace LP.LM
open PySem PySem.Spec PyProof.Rows L2 PK RZ
theorem whileN_wp {t : LP.Env → M Bool} {p : LP.Env → M Fl} {Q : Fl → Sto → Prop} {E : Ex → Sto → Prop} (P : Nat → LP.Env → Sto → Prop)
    (hs : ∀ m env s, P m env s → (t env).wp (fun b s1 => (b = true → (p env).wp (fun f s2 => match f with | .nx e => ∃ j, j < m ∧ P j e s2 | .ct e => ∃ j, j < m ∧ P j e s2 | .bk e => Q (.nx e) s2 | .rt d => Q (.rt d) s2) E s1) ∧ (b = false → Q (.nx env) s1)) E s) :
    ∀ k m env s, m < k → P m env s → (whileN t p k env).wp Q E s
  | 0, m, env, s, h, _ => absurd h (Nat.not_lt_zero _)
  | k + 1, m, env, s, h, hp => by
    refine (t env).mono (fun b s1 hb => ?_) (fun _ _ z => z) (hs m env s hp)
    cases b with
    | false => exact hb.2 rfl
    | true =>
      refine (p env).mono (fun f s2 hf => ?_) (fun _ _ z => z) (hb.1 rfl)
      cases f with
      | nx e =>
        obtain ⟨j, hj, hq⟩ := hf
        exact whileN_wp P hs k j e s2 (by omega) hq
      | ct e =>
        obtain ⟨j, hj, hq⟩ := hf
        exact whileN_wp P hs k j e s2 (by omega) hq
      | bk e => exact hf
      | rt d => exact hf
theorem while_wp {t : LP.Env → M Bool} {p : LP.Env → M Fl} {Q : Fl → Sto → Prop} {E : Ex → Sto → Prop} {env : LP.Env} {s : Sto} (P : Nat → LP.Env → Sto → Prop) (m : Nat) (h0 : P m env s)
    (hs : ∀ m env s, P m env s → (t env).wp (fun b s1 => (b = true → (p env).wp (fun f s2 => match f with | .nx e => ∃ j, j < m ∧ P j e s2 | .ct e => ∃ j, j < m ∧ P j e s2 | .bk e => Q (.nx e) s2 | .rt d => Q (.rt d) s2) E s1) ∧ (b = false → Q (.nx env) s1)) E s) : (whileM t p env).wp Q E s :=
  ⟨m + 1, whileN_wp P hs (m + 1) m env s (Nat.lt_succ_self _) h0⟩
end LP.LM
namespace LP
open PySem PySem.Spec PyProof.Rows L2 PK
def oP (pk : List Nat) (bp : Nat → Option PKey) (a : Nat) : Option (Option PKey) := if a ∈ pk then some (bp a) else none
end LP
namespace LP.K74
open PySem PySem.Spec PyProof.Rows L2 PK LP LP.HD
/-! ### the two lists of the store -/
abbrev R2 (ks vs T L : List D) : List D := [.dct ks vs, .lst T, .lst L]
section
variable {k : Nat} {ks vs T L : List D} {s : LM.Sto} {E : Ex → LM.Sto → Prop}
theorem left_nil {Q : D → LM.Sto → Prop} (hf : Hnd k (R2 ks vs T L) s) (q : Q (.bl !L.isEmpty) s) : (LM.neNilS (.tok 5)).wp Q E s := by
  obtain ⟨m, i, l, cs, _, _, rfl⟩ := hf
  exact ⟨_, rfl, q⟩
theorem left_at {Q : Unit → LM.Sto → Prop} (hf : Hnd k (R2 ks vs T L) s) (q : Q () s) : (LM.lstAt (.tok 5)).wp Q E s := by
  obtain ⟨m, i, l, cs, _, _, rfl⟩ := hf
  exact ⟨_, rfl, q⟩
theorem there_at {Q : Unit → LM.Sto → Prop} (hf : Hnd k (R2 ks vs T L) s) (q : Q () s) : (LM.lstAt (.tok 4)).wp Q E s := by
  obtain ⟨m, i, l, cs, _, _, rfl⟩ := hf
  exact ⟨_, rfl, q⟩
theorem left_len {Q : D → LM.Sto → Prop} (hf : Hnd k (R2 ks vs T L) s) (q : Q (.int L.length) s) : (LM.lenS [.tok 5]).wp Q E s := by
  obtain ⟨m, i, l, cs, _, _, rfl⟩ := hf
  exact ⟨_, rfl, q⟩
theorem left_pop {Q : D → LM.Sto → Prop} {p : Nat} (hf : Hnd k (R2 ks vs T L) s) (hp : p < L.length) (hl : L.length ≤ 1000) (q : ∀ s', Hnd k (R2 ks vs T (L.eraseIdx p)) s' → Q L[p] s') : (LM.popM (.tok 5) [.int (p : Nat)]).wp Q E s := by
  obtain ⟨m, i, l, cs, h1, h2, rfl⟩ := hf
  refine ⟨_, rfl, ⟨by omega, by omega⟩, ?_⟩
  have e1 : seqIndex? ((p : Nat) : Int) L.length = some p := (ixN_seq (by unfold ixN; rw [if_pos (by omega), if_pos (by omega)]; simp)).1
  rw [e1]
  show (optW L[p]?).wp _ _
  rw [List.getElem?_eq_getElem hp]
  exact q _ ⟨m, i, l, cs, h1, h2, rfl⟩
theorem there_app {Q : D → LM.Sto → Prop} {d : D} (hf : Hnd k (R2 ks vs T L) s) (hl : T.length ≤ 1000) (q : ∀ s', Hnd k (R2 ks vs (T ++ [d]) L) s' → Q .non s') : (LM.appS (.tok 4) d).wp Q E s := by
  obtain ⟨m, i, l, cs, h1, h2, rfl⟩ := hf
  exact ⟨_, rfl, smallT (by omega), q _ ⟨m, i, l, cs, h1, h2, rfl⟩⟩
theorem there_sort {Q : D → LM.Sto → Prop} (hf : Hnd k (R2 ks vs T L) s) (hT : PgL T) (q : Q (.lst (sortPD T)) s) : (LM.sortS [.tok 4]).wp Q E s := by
  obtain ⟨m, i, l, cs, h1, h2, rfl⟩ := hf
  exact ⟨_, rfl, ⟨hT.szs.pl, hT.ok, small (by have := hT.len; omega)⟩, q⟩
theorem left_0 {Q : D → LM.Sto → Prop} {d : D} {L' : List D} (hf : Hnd k (R2 ks vs T (d :: L')) s) (q : Q d s) : (LM.ixSL (.tok 5) (.int 0)).wp Q E s := by
  obtain ⟨m, i, l, cs, h1, h2, rfl⟩ := hf
  refine ⟨_, rfl, ?_⟩
  show (optW (atI (d :: L') 0)).wp _ _
  have : atI (d :: L') ((0 : Nat) : Int) = some d := atI_nat rfl
  have e : atI (d :: L') 0 = some d := this
  rw [e]
  exact q
end
theorem rpr {m dp n : Nat} {d : D} (h : Sz m dp n d) (h1 : m ≤ 1900) (h2 : dp ≤ 64) (h3 : n ≤ 1000000) : reprD [d] = W.ret (rp d) := reprD_eq (h.mono h1 h2 (small h3))
theorem rprT {G : List D} (h : PgL G) : reprD [.tup G] = W.ret (rp (.tup G)) := rpr h.sz (by decide) (by decide) (by decide)
theorem pair_sz {G : List D} {d : D} (h : PgL G) (hd : Pg d) : Sz 64 9 150000 (.tup [.tup G, d]) :=
  (Sz.tup (Szs.cons h.sz (Szs.cons (hd.sz.mono (Nat.le_refl _) (by decide) (Nat.le_refl _)) (Szs.nil (n := 0))))).mono (Nat.le_refl _) (Nat.le_refl _) (by decide)
/-- the pages as they were drawn -/
theorem pgs_ok {t : Nat} {L : List D} (h : Pgs t L) (ht : t ≤ 13) : PgL L := by
  refine ⟨by rw [h.len]; exact ht, fun d hd => ?_, ?_⟩
  · obtain ⟨j, hj⟩ := List.getElem?_of_mem hd
    obtain ⟨c, e, rfl, c0, c1, he⟩ := h.at_ j d hj
    have := (List.getElem?_eq_some_iff.mp hj).1
    exact ⟨c, j, e, rfl, c0, by omega, by have := h.len; omega, he⟩
  · have e : L.map (fun d => (pk d).2) = (List.range L.length).map fun j => ((j : Nat) : Int) := by
      refine List.ext_getElem? fun j => ?_
      rw [List.getElem?_map, List.getElem?_map]
      by_cases z : j < L.length
      · rw [List.getElem?_eq_getElem z, List.getElem?_range z]
        obtain ⟨c, e, e1, _⟩ := h.at_ j L[j] (List.getElem?_eq_getElem z)
        show some (pk L[j]).2 = some _
        rw [e1]
        rfl
      · rw [List.getElem?_eq_none (by omega), List.getElem?_eq_none (by rw [List.length_range]; omega)]
        rfl
    rw [e]
    unfold List.Nodup
    refine List.pairwise_map.mpr ((List.nodup_range (n := L.length)).imp fun {a b} ne z => ne (by omega))
theorem erase_perm2 {T L : List D} {p : Nat} (hp : p < L.length) : (T ++ [L[p]] ++ L.eraseIdx p).Perm (T ++ L) := by
  rw [List.append_assoc]
  exact (erase_perm L p hp).append_left T
/-- a page taken out again -/
theorem out_again {G : List D} {d : D} (h : PgL (G ++ [d])) : (sortPD (G ++ [d])).filter (fun g => !D.eqv g d) = sortPD G := by
  have hG : PgL G := h.sub (List.sublist_append_left _ _)
  have hd : Pg d := h.each d (List.mem_append_right _ (List.mem_singleton.mpr rfl))
  refine hG.sort_is ?_ (h.sorted.filter _)
  have p := (sort_perm (G ++ [d])).filter (fun g => !D.eqv g d)
  refine p.trans ?_
  rw [List.filter_append, List.filter_cons_of_neg (by rw [pg_same hd]; simp), List.filter_nil, List.append_nil]
  have ni := inD_not h
  have : G.filter (fun g => !D.eqv g d) = G := List.filter_eq_self.mpr fun g hg => by
    unfold inD at ni
    rw [List.any_eq_false] at ni
    simpa using ni g hg
  rw [this]
theorem not_there {G : List D} {d : D} (h : PgL (G ++ [d])) : (sortPD G).filter (fun g => !D.eqv g d) = sortPD G := by
  have ni := inD_not h
  refine List.filter_eq_self.mpr fun g hg => ?_
  unfold inD at ni
  rw [List.any_eq_false] at ni
  simpa using ni g ((sort_perm G).mem_iff.mp hg)
theorem ints_map (is : List Int) (f : Int → Int) : (is.map D.int).map (fun d => match d with | .int i => D.int (f i) | d => d) = (is.map f).map D.int := by
  rw [List.map_map, List.map_map]
  rfl
theorem clocks_wp {G : List D} {Q : D → Prop} {E : Ex → Prop} (h : PgL G) (q : ∀ l : List D, (∀ d ∈ l, Clk d) → Q (.lst l)) : (fClocks [.lst G]).wp Q E := by
  have hl := h.len
  refine ⟨rfl, ?_⟩
  show (endW (bClocks (startE 5 [.lst G]))).wp Q E
  simp only [bClocks, W.bind_wp, W.ret_wp, W.want_wp, W.any_wp, s_ite, s_get0, s_get, s_then, s_end, s_run, s_calm, s_fail, s_start1, s_start2, s_start3, s_start4, s_start5, List.replicate, List.set_cons_zero, List.set_cons_succ, asB_bl, asS_str, Nat.reduceSub, Nat.reduceAdd, addW.eq_1, addW.eq_2, addW.eq_3, addW.eq_4, addW.eq_5, subW.eq_1, subW.eq_2, mulW.eq_1, mulW.eq_2, mulW.eq_3, intOp.eq_1, negW.eq_1, ordW.eq_1, ordW.eq_2, isW.eq_1, isntW.eq_1, ixW.eq_1, ixW.eq_2, ixW.eq_3, slW.eq_1, slW.eq_2, slW.eq_3, revTW.eq_1, revLW.eq_1, lenW.eq_1, lenW.eq_2, lenW.eq_3, tupleW.eq_1, tupleW.eq_2, listW.eq_1, listW.eq_2, min2W.eq_1, max2W.eq_1, strW.eq_1, strW.eq_2, joinW.eq_1, joinW.eq_2, walkLW.eq_1, walkTW.eq_1, walkSW.eq_1, range1W.eq_1, zipW.eq_1, zipW.eq_2, tupG.eq_1, gsW.eq_1, gsW.eq_2, par2.eq_1, extW.eq_1, extW.eq_2, partW.eq_1, optW.eq_1, optW.eq_2, modW, fdivW, powW, ltW, leW, gtW, geW, isNone, isi_non, isi_bl, isi_int, isi_str, isi_tup, isi_lst, upperW, putW, appW, tupW, lstW, asB_bl, String.reduceBEq, beq_self_eq_true, Bool.or_true, Bool.true_or, Bool.or_false, Bool.false_or, Bool.and_true, Bool.true_and, Bool.and_false, Bool.false_and, Bool.not_true, Bool.not_false, forall_const, true_implies, true_and, and_true, false_implies, reduceCtorEq, List.length_cons, List.length_nil, forall_eq, imp_self, implies_true, if_true, if_false, Bool.false_eq_true, Bool.true_eq_false]
  refine Ret.go (lc_map (ds := G) (fun d => .int (pk d).1) (fun Q E q => q) (small (by omega)) fun d hd => ?_) ?_
  · obtain ⟨c, j, e, rfl, _⟩ := h.each d hd
    have a0 : atI [D.int c, .int (j : Int), e] 0 = some (.int c) := rfl
    simp only [wipeE, a0, W.bind_wp, W.ret_wp, W.want_wp, W.any_wp, s_ite, s_get0, s_get, s_then, s_end, s_run, s_calm, s_fail, s_start1, s_start2, s_start3, s_start4, s_start5, List.replicate, List.set_cons_zero, List.set_cons_succ, asB_bl, asS_str, Nat.reduceSub, Nat.reduceAdd, addW.eq_1, addW.eq_2, addW.eq_3, addW.eq_4, addW.eq_5, subW.eq_1, subW.eq_2, mulW.eq_1, mulW.eq_2, mulW.eq_3, intOp.eq_1, negW.eq_1, ordW.eq_1, ordW.eq_2, isW.eq_1, isntW.eq_1, ixW.eq_1, ixW.eq_2, ixW.eq_3, slW.eq_1, slW.eq_2, slW.eq_3, revTW.eq_1, revLW.eq_1, lenW.eq_1, lenW.eq_2, lenW.eq_3, tupleW.eq_1, tupleW.eq_2, listW.eq_1, listW.eq_2, min2W.eq_1, max2W.eq_1, strW.eq_1, strW.eq_2, joinW.eq_1, joinW.eq_2, walkLW.eq_1, walkTW.eq_1, walkSW.eq_1, range1W.eq_1, zipW.eq_1, zipW.eq_2, tupG.eq_1, gsW.eq_1, gsW.eq_2, par2.eq_1, extW.eq_1, extW.eq_2, partW.eq_1, optW.eq_1, optW.eq_2, modW, fdivW, powW, ltW, leW, gtW, geW, isNone, isi_non, isi_bl, isi_int, isi_str, isi_tup, isi_lst, upperW, putW, appW, tupW, lstW, asB_bl, String.reduceBEq, beq_self_eq_true, Bool.or_true, Bool.true_or, Bool.or_false, Bool.false_or, Bool.and_true, Bool.true_and, Bool.and_false, Bool.false_and, Bool.not_true, Bool.not_false, forall_const, true_implies, true_and, and_true, false_implies, reduceCtorEq, List.length_cons, List.length_nil, forall_eq, imp_self, implies_true, if_true, if_false, Bool.false_eq_true, Bool.true_eq_false]
    rfl
  have e1 : G.map (fun d => D.int (pk d).1) = (G.map fun d => (pk d).1).map D.int := by rw [List.map_map]; rfl
  rw [e1]
  have li : (G.map fun d => (pk d).1).length ≤ 13 := by rw [List.length_map]; exact hl
  generalize (G.map fun d => (pk d).1) = is at li
  simp only [bClocks_1, W.bind_wp, W.ret_wp, W.want_wp, W.any_wp, s_ite, s_get0, s_get, s_then, s_end, s_run, s_calm, s_fail, s_start1, s_start2, s_start3, s_start4, s_start5, List.replicate, List.set_cons_zero, List.set_cons_succ, asB_bl, asS_str, Nat.reduceSub, Nat.reduceAdd, addW.eq_1, addW.eq_2, addW.eq_3, addW.eq_4, addW.eq_5, subW.eq_1, subW.eq_2, mulW.eq_1, mulW.eq_2, mulW.eq_3, intOp.eq_1, negW.eq_1, ordW.eq_1, ordW.eq_2, isW.eq_1, isntW.eq_1, ixW.eq_1, ixW.eq_2, ixW.eq_3, slW.eq_1, slW.eq_2, slW.eq_3, revTW.eq_1, revLW.eq_1, lenW.eq_1, lenW.eq_2, lenW.eq_3, tupleW.eq_1, tupleW.eq_2, listW.eq_1, listW.eq_2, min2W.eq_1, max2W.eq_1, strW.eq_1, strW.eq_2, joinW.eq_1, joinW.eq_2, walkLW.eq_1, walkTW.eq_1, walkSW.eq_1, range1W.eq_1, zipW.eq_1, zipW.eq_2, tupG.eq_1, gsW.eq_1, gsW.eq_2, par2.eq_1, extW.eq_1, extW.eq_2, partW.eq_1, optW.eq_1, optW.eq_2, modW, fdivW, powW, ltW, leW, gtW, geW, isNone, isi_non, isi_bl, isi_int, isi_str, isi_tup, isi_lst, upperW, putW, appW, tupW, lstW, asB_bl, String.reduceBEq, beq_self_eq_true, Bool.or_true, Bool.true_or, Bool.or_false, Bool.false_or, Bool.and_true, Bool.true_and, Bool.and_false, Bool.false_and, Bool.not_true, Bool.not_false, forall_const, true_implies, true_and, and_true, false_implies, reduceCtorEq, List.length_cons, List.length_nil, forall_eq, imp_self, implies_true, if_true, if_false, Bool.false_eq_true, Bool.true_eq_false]
  refine Ret.go (lc_map (ds := is.map D.int) (fun d => match d with | .int i => D.int (i + 1) | d => d) (fun Q E q => q) (small (by rw [List.length_map]; omega)) fun d hd => ?_) ?_
  · obtain ⟨i, _, rfl⟩ := List.mem_map.mp hd
    simp only [wipeE, W.bind_wp, W.ret_wp, W.want_wp, W.any_wp, s_ite, s_get0, s_get, s_then, s_end, s_run, s_calm, s_fail, s_start1, s_start2, s_start3, s_start4, s_start5, List.replicate, List.set_cons_zero, List.set_cons_succ, asB_bl, asS_str, Nat.reduceSub, Nat.reduceAdd, addW.eq_1, addW.eq_2, addW.eq_3, addW.eq_4, addW.eq_5, subW.eq_1, subW.eq_2, mulW.eq_1, mulW.eq_2, mulW.eq_3, intOp.eq_1, negW.eq_1, ordW.eq_1, ordW.eq_2, isW.eq_1, isntW.eq_1, ixW.eq_1, ixW.eq_2, ixW.eq_3, slW.eq_1, slW.eq_2, slW.eq_3, revTW.eq_1, revLW.eq_1, lenW.eq_1, lenW.eq_2, lenW.eq_3, tupleW.eq_1, tupleW.eq_2, listW.eq_1, listW.eq_2, min2W.eq_1, max2W.eq_1, strW.eq_1, strW.eq_2, joinW.eq_1, joinW.eq_2, walkLW.eq_1, walkTW.eq_1, walkSW.eq_1, range1W.eq_1, zipW.eq_1, zipW.eq_2, tupG.eq_1, gsW.eq_1, gsW.eq_2, par2.eq_1, extW.eq_1, extW.eq_2, partW.eq_1, optW.eq_1, optW.eq_2, modW, fdivW, powW, ltW, leW, gtW, geW, isNone, isi_non, isi_bl, isi_int, isi_str, isi_tup, isi_lst, upperW, putW, appW, tupW, lstW, asB_bl, String.reduceBEq, beq_self_eq_true, Bool.or_true, Bool.true_or, Bool.or_false, Bool.false_or, Bool.and_true, Bool.true_and, Bool.and_false, Bool.false_and, Bool.not_true, Bool.not_false, forall_const, true_implies, true_and, and_true, false_implies, reduceCtorEq, List.length_cons, List.length_nil, forall_eq, imp_self, implies_true, if_true, if_false, Bool.false_eq_true, Bool.true_eq_false]
  rw [ints_map is (fun i => i + 1)]
  simp only [List.length_map, W.bind_wp, W.ret_wp, W.want_wp, W.any_wp, s_ite, s_get0, s_get, s_then, s_end, s_run, s_calm, s_fail, s_start1, s_start2, s_start3, s_start4, s_start5, List.replicate, List.set_cons_zero, List.set_cons_succ, asB_bl, asS_str, Nat.reduceSub, Nat.reduceAdd, addW.eq_1, addW.eq_2, addW.eq_3, addW.eq_4, addW.eq_5, subW.eq_1, subW.eq_2, mulW.eq_1, mulW.eq_2, mulW.eq_3, intOp.eq_1, negW.eq_1, ordW.eq_1, ordW.eq_2, isW.eq_1, isntW.eq_1, ixW.eq_1, ixW.eq_2, ixW.eq_3, slW.eq_1, slW.eq_2, slW.eq_3, revTW.eq_1, revLW.eq_1, lenW.eq_1, lenW.eq_2, lenW.eq_3, tupleW.eq_1, tupleW.eq_2, listW.eq_1, listW.eq_2, min2W.eq_1, max2W.eq_1, strW.eq_1, strW.eq_2, joinW.eq_1, joinW.eq_2, walkLW.eq_1, walkTW.eq_1, walkSW.eq_1, range1W.eq_1, zipW.eq_1, zipW.eq_2, tupG.eq_1, gsW.eq_1, gsW.eq_2, par2.eq_1, extW.eq_1, extW.eq_2, partW.eq_1, optW.eq_1, optW.eq_2, modW, fdivW, powW, ltW, leW, gtW, geW, isNone, isi_non, isi_bl, isi_int, isi_str, isi_tup, isi_lst, upperW, putW, appW, tupW, lstW, asB_bl, String.reduceBEq, beq_self_eq_true, Bool.or_true, Bool.true_or, Bool.or_false, Bool.false_or, Bool.and_true, Bool.true_and, Bool.and_false, Bool.false_and, Bool.not_true, Bool.not_false, forall_const, true_implies, true_and, and_true, false_implies, reduceCtorEq, List.length_cons, List.length_nil, forall_eq, imp_self, implies_true, if_true, if_false, Bool.false_eq_true, Bool.true_eq_false]
  refine ⟨small (by omega), ?_⟩
  refine Ret.go (lc_map (ds := is.map D.int) (fun d => match d with | .int i => D.int (max 0 (i - 1)) | d => d) (fun Q E q => q) (small (by rw [List.length_map]; omega)) fun d hd => ?_) ?_
  · obtain ⟨i, _, rfl⟩ := List.mem_map.mp hd
    simp only [wipeE, W.bind_wp, W.ret_wp, W.want_wp, W.any_wp, s_ite, s_get0, s_get, s_then, s_end, s_run, s_calm, s_fail, s_start1, s_start2, s_start3, s_start4, s_start5, List.replicate, List.set_cons_zero, List.set_cons_succ, asB_bl, asS_str, Nat.reduceSub, Nat.reduceAdd, addW.eq_1, addW.eq_2, addW.eq_3, addW.eq_4, addW.eq_5, subW.eq_1, subW.eq_2, mulW.eq_1, mulW.eq_2, mulW.eq_3, intOp.eq_1, negW.eq_1, ordW.eq_1, ordW.eq_2, isW.eq_1, isntW.eq_1, ixW.eq_1, ixW.eq_2, ixW.eq_3, slW.eq_1, slW.eq_2, slW.eq_3, revTW.eq_1, revLW.eq_1, lenW.eq_1, lenW.eq_2, lenW.eq_3, tupleW.eq_1, tupleW.eq_2, listW.eq_1, listW.eq_2, min2W.eq_1, max2W.eq_1, strW.eq_1, strW.eq_2, joinW.eq_1, joinW.eq_2, walkLW.eq_1, walkTW.eq_1, walkSW.eq_1, range1W.eq_1, zipW.eq_1, zipW.eq_2, tupG.eq_1, gsW.eq_1, gsW.eq_2, par2.eq_1, extW.eq_1, extW.eq_2, partW.eq_1, optW.eq_1, optW.eq_2, modW, fdivW, powW, ltW, leW, gtW, geW, isNone, isi_non, isi_bl, isi_int, isi_str, isi_tup, isi_lst, upperW, putW, appW, tupW, lstW, asB_bl, String.reduceBEq, beq_self_eq_true, Bool.or_true, Bool.true_or, Bool.or_false, Bool.false_or, Bool.and_true, Bool.true_and, Bool.and_false, Bool.false_and, Bool.not_true, Bool.not_false, forall_const, true_implies, true_and, and_true, false_implies, reduceCtorEq, List.length_cons, List.length_nil, forall_eq, imp_self, implies_true, if_true, if_false, Bool.false_eq_true, Bool.true_eq_false]
  rw [ints_map is (fun i => max 0 (i - 1))]
  simp only [List.length_map, List.length_append, W.bind_wp, W.ret_wp, W.want_wp, W.any_wp, s_ite, s_get0, s_get, s_then, s_end, s_run, s_calm, s_fail, s_start1, s_start2, s_start3, s_start4, s_start5, List.replicate, List.set_cons_zero, List.set_cons_succ, asB_bl, asS_str, Nat.reduceSub, Nat.reduceAdd, addW.eq_1, addW.eq_2, addW.eq_3, addW.eq_4, addW.eq_5, subW.eq_1, subW.eq_2, mulW.eq_1, mulW.eq_2, mulW.eq_3, intOp.eq_1, negW.eq_1, ordW.eq_1, ordW.eq_2, isW.eq_1, isntW.eq_1, ixW.eq_1, ixW.eq_2, ixW.eq_3, slW.eq_1, slW.eq_2, slW.eq_3, revTW.eq_1, revLW.eq_1, lenW.eq_1, lenW.eq_2, lenW.eq_3, tupleW.eq_1, tupleW.eq_2, listW.eq_1, listW.eq_2, min2W.eq_1, max2W.eq_1, strW.eq_1, strW.eq_2, joinW.eq_1, joinW.eq_2, walkLW.eq_1, walkTW.eq_1, walkSW.eq_1, range1W.eq_1, zipW.eq_1, zipW.eq_2, tupG.eq_1, gsW.eq_1, gsW.eq_2, par2.eq_1, extW.eq_1, extW.eq_2, partW.eq_1, optW.eq_1, optW.eq_2, modW, fdivW, powW, ltW, leW, gtW, geW, isNone, isi_non, isi_bl, isi_int, isi_str, isi_tup, isi_lst, upperW, putW, appW, tupW, lstW, asB_bl, String.reduceBEq, beq_self_eq_true, Bool.or_true, Bool.true_or, Bool.or_false, Bool.false_or, Bool.and_true, Bool.true_and, Bool.and_false, Bool.false_and, Bool.not_true, Bool.not_false, forall_const, true_implies, true_and, and_true, false_implies, reduceCtorEq, List.length_cons, List.length_nil, forall_eq, imp_self, implies_true, if_true, if_false, Bool.false_eq_true, Bool.true_eq_false]
  refine ⟨small (by omega), ?_⟩
  rw [← List.map_append, ← List.map_append]
  have l3 : (is ++ is.map (fun i => i + 1) ++ is.map fun i => max 0 (i - 1)).length ≤ 60 := by simp only [List.length_append, List.length_map]; omega
  generalize (is ++ is.map (fun i => i + 1) ++ is.map fun i => max 0 (i - 1)) = ns at l3
  have es : ∀ {Q : D → Prop} {E : Ex → Prop}, (∀ ms : List Int, ms.length ≤ 60 → Q (.lst (ms.map D.int))) → (sortSetW [.lst (ns.map D.int)]).wp Q E := fun q => by
    show (W.bind (optW (isOf (ns.map D.int))) _).wp _ _
    rw [isOf_map, optW_some, W.ret_bind]
    exact ⟨l3, fun ms hm => q ms (by omega)⟩
  refine es fun ms lm => ?_
  simp only [W.bind_wp, W.ret_wp, W.want_wp, W.any_wp, s_ite, s_get0, s_get, s_then, s_end, s_run, s_calm, s_fail, s_start1, s_start2, s_start3, s_start4, s_start5, List.replicate, List.set_cons_zero, List.set_cons_succ, asB_bl, asS_str, Nat.reduceSub, Nat.reduceAdd, addW.eq_1, addW.eq_2, addW.eq_3, addW.eq_4, addW.eq_5, subW.eq_1, subW.eq_2, mulW.eq_1, mulW.eq_2, mulW.eq_3, intOp.eq_1, negW.eq_1, ordW.eq_1, ordW.eq_2, isW.eq_1, isntW.eq_1, ixW.eq_1, ixW.eq_2, ixW.eq_3, slW.eq_1, slW.eq_2, slW.eq_3, revTW.eq_1, revLW.eq_1, lenW.eq_1, lenW.eq_2, lenW.eq_3, tupleW.eq_1, tupleW.eq_2, listW.eq_1, listW.eq_2, min2W.eq_1, max2W.eq_1, strW.eq_1, strW.eq_2, joinW.eq_1, joinW.eq_2, walkLW.eq_1, walkTW.eq_1, walkSW.eq_1, range1W.eq_1, zipW.eq_1, zipW.eq_2, tupG.eq_1, gsW.eq_1, gsW.eq_2, par2.eq_1, extW.eq_1, extW.eq_2, partW.eq_1, optW.eq_1, optW.eq_2, modW, fdivW, powW, ltW, leW, gtW, geW, isNone, isi_non, isi_bl, isi_int, isi_str, isi_tup, isi_lst, upperW, putW, appW, tupW, lstW, asB_bl, String.reduceBEq, beq_self_eq_true, Bool.or_true, Bool.true_or, Bool.or_false, Bool.false_or, Bool.and_true, Bool.true_and, Bool.and_false, Bool.false_and, Bool.not_true, Bool.not_false, forall_const, true_implies, true_and, and_true, false_implies, reduceCtorEq, List.length_cons, List.length_nil, forall_eq, imp_self, implies_true, if_true, if_false, Bool.false_eq_true, Bool.true_eq_false]
  refine ⟨by decide, small (by rw [List.length_map]; omega), q _ fun d hd => ?_⟩
  rcases List.mem_append.mp hd with h | h
  · obtain ⟨i, _, rfl⟩ := List.mem_map.mp h
    exact .inr ⟨i, rfl⟩
  · exact .inl (List.mem_singleton.mp h)
theorem c2 (f : List D → W D) (a b : D) : callN 2 0 0 0 f [a, b] [] = f [a, b] := W.want_bind ⟨rfl, rfl⟩
theorem c1h (f : List D → W D) (a b : D) : callN 1 1 0 0 f [a] [b] = f [a, b] := W.want_bind ⟨rfl, rfl⟩
theorem c1n (f : List D → W D) (a : D) : callN 1 0 0 1 f [a] [] = f [a, .non] := W.want_bind ⟨rfl, rfl⟩
theorem neTx_same (a b : D) : neTxW (.lst [rp a, rp a]) (.lst [rp a, rp a]) = W.ret (.bl false) := by
  have : (!decide ([a.toP.shown, a.toP.shown] = [a.toP.shown, a.toP.shown])) = false := by rw [decide_eq_true rfl]; rfl
  show W.ret (D.bl (!decide ([a.toP.shown, a.toP.shown] = [a.toP.shown, a.toP.shown]))) = _
  rw [this]
theorem nilP : PgL [] := ⟨Nat.zero_le _, fun _ h => (nomatch h), List.nodup_nil⟩
abbrev Menu : D := .lst [.str (Str.ofString "open"), .str (Str.ofString "begin"), .str (Str.ofString "lay"), .str (Str.ofString "lay"), .str (Str.ofString "lay"), .str (Str.ofString "lay"), .str (Str.ofString "lay"), .str (Str.ofString "off"), .str (Str.ofString "apart"), .str (Str.ofString "lend"), .str (Str.ofString "bring")]
theorem law_wp (s : LM.Sto) (hs : LM.atTap s) : (bLaw (LM.lawE 13)).wp (fun f _ => ∃ b, f = .rt (.bl b) ∧ b = true) (fun _ _ => False) s := by
  obtain ⟨cs, rfl⟩ := hs
  have h0 : Hnd 0 [] [LM.tapD 0 0 0, LM.cellsD cs] := ⟨0, 0, 0, cs, Nat.le_refl _, Int.le_refl _, rfl⟩
  have eL : LM.lawE 13 = [none, some (.tok 1), none, none, none, none, none, none, none, none, none, none, none] := rfl
  rw [eL]
  simp only [bLaw, LM.M.bind_wp, LM.M.ret_wp, LM.M.lift_wp, LM.M.want_wp, LM.M.any_wp, LM.s_ite, LM.s_then, LM.s_end, LM.s_run, LM.s_calm, LM.s_fail, LM.alloc_wp, LM.asBM, LM.putM, LM.par2M.eq_1, W.bind_wp, W.ret_wp, W.want_wp, W.any_wp, s_ite, s_get0, s_get, s_then, s_end, s_run, s_calm, s_fail, s_start1, s_start2, s_start3, s_start4, s_start5, List.replicate, List.set_cons_zero, List.set_cons_succ, asB_bl, asS_str, Nat.reduceSub, Nat.reduceAdd, addW.eq_1, addW.eq_2, addW.eq_3, addW.eq_4, addW.eq_5, subW.eq_1, subW.eq_2, mulW.eq_1, mulW.eq_2, mulW.eq_3, intOp.eq_1, negW.eq_1, ordW.eq_1, ordW.eq_2, isW.eq_1, isntW.eq_1, ixW.eq_1, ixW.eq_2, ixW.eq_3, slW.eq_1, slW.eq_2, slW.eq_3, revTW.eq_1, revLW.eq_1, lenW.eq_1, lenW.eq_2, lenW.eq_3, tupleW.eq_1, tupleW.eq_2, listW.eq_1, listW.eq_2, min2W.eq_1, max2W.eq_1, strW.eq_1, strW.eq_2, joinW.eq_1, joinW.eq_2, walkLW.eq_1, walkTW.eq_1, walkSW.eq_1, range1W.eq_1, zipW.eq_1, zipW.eq_2, tupG.eq_1, gsW.eq_1, gsW.eq_2, par2.eq_1, extW.eq_1, extW.eq_2, partW.eq_1, optW.eq_1, optW.eq_2, modW, fdivW, powW, ltW, leW, gtW, geW, isNone, isi_non, isi_bl, isi_int, isi_str, isi_tup, isi_lst, upperW, putW, appW, tupW, lstW, asB_bl, String.reduceBEq, beq_self_eq_true, Bool.or_true, Bool.true_or, Bool.or_false, Bool.false_or, Bool.and_true, Bool.true_and, Bool.and_false, Bool.false_and, Bool.not_true, Bool.not_false, forall_const, true_implies, true_and, and_true, false_implies, reduceCtorEq, List.length_cons, List.length_nil, forall_eq, imp_self, implies_true, if_true, if_false, Bool.false_eq_true, Bool.true_eq_false]
  refine ⟨by decide, ?_⟩
  simp only [bLaw_15, LM.M.bind_wp, LM.M.ret_wp, LM.M.lift_wp, LM.M.want_wp, LM.M.any_wp, LM.s_ite, LM.s_then, LM.s_end, LM.s_run, LM.s_calm, LM.s_fail, LM.alloc_wp, LM.asBM, LM.putM, LM.par2M.eq_1, W.bind_wp, W.ret_wp, W.want_wp, W.any_wp, s_ite, s_get0, s_get, s_then, s_end, s_run, s_calm, s_fail, s_start1, s_start2, s_start3, s_start4, s_start5, List.replicate, List.set_cons_zero, List.set_cons_succ, asB_bl, asS_str, Nat.reduceSub, Nat.reduceAdd, addW.eq_1, addW.eq_2, addW.eq_3, addW.eq_4, addW.eq_5, subW.eq_1, subW.eq_2, mulW.eq_1, mulW.eq_2, mulW.eq_3, intOp.eq_1, negW.eq_1, ordW.eq_1, ordW.eq_2, isW.eq_1, isntW.eq_1, ixW.eq_1, ixW.eq_2, ixW.eq_3, slW.eq_1, slW.eq_2, slW.eq_3, revTW.eq_1, revLW.eq_1, lenW.eq_1, lenW.eq_2, lenW.eq_3, tupleW.eq_1, tupleW.eq_2, listW.eq_1, listW.eq_2, min2W.eq_1, max2W.eq_1, strW.eq_1, strW.eq_2, joinW.eq_1, joinW.eq_2, walkLW.eq_1, walkTW.eq_1, walkSW.eq_1, range1W.eq_1, zipW.eq_1, zipW.eq_2, tupG.eq_1, gsW.eq_1, gsW.eq_2, par2.eq_1, extW.eq_1, extW.eq_2, partW.eq_1, optW.eq_1, optW.eq_2, modW, fdivW, powW, ltW, leW, gtW, geW, isNone, isi_non, isi_bl, isi_int, isi_str, isi_tup, isi_lst, upperW, putW, appW, tupW, lstW, asB_bl, String.reduceBEq, beq_self_eq_true, Bool.or_true, Bool.true_or, Bool.or_false, Bool.false_or, Bool.and_true, Bool.true_and, Bool.and_false, Bool.false_and, Bool.not_true, Bool.not_false, forall_const, true_implies, true_and, and_true, false_implies, reduceCtorEq, List.length_cons, List.length_nil, forall_eq, imp_self, implies_true, if_true, if_false, Bool.false_eq_true, Bool.true_eq_false]
  refine stale (by decide +kernel) (by decide) (by decide) h0 (by decide) fun Ps t ks vs s1 t13 t1 hP h1 => ?_
  have oP := pgs_ok hP t13
  have lP := hP.len
  obtain ⟨m, i, l, cs2, hm, hi, rfl⟩ := h1
  have e4 : List.length (tapS i l (m : Int) cs2 [.dct ks vs]) + 1 = 4 := rfl
  have e5 : List.length ((tapS i l (m : Int) cs2 [.dct ks vs] : List D) ++ [D.lst []]) + 1 = 5 := rfl
  have h2 : Hnd 3000 (R2 ks vs [] Ps) ((tapS i l (m : Int) cs2 [.dct ks vs] : List D) ++ [D.lst []] ++ [D.lst Ps]) := ⟨m, i, l, cs2, by omega, hi, rfl⟩
  simp only [bLaw_14, LM.M.bind_wp, LM.M.ret_wp, LM.M.lift_wp, LM.M.want_wp, LM.M.any_wp, LM.s_ite, LM.s_then, LM.s_end, LM.s_run, LM.s_calm, LM.s_fail, LM.alloc_wp, LM.asBM, LM.putM, LM.par2M.eq_1, W.bind_wp, W.ret_wp, W.want_wp, W.any_wp, s_ite, s_get0, s_get, s_then, s_end, s_run, s_calm, s_fail, s_start1, s_start2, s_start3, s_start4, s_start5, List.replicate, List.set_cons_zero, List.set_cons_succ, asB_bl, asS_str, Nat.reduceSub, Nat.reduceAdd, addW.eq_1, addW.eq_2, addW.eq_3, addW.eq_4, addW.eq_5, subW.eq_1, subW.eq_2, mulW.eq_1, mulW.eq_2, mulW.eq_3, intOp.eq_1, negW.eq_1, ordW.eq_1, ordW.eq_2, isW.eq_1, isntW.eq_1, ixW.eq_1, ixW.eq_2, ixW.eq_3, slW.eq_1, slW.eq_2, slW.eq_3, revTW.eq_1, revLW.eq_1, lenW.eq_1, lenW.eq_2, lenW.eq_3, tupleW.eq_1, tupleW.eq_2, listW.eq_1, listW.eq_2, min2W.eq_1, max2W.eq_1, strW.eq_1, strW.eq_2, joinW.eq_1, joinW.eq_2, walkLW.eq_1, walkTW.eq_1, walkSW.eq_1, range1W.eq_1, zipW.eq_1, zipW.eq_2, tupG.eq_1, gsW.eq_1, gsW.eq_2, par2.eq_1, extW.eq_1, extW.eq_2, partW.eq_1, optW.eq_1, optW.eq_2, modW, fdivW, powW, ltW, leW, gtW, geW, isNone, isi_non, isi_bl, isi_int, isi_str, isi_tup, isi_lst, upperW, putW, appW, tupW, lstW, asB_bl, String.reduceBEq, beq_self_eq_true, Bool.or_true, Bool.true_or, Bool.or_false, Bool.false_or, Bool.and_true, Bool.true_and, Bool.and_false, Bool.false_and, Bool.not_true, Bool.not_false, forall_const, true_implies, true_and, and_true, false_implies, reduceCtorEq, List.length_cons, List.length_nil, forall_eq, imp_self, implies_true, if_true, if_false, Bool.false_eq_true, Bool.true_eq_false]
  rw [e5]
  generalize ((tapS i l (m : Int) cs2 [.dct ks vs] : List D) ++ [D.lst []] ++ [D.lst Ps]) = s at h2
  simp only [LM.par3M, LM.M.bind_wp, LM.M.ret_wp, LM.M.lift_wp, LM.M.want_wp, LM.M.any_wp, LM.s_ite, LM.s_then, LM.s_end, LM.s_run, LM.s_calm, LM.s_fail, LM.alloc_wp, LM.asBM, LM.putM, LM.par2M.eq_1, W.bind_wp, W.ret_wp, W.want_wp, W.any_wp, s_ite, s_get0, s_get, s_then, s_end, s_run, s_calm, s_fail, s_start1, s_start2, s_start3, s_start4, s_start5, List.replicate, List.set_cons_zero, List.set_cons_succ, asB_bl, asS_str, Nat.reduceSub, Nat.reduceAdd, addW.eq_1, addW.eq_2, addW.eq_3, addW.eq_4, addW.eq_5, subW.eq_1, subW.eq_2, mulW.eq_1, mulW.eq_2, mulW.eq_3, intOp.eq_1, negW.eq_1, ordW.eq_1, ordW.eq_2, isW.eq_1, isntW.eq_1, ixW.eq_1, ixW.eq_2, ixW.eq_3, slW.eq_1, slW.eq_2, slW.eq_3, revTW.eq_1, revLW.eq_1, lenW.eq_1, lenW.eq_2, lenW.eq_3, tupleW.eq_1, tupleW.eq_2, listW.eq_1, listW.eq_2, min2W.eq_1, max2W.eq_1, strW.eq_1, strW.eq_2, joinW.eq_1, joinW.eq_2, walkLW.eq_1, walkTW.eq_1, walkSW.eq_1, range1W.eq_1, zipW.eq_1, zipW.eq_2, tupG.eq_1, gsW.eq_1, gsW.eq_2, par2.eq_1, extW.eq_1, extW.eq_2, partW.eq_1, optW.eq_1, optW.eq_2, modW, fdivW, powW, ltW, leW, gtW, geW, isNone, isi_non, isi_bl, isi_int, isi_str, isi_tup, isi_lst, upperW, putW, appW, tupW, lstW, asB_bl, String.reduceBEq, beq_self_eq_true, Bool.or_true, Bool.true_or, Bool.or_false, Bool.false_or, Bool.and_true, Bool.true_and, Bool.and_false, Bool.false_and, Bool.not_true, Bool.not_false, forall_const, true_implies, true_and, and_true, false_implies, reduceCtorEq, List.length_cons, List.length_nil, forall_eq, imp_self, implies_true, if_true, if_false, Bool.false_eq_true, Bool.true_eq_false]
  refine ⟨by decide, by decide, ?_⟩
  simp only [bLaw_13, LM.M.bind_wp, LM.M.ret_wp, LM.M.lift_wp, LM.M.want_wp, LM.M.any_wp, LM.s_ite, LM.s_then, LM.s_end, LM.s_run, LM.s_calm, LM.s_fail, LM.alloc_wp, LM.asBM, LM.putM, LM.par2M.eq_1, W.bind_wp, W.ret_wp, W.want_wp, W.any_wp, s_ite, s_get0, s_get, s_then, s_end, s_run, s_calm, s_fail, s_start1, s_start2, s_start3, s_start4, s_start5, List.replicate, List.set_cons_zero, List.set_cons_succ, asB_bl, asS_str, Nat.reduceSub, Nat.reduceAdd, addW.eq_1, addW.eq_2, addW.eq_3, addW.eq_4, addW.eq_5, subW.eq_1, subW.eq_2, mulW.eq_1, mulW.eq_2, mulW.eq_3, intOp.eq_1, negW.eq_1, ordW.eq_1, ordW.eq_2, isW.eq_1, isntW.eq_1, ixW.eq_1, ixW.eq_2, ixW.eq_3, slW.eq_1, slW.eq_2, slW.eq_3, revTW.eq_1, revLW.eq_1, lenW.eq_1, lenW.eq_2, lenW.eq_3, tupleW.eq_1, tupleW.eq_2, listW.eq_1, listW.eq_2, min2W.eq_1, max2W.eq_1, strW.eq_1, strW.eq_2, joinW.eq_1, joinW.eq_2, walkLW.eq_1, walkTW.eq_1, walkSW.eq_1, range1W.eq_1, zipW.eq_1, zipW.eq_2, tupG.eq_1, gsW.eq_1, gsW.eq_2, par2.eq_1, extW.eq_1, extW.eq_2, partW.eq_1, optW.eq_1, optW.eq_2, modW, fdivW, powW, ltW, leW, gtW, geW, isNone, isi_non, isi_bl, isi_int, isi_str, isi_tup, isi_lst, upperW, putW, appW, tupW, lstW, asB_bl, String.reduceBEq, beq_self_eq_true, Bool.or_true, Bool.true_or, Bool.or_false, Bool.false_or, Bool.and_true, Bool.true_and, Bool.and_false, Bool.false_and, Bool.not_true, Bool.not_false, forall_const, true_implies, true_and, and_true, false_implies, reduceCtorEq, List.length_cons, List.length_nil, forall_eq, imp_self, implies_true, if_true, if_false, Bool.false_eq_true, Bool.true_eq_false]
  have es0 : sortPD [] = [] := List.mergeSort_nil
  refine LM.while_wp (fun n env s => ∃ (T L : List D) (y7 y8 y9 : Option D), env = [none, some (.tok 1), some Menu, some (.lst Ps), some (.tup (sortPD T)), some (.tok 4), some (.tok 5), y7, y8, y9, none, none, none] ∧ (T ++ L).Perm Ps ∧ L.length = n ∧ Hnd (3000 + T.length) (R2 ks vs T L) s) Ps.length ⟨[], Ps, none, none, none, by rw [es0], List.Perm.refl _, rfl, h2⟩ ?_
  rintro n env s ⟨T, L, y7, y8, y9, rfl, hp, hl, hs⟩
  have oTL := oP.perm hp.symm
  have oT : PgL T := oTL.sub (List.sublist_append_left _ _)
  have lTL := oTL.len
  rw [List.length_append] at lTL
  simp only [LM.M.bind_wp, LM.M.ret_wp, LM.M.lift_wp, LM.M.want_wp, LM.M.any_wp, LM.s_ite, LM.s_then, LM.s_end, LM.s_run, LM.s_calm, LM.s_fail, LM.alloc_wp, LM.asBM, LM.putM, LM.par2M.eq_1, W.bind_wp, W.ret_wp, W.want_wp, W.any_wp, s_ite, s_get0, s_get, s_then, s_end, s_run, s_calm, s_fail, s_start1, s_start2, s_start3, s_start4, s_start5, List.replicate, List.set_cons_zero, List.set_cons_succ, asB_bl, asS_str, Nat.reduceSub, Nat.reduceAdd, addW.eq_1, addW.eq_2, addW.eq_3, addW.eq_4, addW.eq_5, subW.eq_1, subW.eq_2, mulW.eq_1, mulW.eq_2, mulW.eq_3, intOp.eq_1, negW.eq_1, ordW.eq_1, ordW.eq_2, isW.eq_1, isntW.eq_1, ixW.eq_1, ixW.eq_2, ixW.eq_3, slW.eq_1, slW.eq_2, slW.eq_3, revTW.eq_1, revLW.eq_1, lenW.eq_1, lenW.eq_2, lenW.eq_3, tupleW.eq_1, tupleW.eq_2, listW.eq_1, listW.eq_2, min2W.eq_1, max2W.eq_1, strW.eq_1, strW.eq_2, joinW.eq_1, joinW.eq_2, walkLW.eq_1, walkTW.eq_1, walkSW.eq_1, range1W.eq_1, zipW.eq_1, zipW.eq_2, tupG.eq_1, gsW.eq_1, gsW.eq_2, par2.eq_1, extW.eq_1, extW.eq_2, partW.eq_1, optW.eq_1, optW.eq_2, modW, fdivW, powW, ltW, leW, gtW, geW, isNone, isi_non, isi_bl, isi_int, isi_str, isi_tup, isi_lst, upperW, putW, appW, tupW, lstW, asB_bl, String.reduceBEq, beq_self_eq_true, Bool.or_true, Bool.true_or, Bool.or_false, Bool.false_or, Bool.and_true, Bool.true_and, Bool.and_false, Bool.false_and, Bool.not_true, Bool.not_false, forall_const, true_implies, true_and, and_true, false_implies, reduceCtorEq, List.length_cons, List.length_nil, forall_eq, imp_self, implies_true, if_true, if_false, Bool.false_eq_true, Bool.true_eq_false]
  refine left_nil hs ?_
  simp only [LM.M.bind_wp, LM.M.ret_wp, LM.M.lift_wp, LM.M.want_wp, LM.M.any_wp, LM.s_ite, LM.s_then, LM.s_end, LM.s_run, LM.s_calm, LM.s_fail, LM.alloc_wp, LM.asBM, LM.putM, LM.par2M.eq_1, W.bind_wp, W.ret_wp, W.want_wp, W.any_wp, s_ite, s_get0, s_get, s_then, s_end, s_run, s_calm, s_fail, s_start1, s_start2, s_start3, s_start4, s_start5, List.replicate, List.set_cons_zero, List.set_cons_succ, asB_bl, asS_str, Nat.reduceSub, Nat.reduceAdd, addW.eq_1, addW.eq_2, addW.eq_3, addW.eq_4, addW.eq_5, subW.eq_1, subW.eq_2, mulW.eq_1, mulW.eq_2, mulW.eq_3, intOp.eq_1, negW.eq_1, ordW.eq_1, ordW.eq_2, isW.eq_1, isntW.eq_1, ixW.eq_1, ixW.eq_2, ixW.eq_3, slW.eq_1, slW.eq_2, slW.eq_3, revTW.eq_1, revLW.eq_1, lenW.eq_1, lenW.eq_2, lenW.eq_3, tupleW.eq_1, tupleW.eq_2, listW.eq_1, listW.eq_2, min2W.eq_1, max2W.eq_1, strW.eq_1, strW.eq_2, joinW.eq_1, joinW.eq_2, walkLW.eq_1, walkTW.eq_1, walkSW.eq_1, range1W.eq_1, zipW.eq_1, zipW.eq_2, tupG.eq_1, gsW.eq_1, gsW.eq_2, par2.eq_1, extW.eq_1, extW.eq_2, partW.eq_1, optW.eq_1, optW.eq_2, modW, fdivW, powW, ltW, leW, gtW, geW, isNone, isi_non, isi_bl, isi_int, isi_str, isi_tup, isi_lst, upperW, putW, appW, tupW, lstW, asB_bl, String.reduceBEq, beq_self_eq_true, Bool.or_true, Bool.true_or, Bool.or_false, Bool.false_or, Bool.and_true, Bool.true_and, Bool.and_false, Bool.false_and, Bool.not_true, Bool.not_false, forall_const, true_implies, true_and, and_true, false_implies, reduceCtorEq, List.length_cons, List.length_nil, forall_eq, imp_self, implies_true, if_true, if_false, Bool.false_eq_true, Bool.true_eq_false]
  refine ⟨fun z => ?_, fun z => ?_⟩
  · simp only [bLaw_8, LM.M.bind_wp, LM.M.ret_wp, LM.M.lift_wp, LM.M.want_wp, LM.M.any_wp, LM.s_ite, LM.s_then, LM.s_end, LM.s_run, LM.s_calm, LM.s_fail, LM.alloc_wp, LM.asBM, LM.putM, LM.par2M.eq_1, W.bind_wp, W.ret_wp, W.want_wp, W.any_wp, s_ite, s_get0, s_get, s_then, s_end, s_run, s_calm, s_fail, s_start1, s_start2, s_start3, s_start4, s_start5, List.replicate, List.set_cons_zero, List.set_cons_succ, asB_bl, asS_str, Nat.reduceSub, Nat.reduceAdd, addW.eq_1, addW.eq_2, addW.eq_3, addW.eq_4, addW.eq_5, subW.eq_1, subW.eq_2, mulW.eq_1, mulW.eq_2, mulW.eq_3, intOp.eq_1, negW.eq_1, ordW.eq_1, ordW.eq_2, isW.eq_1, isntW.eq_1, ixW.eq_1, ixW.eq_2, ixW.eq_3, slW.eq_1, slW.eq_2, slW.eq_3, revTW.eq_1, revLW.eq_1, lenW.eq_1, lenW.eq_2, lenW.eq_3, tupleW.eq_1, tupleW.eq_2, listW.eq_1, listW.eq_2, min2W.eq_1, max2W.eq_1, strW.eq_1, strW.eq_2, joinW.eq_1, joinW.eq_2, walkLW.eq_1, walkTW.eq_1, walkSW.eq_1, range1W.eq_1, zipW.eq_1, zipW.eq_2, tupG.eq_1, gsW.eq_1, gsW.eq_2, par2.eq_1, extW.eq_1, extW.eq_2, partW.eq_1, optW.eq_1, optW.eq_2, modW, fdivW, powW, ltW, leW, gtW, geW, isNone, isi_non, isi_bl, isi_int, isi_str, isi_tup, isi_lst, upperW, putW, appW, tupW, lstW, asB_bl, String.reduceBEq, beq_self_eq_true, Bool.or_true, Bool.true_or, Bool.or_false, Bool.false_or, Bool.and_true, Bool.true_and, Bool.and_false, Bool.false_and, Bool.not_true, Bool.not_false, forall_const, true_implies, true_and, and_true, false_implies, reduceCtorEq, List.length_cons, List.length_nil, forall_eq, imp_self, implies_true, if_true, if_false, Bool.false_eq_true, Bool.true_eq_false]
    refine left_at hs ?_
    refine left_len hs ?_
    have l0 : 0 < L.length := by
      cases L with
      | nil => simp at z
      | cons _ _ => exact Nat.succ_pos _
    refine dip (by omega) (by omega) hs (by omega) fun x s1 x0 x1 h1 => ?_
    obtain ⟨p, rfl⟩ := Int.eq_ofNat_of_zero_le x0
    have hpl : p < L.length := by omega
    refine left_pop h1 hpl (by omega) fun s2 h2 => ?_
    have perm2 := (erase_perm2 (T := T) hpl).trans hp
    have le2 : (L.eraseIdx p).length = L.length - 1 := List.length_eraseIdx_of_lt hpl
    have o2 := oP.perm perm2.symm
    generalize L[p] = pg at perm2 o2
    generalize L.eraseIdx p = L2 at perm2 le2 o2 h2
    have oTp : PgL (T ++ [pg]) := o2.sub (List.sublist_append_left _ _)
    have hpg : Pg pg := oTp.each pg (List.mem_append_right _ (List.mem_singleton.mpr rfl))
    simp only [bLaw_7, LM.M.bind_wp, LM.M.ret_wp, LM.M.lift_wp, LM.M.want_wp, LM.M.any_wp, LM.s_ite, LM.s_then, LM.s_end, LM.s_run, LM.s_calm, LM.s_fail, LM.alloc_wp, LM.asBM, LM.putM, LM.par2M.eq_1, W.bind_wp, W.ret_wp, W.want_wp, W.any_wp, s_ite, s_get0, s_get, s_then, s_end, s_run, s_calm, s_fail, s_start1, s_start2, s_start3, s_start4, s_start5, List.replicate, List.set_cons_zero, List.set_cons_succ, asB_bl, asS_str, Nat.reduceSub, Nat.reduceAdd, addW.eq_1, addW.eq_2, addW.eq_3, addW.eq_4, addW.eq_5, subW.eq_1, subW.eq_2, mulW.eq_1, mulW.eq_2, mulW.eq_3, intOp.eq_1, negW.eq_1, ordW.eq_1, ordW.eq_2, isW.eq_1, isntW.eq_1, ixW.eq_1, ixW.eq_2, ixW.eq_3, slW.eq_1, slW.eq_2, slW.eq_3, revTW.eq_1, revLW.eq_1, lenW.eq_1, lenW.eq_2, lenW.eq_3, tupleW.eq_1, tupleW.eq_2, listW.eq_1, listW.eq_2, min2W.eq_1, max2W.eq_1, strW.eq_1, strW.eq_2, joinW.eq_1, joinW.eq_2, walkLW.eq_1, walkTW.eq_1, walkSW.eq_1, range1W.eq_1, zipW.eq_1, zipW.eq_2, tupG.eq_1, gsW.eq_1, gsW.eq_2, par2.eq_1, extW.eq_1, extW.eq_2, partW.eq_1, optW.eq_1, optW.eq_2, modW, fdivW, powW, ltW, leW, gtW, geW, isNone, isi_non, isi_bl, isi_int, isi_str, isi_tup, isi_lst, upperW, putW, appW, tupW, lstW, asB_bl, String.reduceBEq, beq_self_eq_true, Bool.or_true, Bool.true_or, Bool.or_false, Bool.false_or, Bool.and_true, Bool.true_and, Bool.and_false, Bool.false_and, Bool.not_true, Bool.not_false, forall_const, true_implies, true_and, and_true, false_implies, reduceCtorEq, List.length_cons, List.length_nil, forall_eq, imp_self, implies_true, if_true, if_false, Bool.false_eq_true, Bool.true_eq_false]
    refine there_at h2 ?_
    refine there_app h2 (by omega) fun s3 h3 => ?_
    simp only [bLaw_6, LM.M.bind_wp, LM.M.ret_wp, LM.M.lift_wp, LM.M.want_wp, LM.M.any_wp, LM.s_ite, LM.s_then, LM.s_end, LM.s_run, LM.s_calm, LM.s_fail, LM.alloc_wp, LM.asBM, LM.putM, LM.par2M.eq_1, W.bind_wp, W.ret_wp, W.want_wp, W.any_wp, s_ite, s_get0, s_get, s_then, s_end, s_run, s_calm, s_fail, s_start1, s_start2, s_start3, s_start4, s_start5, List.replicate, List.set_cons_zero, List.set_cons_succ, asB_bl, asS_str, Nat.reduceSub, Nat.reduceAdd, addW.eq_1, addW.eq_2, addW.eq_3, addW.eq_4, addW.eq_5, subW.eq_1, subW.eq_2, mulW.eq_1, mulW.eq_2, mulW.eq_3, intOp.eq_1, negW.eq_1, ordW.eq_1, ordW.eq_2, isW.eq_1, isntW.eq_1, ixW.eq_1, ixW.eq_2, ixW.eq_3, slW.eq_1, slW.eq_2, slW.eq_3, revTW.eq_1, revLW.eq_1, lenW.eq_1, lenW.eq_2, lenW.eq_3, tupleW.eq_1, tupleW.eq_2, listW.eq_1, listW.eq_2, min2W.eq_1, max2W.eq_1, strW.eq_1, strW.eq_2, joinW.eq_1, joinW.eq_2, walkLW.eq_1, walkTW.eq_1, walkSW.eq_1, range1W.eq_1, zipW.eq_1, zipW.eq_2, tupG.eq_1, gsW.eq_1, gsW.eq_2, par2.eq_1, extW.eq_1, extW.eq_2, partW.eq_1, optW.eq_1, optW.eq_2, modW, fdivW, powW, ltW, leW, gtW, geW, isNone, isi_non, isi_bl, isi_int, isi_str, isi_tup, isi_lst, upperW, putW, appW, tupW, lstW, asB_bl, String.reduceBEq, beq_self_eq_true, Bool.or_true, Bool.true_or, Bool.or_false, Bool.false_or, Bool.and_true, Bool.true_and, Bool.and_false, Bool.false_and, Bool.not_true, Bool.not_false, forall_const, true_implies, true_and, and_true, false_implies, reduceCtorEq, List.length_cons, List.length_nil, forall_eq, imp_self, implies_true, if_true, if_false, Bool.false_eq_true, Bool.true_eq_false]
    have pz := pair_sz (sortL oT) hpg
    refine ⟨by decide, ?_⟩
    rw [rpr pz (by decide) (by decide) (by decide)]
    simp only [bLaw_5, LM.M.bind_wp, LM.M.ret_wp, LM.M.lift_wp, LM.M.want_wp, LM.M.any_wp, LM.s_ite, LM.s_then, LM.s_end, LM.s_run, LM.s_calm, LM.s_fail, LM.alloc_wp, LM.asBM, LM.putM, LM.par2M.eq_1, W.bind_wp, W.ret_wp, W.want_wp, W.any_wp, s_ite, s_get0, s_get, s_then, s_end, s_run, s_calm, s_fail, s_start1, s_start2, s_start3, s_start4, s_start5, List.replicate, List.set_cons_zero, List.set_cons_succ, asB_bl, asS_str, Nat.reduceSub, Nat.reduceAdd, addW.eq_1, addW.eq_2, addW.eq_3, addW.eq_4, addW.eq_5, subW.eq_1, subW.eq_2, mulW.eq_1, mulW.eq_2, mulW.eq_3, intOp.eq_1, negW.eq_1, ordW.eq_1, ordW.eq_2, isW.eq_1, isntW.eq_1, ixW.eq_1, ixW.eq_2, ixW.eq_3, slW.eq_1, slW.eq_2, slW.eq_3, revTW.eq_1, revLW.eq_1, lenW.eq_1, lenW.eq_2, lenW.eq_3, tupleW.eq_1, tupleW.eq_2, listW.eq_1, listW.eq_2, min2W.eq_1, max2W.eq_1, strW.eq_1, strW.eq_2, joinW.eq_1, joinW.eq_2, walkLW.eq_1, walkTW.eq_1, walkSW.eq_1, range1W.eq_1, zipW.eq_1, zipW.eq_2, tupG.eq_1, gsW.eq_1, gsW.eq_2, par2.eq_1, extW.eq_1, extW.eq_2, partW.eq_1, optW.eq_1, optW.eq_2, modW, fdivW, powW, ltW, leW, gtW, geW, isNone, isi_non, isi_bl, isi_int, isi_str, isi_tup, isi_lst, upperW, putW, appW, tupW, lstW, asB_bl, String.reduceBEq, beq_self_eq_true, Bool.or_true, Bool.true_or, Bool.or_false, Bool.false_or, Bool.and_true, Bool.true_and, Bool.and_false, Bool.false_and, Bool.not_true, Bool.not_false, forall_const, true_implies, true_and, and_true, false_implies, reduceCtorEq, List.length_cons, List.length_nil, forall_eq, imp_self, implies_true, if_true, if_false, Bool.false_eq_true, Bool.true_eq_false]
    refine (with_new oTp).go ?_
    simp only [bLaw_4, LM.M.bind_wp, LM.M.ret_wp, LM.M.lift_wp, LM.M.want_wp, LM.M.any_wp, LM.s_ite, LM.s_then, LM.s_end, LM.s_run, LM.s_calm, LM.s_fail, LM.alloc_wp, LM.asBM, LM.putM, LM.par2M.eq_1, W.bind_wp, W.ret_wp, W.want_wp, W.any_wp, s_ite, s_get0, s_get, s_then, s_end, s_run, s_calm, s_fail, s_start1, s_start2, s_start3, s_start4, s_start5, List.replicate, List.set_cons_zero, List.set_cons_succ, asB_bl, asS_str, Nat.reduceSub, Nat.reduceAdd, addW.eq_1, addW.eq_2, addW.eq_3, addW.eq_4, addW.eq_5, subW.eq_1, subW.eq_2, mulW.eq_1, mulW.eq_2, mulW.eq_3, intOp.eq_1, negW.eq_1, ordW.eq_1, ordW.eq_2, isW.eq_1, isntW.eq_1, ixW.eq_1, ixW.eq_2, ixW.eq_3, slW.eq_1, slW.eq_2, slW.eq_3, revTW.eq_1, revLW.eq_1, lenW.eq_1, lenW.eq_2, lenW.eq_3, tupleW.eq_1, tupleW.eq_2, listW.eq_1, listW.eq_2, min2W.eq_1, max2W.eq_1, strW.eq_1, strW.eq_2, joinW.eq_1, joinW.eq_2, walkLW.eq_1, walkTW.eq_1, walkSW.eq_1, range1W.eq_1, zipW.eq_1, zipW.eq_2, tupG.eq_1, gsW.eq_1, gsW.eq_2, par2.eq_1, extW.eq_1, extW.eq_2, partW.eq_1, optW.eq_1, optW.eq_2, modW, fdivW, powW, ltW, leW, gtW, geW, isNone, isi_non, isi_bl, isi_int, isi_str, isi_tup, isi_lst, upperW, putW, appW, tupW, lstW, asB_bl, String.reduceBEq, beq_self_eq_true, Bool.or_true, Bool.true_or, Bool.or_false, Bool.false_or, Bool.and_true, Bool.true_and, Bool.and_false, Bool.false_and, Bool.not_true, Bool.not_false, forall_const, true_implies, true_and, and_true, false_implies, reduceCtorEq, List.length_cons, List.length_nil, forall_eq, imp_self, implies_true, if_true, if_false, Bool.false_eq_true, Bool.true_eq_false]
    refine ⟨by decide, ?_⟩
    rw [rpr pz (by decide) (by decide) (by decide)]
    simp only [rp_same, rprT (sortL oTp), LM.M.bind_wp, LM.M.ret_wp, LM.M.lift_wp, LM.M.want_wp, LM.M.any_wp, LM.s_ite, LM.s_then, LM.s_end, LM.s_run, LM.s_calm, LM.s_fail, LM.alloc_wp, LM.asBM, LM.putM, LM.par2M.eq_1, W.bind_wp, W.ret_wp, W.want_wp, W.any_wp, s_ite, s_get0, s_get, s_then, s_end, s_run, s_calm, s_fail, s_start1, s_start2, s_start3, s_start4, s_start5, List.replicate, List.set_cons_zero, List.set_cons_succ, asB_bl, asS_str, Nat.reduceSub, Nat.reduceAdd, addW.eq_1, addW.eq_2, addW.eq_3, addW.eq_4, addW.eq_5, subW.eq_1, subW.eq_2, mulW.eq_1, mulW.eq_2, mulW.eq_3, intOp.eq_1, negW.eq_1, ordW.eq_1, ordW.eq_2, isW.eq_1, isntW.eq_1, ixW.eq_1, ixW.eq_2, ixW.eq_3, slW.eq_1, slW.eq_2, slW.eq_3, revTW.eq_1, revLW.eq_1, lenW.eq_1, lenW.eq_2, lenW.eq_3, tupleW.eq_1, tupleW.eq_2, listW.eq_1, listW.eq_2, min2W.eq_1, max2W.eq_1, strW.eq_1, strW.eq_2, joinW.eq_1, joinW.eq_2, walkLW.eq_1, walkTW.eq_1, walkSW.eq_1, range1W.eq_1, zipW.eq_1, zipW.eq_2, tupG.eq_1, gsW.eq_1, gsW.eq_2, par2.eq_1, extW.eq_1, extW.eq_2, partW.eq_1, optW.eq_1, optW.eq_2, modW, fdivW, powW, ltW, leW, gtW, geW, isNone, isi_non, isi_bl, isi_int, isi_str, isi_tup, isi_lst, upperW, putW, appW, tupW, lstW, asB_bl, String.reduceBEq, beq_self_eq_true, Bool.or_true, Bool.true_or, Bool.or_false, Bool.false_or, Bool.and_true, Bool.true_and, Bool.and_false, Bool.false_and, Bool.not_true, Bool.not_false, forall_const, true_implies, true_and, and_true, false_implies, reduceCtorEq, List.length_cons, List.length_nil, forall_eq, imp_self, implies_true, if_true, if_false, Bool.false_eq_true, Bool.true_eq_false]
    refine there_sort h3 oTp ?_
    simp only [LM.M.bind_wp, LM.M.ret_wp, LM.M.lift_wp, LM.M.want_wp, LM.M.any_wp, LM.s_ite, LM.s_then, LM.s_end, LM.s_run, LM.s_calm, LM.s_fail, LM.alloc_wp, LM.asBM, LM.putM, LM.par2M.eq_1, W.bind_wp, W.ret_wp, W.want_wp, W.any_wp, s_ite, s_get0, s_get, s_then, s_end, s_run, s_calm, s_fail, s_start1, s_start2, s_start3, s_start4, s_start5, List.replicate, List.set_cons_zero, List.set_cons_succ, asB_bl, asS_str, Nat.reduceSub, Nat.reduceAdd, addW.eq_1, addW.eq_2, addW.eq_3, addW.eq_4, addW.eq_5, subW.eq_1, subW.eq_2, mulW.eq_1, mulW.eq_2, mulW.eq_3, intOp.eq_1, negW.eq_1, ordW.eq_1, ordW.eq_2, isW.eq_1, isntW.eq_1, ixW.eq_1, ixW.eq_2, ixW.eq_3, slW.eq_1, slW.eq_2, slW.eq_3, revTW.eq_1, revLW.eq_1, lenW.eq_1, lenW.eq_2, lenW.eq_3, tupleW.eq_1, tupleW.eq_2, listW.eq_1, listW.eq_2, min2W.eq_1, max2W.eq_1, strW.eq_1, strW.eq_2, joinW.eq_1, joinW.eq_2, walkLW.eq_1, walkTW.eq_1, walkSW.eq_1, range1W.eq_1, zipW.eq_1, zipW.eq_2, tupG.eq_1, gsW.eq_1, gsW.eq_2, par2.eq_1, extW.eq_1, extW.eq_2, partW.eq_1, optW.eq_1, optW.eq_2, modW, fdivW, powW, ltW, leW, gtW, geW, isNone, isi_non, isi_bl, isi_int, isi_str, isi_tup, isi_lst, upperW, putW, appW, tupW, lstW, asB_bl, String.reduceBEq, beq_self_eq_true, Bool.or_true, Bool.true_or, Bool.or_false, Bool.false_or, Bool.and_true, Bool.true_and, Bool.and_false, Bool.false_and, Bool.not_true, Bool.not_false, forall_const, true_implies, true_and, and_true, false_implies, reduceCtorEq, List.length_cons, List.length_nil, forall_eq, imp_self, implies_true, if_true, if_false, Bool.false_eq_true, Bool.true_eq_false]
    have oN := sortL oTp
    have hN : pg ∈ T ++ [pg] := List.mem_append_right _ (List.mem_singleton.mpr rfl)
    rw [rprT oN]
    simp only [rp_same, LM.M.bind_wp, LM.M.ret_wp, LM.M.lift_wp, LM.M.want_wp, LM.M.any_wp, LM.s_ite, LM.s_then, LM.s_end, LM.s_run, LM.s_calm, LM.s_fail, LM.alloc_wp, LM.asBM, LM.putM, LM.par2M.eq_1, W.bind_wp, W.ret_wp, W.want_wp, W.any_wp, s_ite, s_get0, s_get, s_then, s_end, s_run, s_calm, s_fail, s_start1, s_start2, s_start3, s_start4, s_start5, List.replicate, List.set_cons_zero, List.set_cons_succ, asB_bl, asS_str, Nat.reduceSub, Nat.reduceAdd, addW.eq_1, addW.eq_2, addW.eq_3, addW.eq_4, addW.eq_5, subW.eq_1, subW.eq_2, mulW.eq_1, mulW.eq_2, mulW.eq_3, intOp.eq_1, negW.eq_1, ordW.eq_1, ordW.eq_2, isW.eq_1, isntW.eq_1, ixW.eq_1, ixW.eq_2, ixW.eq_3, slW.eq_1, slW.eq_2, slW.eq_3, revTW.eq_1, revLW.eq_1, lenW.eq_1, lenW.eq_2, lenW.eq_3, tupleW.eq_1, tupleW.eq_2, listW.eq_1, listW.eq_2, min2W.eq_1, max2W.eq_1, strW.eq_1, strW.eq_2, joinW.eq_1, joinW.eq_2, walkLW.eq_1, walkTW.eq_1, walkSW.eq_1, range1W.eq_1, zipW.eq_1, zipW.eq_2, tupG.eq_1, gsW.eq_1, gsW.eq_2, par2.eq_1, extW.eq_1, extW.eq_2, partW.eq_1, optW.eq_1, optW.eq_2, modW, fdivW, powW, ltW, leW, gtW, geW, isNone, isi_non, isi_bl, isi_int, isi_str, isi_tup, isi_lst, upperW, putW, appW, tupW, lstW, asB_bl, String.reduceBEq, beq_self_eq_true, Bool.or_true, Bool.true_or, Bool.or_false, Bool.false_or, Bool.and_true, Bool.true_and, Bool.and_false, Bool.false_and, Bool.not_true, Bool.not_false, forall_const, true_implies, true_and, and_true, false_implies, reduceCtorEq, List.length_cons, List.length_nil, forall_eq, imp_self, implies_true, if_true, if_false, Bool.false_eq_true, Bool.true_eq_false]
    simp only [bLaw_3, LM.M.bind_wp, LM.M.ret_wp, LM.M.lift_wp, LM.M.want_wp, LM.M.any_wp, LM.s_ite, LM.s_then, LM.s_end, LM.s_run, LM.s_calm, LM.s_fail, LM.alloc_wp, LM.asBM, LM.putM, LM.par2M.eq_1, W.bind_wp, W.ret_wp, W.want_wp, W.any_wp, s_ite, s_get0, s_get, s_then, s_end, s_run, s_calm, s_fail, s_start1, s_start2, s_start3, s_start4, s_start5, List.replicate, List.set_cons_zero, List.set_cons_succ, asB_bl, asS_str, Nat.reduceSub, Nat.reduceAdd, addW.eq_1, addW.eq_2, addW.eq_3, addW.eq_4, addW.eq_5, subW.eq_1, subW.eq_2, mulW.eq_1, mulW.eq_2, mulW.eq_3, intOp.eq_1, negW.eq_1, ordW.eq_1, ordW.eq_2, isW.eq_1, isntW.eq_1, ixW.eq_1, ixW.eq_2, ixW.eq_3, slW.eq_1, slW.eq_2, slW.eq_3, revTW.eq_1, revLW.eq_1, lenW.eq_1, lenW.eq_2, lenW.eq_3, tupleW.eq_1, tupleW.eq_2, listW.eq_1, listW.eq_2, min2W.eq_1, max2W.eq_1, strW.eq_1, strW.eq_2, joinW.eq_1, joinW.eq_2, walkLW.eq_1, walkTW.eq_1, walkSW.eq_1, range1W.eq_1, zipW.eq_1, zipW.eq_2, tupG.eq_1, gsW.eq_1, gsW.eq_2, par2.eq_1, extW.eq_1, extW.eq_2, partW.eq_1, optW.eq_1, optW.eq_2, modW, fdivW, powW, ltW, leW, gtW, geW, isNone, isi_non, isi_bl, isi_int, isi_str, isi_tup, isi_lst, upperW, putW, appW, tupW, lstW, asB_bl, String.reduceBEq, beq_self_eq_true, Bool.or_true, Bool.true_or, Bool.or_false, Bool.false_or, Bool.and_true, Bool.true_and, Bool.and_false, Bool.false_and, Bool.not_true, Bool.not_false, forall_const, true_implies, true_and, and_true, false_implies, reduceCtorEq, List.length_cons, List.length_nil, forall_eq, imp_self, implies_true, if_true, if_false, Bool.false_eq_true, Bool.true_eq_false]
    refine (with_old oTp hN).go ?_
    simp only [rprT oN, rp_same, LM.M.bind_wp, LM.M.ret_wp, LM.M.lift_wp, LM.M.want_wp, LM.M.any_wp, LM.s_ite, LM.s_then, LM.s_end, LM.s_run, LM.s_calm, LM.s_fail, LM.alloc_wp, LM.asBM, LM.putM, LM.par2M.eq_1, W.bind_wp, W.ret_wp, W.want_wp, W.any_wp, s_ite, s_get0, s_get, s_then, s_end, s_run, s_calm, s_fail, s_start1, s_start2, s_start3, s_start4, s_start5, List.replicate, List.set_cons_zero, List.set_cons_succ, asB_bl, asS_str, Nat.reduceSub, Nat.reduceAdd, addW.eq_1, addW.eq_2, addW.eq_3, addW.eq_4, addW.eq_5, subW.eq_1, subW.eq_2, mulW.eq_1, mulW.eq_2, mulW.eq_3, intOp.eq_1, negW.eq_1, ordW.eq_1, ordW.eq_2, isW.eq_1, isntW.eq_1, ixW.eq_1, ixW.eq_2, ixW.eq_3, slW.eq_1, slW.eq_2, slW.eq_3, revTW.eq_1, revLW.eq_1, lenW.eq_1, lenW.eq_2, lenW.eq_3, tupleW.eq_1, tupleW.eq_2, listW.eq_1, listW.eq_2, min2W.eq_1, max2W.eq_1, strW.eq_1, strW.eq_2, joinW.eq_1, joinW.eq_2, walkLW.eq_1, walkTW.eq_1, walkSW.eq_1, range1W.eq_1, zipW.eq_1, zipW.eq_2, tupG.eq_1, gsW.eq_1, gsW.eq_2, par2.eq_1, extW.eq_1, extW.eq_2, partW.eq_1, optW.eq_1, optW.eq_2, modW, fdivW, powW, ltW, leW, gtW, geW, isNone, isi_non, isi_bl, isi_int, isi_str, isi_tup, isi_lst, upperW, putW, appW, tupW, lstW, asB_bl, String.reduceBEq, beq_self_eq_true, Bool.or_true, Bool.true_or, Bool.or_false, Bool.false_or, Bool.and_true, Bool.true_and, Bool.and_false, Bool.false_and, Bool.not_true, Bool.not_false, forall_const, true_implies, true_and, and_true, false_implies, reduceCtorEq, List.length_cons, List.length_nil, forall_eq, imp_self, implies_true, if_true, if_false, Bool.false_eq_true, Bool.true_eq_false]
    refine (without_ret oN hpg).go ?_
    rw [out_again oTp]
    simp only [rprT (sortL oT), rp_same, LM.M.bind_wp, LM.M.ret_wp, LM.M.lift_wp, LM.M.want_wp, LM.M.any_wp, LM.s_ite, LM.s_then, LM.s_end, LM.s_run, LM.s_calm, LM.s_fail, LM.alloc_wp, LM.asBM, LM.putM, LM.par2M.eq_1, W.bind_wp, W.ret_wp, W.want_wp, W.any_wp, s_ite, s_get0, s_get, s_then, s_end, s_run, s_calm, s_fail, s_start1, s_start2, s_start3, s_start4, s_start5, List.replicate, List.set_cons_zero, List.set_cons_succ, asB_bl, asS_str, Nat.reduceSub, Nat.reduceAdd, addW.eq_1, addW.eq_2, addW.eq_3, addW.eq_4, addW.eq_5, subW.eq_1, subW.eq_2, mulW.eq_1, mulW.eq_2, mulW.eq_3, intOp.eq_1, negW.eq_1, ordW.eq_1, ordW.eq_2, isW.eq_1, isntW.eq_1, ixW.eq_1, ixW.eq_2, ixW.eq_3, slW.eq_1, slW.eq_2, slW.eq_3, revTW.eq_1, revLW.eq_1, lenW.eq_1, lenW.eq_2, lenW.eq_3, tupleW.eq_1, tupleW.eq_2, listW.eq_1, listW.eq_2, min2W.eq_1, max2W.eq_1, strW.eq_1, strW.eq_2, joinW.eq_1, joinW.eq_2, walkLW.eq_1, walkTW.eq_1, walkSW.eq_1, range1W.eq_1, zipW.eq_1, zipW.eq_2, tupG.eq_1, gsW.eq_1, gsW.eq_2, par2.eq_1, extW.eq_1, extW.eq_2, partW.eq_1, optW.eq_1, optW.eq_2, modW, fdivW, powW, ltW, leW, gtW, geW, isNone, isi_non, isi_bl, isi_int, isi_str, isi_tup, isi_lst, upperW, putW, appW, tupW, lstW, asB_bl, String.reduceBEq, beq_self_eq_true, Bool.or_true, Bool.true_or, Bool.or_false, Bool.false_or, Bool.and_true, Bool.true_and, Bool.and_false, Bool.false_and, Bool.not_true, Bool.not_false, forall_const, true_implies, true_and, and_true, false_implies, reduceCtorEq, List.length_cons, List.length_nil, forall_eq, imp_self, implies_true, if_true, if_false, Bool.false_eq_true, Bool.true_eq_false]
    simp only [bLaw_2, LM.M.bind_wp, LM.M.ret_wp, LM.M.lift_wp, LM.M.want_wp, LM.M.any_wp, LM.s_ite, LM.s_then, LM.s_end, LM.s_run, LM.s_calm, LM.s_fail, LM.alloc_wp, LM.asBM, LM.putM, LM.par2M.eq_1, W.bind_wp, W.ret_wp, W.want_wp, W.any_wp, s_ite, s_get0, s_get, s_then, s_end, s_run, s_calm, s_fail, s_start1, s_start2, s_start3, s_start4, s_start5, List.replicate, List.set_cons_zero, List.set_cons_succ, asB_bl, asS_str, Nat.reduceSub, Nat.reduceAdd, addW.eq_1, addW.eq_2, addW.eq_3, addW.eq_4, addW.eq_5, subW.eq_1, subW.eq_2, mulW.eq_1, mulW.eq_2, mulW.eq_3, intOp.eq_1, negW.eq_1, ordW.eq_1, ordW.eq_2, isW.eq_1, isntW.eq_1, ixW.eq_1, ixW.eq_2, ixW.eq_3, slW.eq_1, slW.eq_2, slW.eq_3, revTW.eq_1, revLW.eq_1, lenW.eq_1, lenW.eq_2, lenW.eq_3, tupleW.eq_1, tupleW.eq_2, listW.eq_1, listW.eq_2, min2W.eq_1, max2W.eq_1, strW.eq_1, strW.eq_2, joinW.eq_1, joinW.eq_2, walkLW.eq_1, walkTW.eq_1, walkSW.eq_1, range1W.eq_1, zipW.eq_1, zipW.eq_2, tupG.eq_1, gsW.eq_1, gsW.eq_2, par2.eq_1, extW.eq_1, extW.eq_2, partW.eq_1, optW.eq_1, optW.eq_2, modW, fdivW, powW, ltW, leW, gtW, geW, isNone, isi_non, isi_bl, isi_int, isi_str, isi_tup, isi_lst, upperW, putW, appW, tupW, lstW, asB_bl, String.reduceBEq, beq_self_eq_true, Bool.or_true, Bool.true_or, Bool.or_false, Bool.false_or, Bool.and_true, Bool.true_and, Bool.and_false, Bool.false_and, Bool.not_true, Bool.not_false, forall_const, true_implies, true_and, and_true, false_implies, reduceCtorEq, List.length_cons, List.length_nil, forall_eq, imp_self, implies_true, if_true, if_false, Bool.false_eq_true, Bool.true_eq_false]
    refine left_nil h3 ?_
    simp only [LM.M.bind_wp, LM.M.ret_wp, LM.M.lift_wp, LM.M.want_wp, LM.M.any_wp, LM.s_ite, LM.s_then, LM.s_end, LM.s_run, LM.s_calm, LM.s_fail, LM.alloc_wp, LM.asBM, LM.putM, LM.par2M.eq_1, W.bind_wp, W.ret_wp, W.want_wp, W.any_wp, s_ite, s_get0, s_get, s_then, s_end, s_run, s_calm, s_fail, s_start1, s_start2, s_start3, s_start4, s_start5, List.replicate, List.set_cons_zero, List.set_cons_succ, asB_bl, asS_str, Nat.reduceSub, Nat.reduceAdd, addW.eq_1, addW.eq_2, addW.eq_3, addW.eq_4, addW.eq_5, subW.eq_1, subW.eq_2, mulW.eq_1, mulW.eq_2, mulW.eq_3, intOp.eq_1, negW.eq_1, ordW.eq_1, ordW.eq_2, isW.eq_1, isntW.eq_1, ixW.eq_1, ixW.eq_2, ixW.eq_3, slW.eq_1, slW.eq_2, slW.eq_3, revTW.eq_1, revLW.eq_1, lenW.eq_1, lenW.eq_2, lenW.eq_3, tupleW.eq_1, tupleW.eq_2, listW.eq_1, listW.eq_2, min2W.eq_1, max2W.eq_1, strW.eq_1, strW.eq_2, joinW.eq_1, joinW.eq_2, walkLW.eq_1, walkTW.eq_1, walkSW.eq_1, range1W.eq_1, zipW.eq_1, zipW.eq_2, tupG.eq_1, gsW.eq_1, gsW.eq_2, par2.eq_1, extW.eq_1, extW.eq_2, partW.eq_1, optW.eq_1, optW.eq_2, modW, fdivW, powW, ltW, leW, gtW, geW, isNone, isi_non, isi_bl, isi_int, isi_str, isi_tup, isi_lst, upperW, putW, appW, tupW, lstW, asB_bl, String.reduceBEq, beq_self_eq_true, Bool.or_true, Bool.true_or, Bool.or_false, Bool.false_or, Bool.and_true, Bool.true_and, Bool.and_false, Bool.false_and, Bool.not_true, Bool.not_false, forall_const, true_implies, true_and, and_true, false_implies, reduceCtorEq, List.length_cons, List.length_nil, forall_eq, imp_self, implies_true, if_true, if_false, Bool.false_eq_true, Bool.true_eq_false]
    have done : ∃ j, j < n ∧ ∃ T' L' y7 y8 y9, [none, some (D.tok 1), some Menu, some (D.lst Ps), some (D.tup (sortPD (T ++ [pg]))), some (D.tok 4), some (D.tok 5), some pg, some (rp (D.tup [D.tup (sortPD T), pg])), some (D.tup (sortPD (T ++ [pg]))), none, none, none] = [none, some (D.tok 1), some Menu, some (D.lst Ps), some (D.tup (sortPD T')), some (D.tok 4), some (D.tok 5), y7, y8, y9, none, none, none] ∧ (T' ++ L').Perm Ps ∧ L'.length = j ∧ Hnd (3000 + T'.length) (R2 ks vs T' L') s3 :=
      ⟨L2.length, by omega, T ++ [pg], L2, _, _, _, rfl, perm2, rfl, h3.mono (by rw [List.length_append, List.length_singleton]; omega)⟩
    refine ⟨fun z => ?_, fun z => ?_⟩
    · cases L2 with
      | nil => simp at z
      | cons d L3 =>
        refine left_0 h3 ?_
        have oD : PgL (T ++ [pg] ++ [d]) := o2.sub (by
          have : T ++ [pg] ++ d :: L3 = T ++ [pg] ++ [d] ++ L3 := by simp
          rw [this]
          exact List.sublist_append_left _ _)
        have hd : Pg d := o2.each d (List.mem_append_right _ List.mem_cons_self)
        refine (without_ret oN hd).go ?_
        rw [not_there oD]
        simp only [rprT oN, rp_same, LM.M.bind_wp, LM.M.ret_wp, LM.M.lift_wp, LM.M.want_wp, LM.M.any_wp, LM.s_ite, LM.s_then, LM.s_end, LM.s_run, LM.s_calm, LM.s_fail, LM.alloc_wp, LM.asBM, LM.putM, LM.par2M.eq_1, W.bind_wp, W.ret_wp, W.want_wp, W.any_wp, s_ite, s_get0, s_get, s_then, s_end, s_run, s_calm, s_fail, s_start1, s_start2, s_start3, s_start4, s_start5, List.replicate, List.set_cons_zero, List.set_cons_succ, asB_bl, asS_str, Nat.reduceSub, Nat.reduceAdd, addW.eq_1, addW.eq_2, addW.eq_3, addW.eq_4, addW.eq_5, subW.eq_1, subW.eq_2, mulW.eq_1, mulW.eq_2, mulW.eq_3, intOp.eq_1, negW.eq_1, ordW.eq_1, ordW.eq_2, isW.eq_1, isntW.eq_1, ixW.eq_1, ixW.eq_2, ixW.eq_3, slW.eq_1, slW.eq_2, slW.eq_3, revTW.eq_1, revLW.eq_1, lenW.eq_1, lenW.eq_2, lenW.eq_3, tupleW.eq_1, tupleW.eq_2, listW.eq_1, listW.eq_2, min2W.eq_1, max2W.eq_1, strW.eq_1, strW.eq_2, joinW.eq_1, joinW.eq_2, walkLW.eq_1, walkTW.eq_1, walkSW.eq_1, range1W.eq_1, zipW.eq_1, zipW.eq_2, tupG.eq_1, gsW.eq_1, gsW.eq_2, par2.eq_1, extW.eq_1, extW.eq_2, partW.eq_1, optW.eq_1, optW.eq_2, modW, fdivW, powW, ltW, leW, gtW, geW, isNone, isi_non, isi_bl, isi_int, isi_str, isi_tup, isi_lst, upperW, putW, appW, tupW, lstW, asB_bl, String.reduceBEq, beq_self_eq_true, Bool.or_true, Bool.true_or, Bool.or_false, Bool.false_or, Bool.and_true, Bool.true_and, Bool.and_false, Bool.false_and, Bool.not_true, Bool.not_false, forall_const, true_implies, true_and, and_true, false_implies, reduceCtorEq, List.length_cons, List.length_nil, forall_eq, imp_self, implies_true, if_true, if_false, Bool.false_eq_true, Bool.true_eq_false]
        simp only [bLaw_1, LM.M.bind_wp, LM.M.ret_wp, LM.M.lift_wp, LM.M.want_wp, LM.M.any_wp, LM.s_ite, LM.s_then, LM.s_end, LM.s_run, LM.s_calm, LM.s_fail, LM.alloc_wp, LM.asBM, LM.putM, LM.par2M.eq_1, W.bind_wp, W.ret_wp, W.want_wp, W.any_wp, s_ite, s_get0, s_get, s_then, s_end, s_run, s_calm, s_fail, s_start1, s_start2, s_start3, s_start4, s_start5, List.replicate, List.set_cons_zero, List.set_cons_succ, asB_bl, asS_str, Nat.reduceSub, Nat.reduceAdd, addW.eq_1, addW.eq_2, addW.eq_3, addW.eq_4, addW.eq_5, subW.eq_1, subW.eq_2, mulW.eq_1, mulW.eq_2, mulW.eq_3, intOp.eq_1, negW.eq_1, ordW.eq_1, ordW.eq_2, isW.eq_1, isntW.eq_1, ixW.eq_1, ixW.eq_2, ixW.eq_3, slW.eq_1, slW.eq_2, slW.eq_3, revTW.eq_1, revLW.eq_1, lenW.eq_1, lenW.eq_2, lenW.eq_3, tupleW.eq_1, tupleW.eq_2, listW.eq_1, listW.eq_2, min2W.eq_1, max2W.eq_1, strW.eq_1, strW.eq_2, joinW.eq_1, joinW.eq_2, walkLW.eq_1, walkTW.eq_1, walkSW.eq_1, range1W.eq_1, zipW.eq_1, zipW.eq_2, tupG.eq_1, gsW.eq_1, gsW.eq_2, par2.eq_1, extW.eq_1, extW.eq_2, partW.eq_1, optW.eq_1, optW.eq_2, modW, fdivW, powW, ltW, leW, gtW, geW, isNone, isi_non, isi_bl, isi_int, isi_str, isi_tup, isi_lst, upperW, putW, appW, tupW, lstW, asB_bl, String.reduceBEq, beq_self_eq_true, Bool.or_true, Bool.true_or, Bool.or_false, Bool.false_or, Bool.and_true, Bool.true_and, Bool.and_false, Bool.false_and, Bool.not_true, Bool.not_false, forall_const, true_implies, true_and, and_true, false_implies, reduceCtorEq, List.length_cons, List.length_nil, forall_eq, imp_self, implies_true, if_true, if_false, Bool.false_eq_true, Bool.true_eq_false]
        exact done
    · simp only [bLaw_1, LM.M.bind_wp, LM.M.ret_wp, LM.M.lift_wp, LM.M.want_wp, LM.M.any_wp, LM.s_ite, LM.s_then, LM.s_end, LM.s_run, LM.s_calm, LM.s_fail, LM.alloc_wp, LM.asBM, LM.putM, LM.par2M.eq_1, W.bind_wp, W.ret_wp, W.want_wp, W.any_wp, s_ite, s_get0, s_get, s_then, s_end, s_run, s_calm, s_fail, s_start1, s_start2, s_start3, s_start4, s_start5, List.replicate, List.set_cons_zero, List.set_cons_succ, asB_bl, asS_str, Nat.reduceSub, Nat.reduceAdd, addW.eq_1, addW.eq_2, addW.eq_3, addW.eq_4, addW.eq_5, subW.eq_1, subW.eq_2, mulW.eq_1, mulW.eq_2, mulW.eq_3, intOp.eq_1, negW.eq_1, ordW.eq_1, ordW.eq_2, isW.eq_1, isntW.eq_1, ixW.eq_1, ixW.eq_2, ixW.eq_3, slW.eq_1, slW.eq_2, slW.eq_3, revTW.eq_1, revLW.eq_1, lenW.eq_1, lenW.eq_2, lenW.eq_3, tupleW.eq_1, tupleW.eq_2, listW.eq_1, listW.eq_2, min2W.eq_1, max2W.eq_1, strW.eq_1, strW.eq_2, joinW.eq_1, joinW.eq_2, walkLW.eq_1, walkTW.eq_1, walkSW.eq_1, range1W.eq_1, zipW.eq_1, zipW.eq_2, tupG.eq_1, gsW.eq_1, gsW.eq_2, par2.eq_1, extW.eq_1, extW.eq_2, partW.eq_1, optW.eq_1, optW.eq_2, modW, fdivW, powW, ltW, leW, gtW, geW, isNone, isi_non, isi_bl, isi_int, isi_str, isi_tup, isi_lst, upperW, putW, appW, tupW, lstW, asB_bl, String.reduceBEq, beq_self_eq_true, Bool.or_true, Bool.true_or, Bool.or_false, Bool.false_or, Bool.and_true, Bool.true_and, Bool.and_false, Bool.false_and, Bool.not_true, Bool.not_false, forall_const, true_implies, true_and, and_true, false_implies, reduceCtorEq, List.length_cons, List.length_nil, forall_eq, imp_self, implies_true, if_true, if_false, Bool.false_eq_true, Bool.true_eq_false]
      exact done
  · have L0 : L = [] := by
      cases L with
      | nil => rfl
      | cons _ _ => simp at z
    subst L0
    rw [List.append_nil] at hp
    have oN := sortL oT
    have lN := oN.len
    simp only [bLaw_12, LM.M.bind_wp, LM.M.ret_wp, LM.M.lift_wp, LM.M.want_wp, LM.M.any_wp, LM.s_ite, LM.s_then, LM.s_end, LM.s_run, LM.s_calm, LM.s_fail, LM.alloc_wp, LM.asBM, LM.putM, LM.par2M.eq_1, W.bind_wp, W.ret_wp, W.want_wp, W.any_wp, s_ite, s_get0, s_get, s_then, s_end, s_run, s_calm, s_fail, s_start1, s_start2, s_start3, s_start4, s_start5, List.replicate, List.set_cons_zero, List.set_cons_succ, asB_bl, asS_str, Nat.reduceSub, Nat.reduceAdd, addW.eq_1, addW.eq_2, addW.eq_3, addW.eq_4, addW.eq_5, subW.eq_1, subW.eq_2, mulW.eq_1, mulW.eq_2, mulW.eq_3, intOp.eq_1, negW.eq_1, ordW.eq_1, ordW.eq_2, isW.eq_1, isntW.eq_1, ixW.eq_1, ixW.eq_2, ixW.eq_3, slW.eq_1, slW.eq_2, slW.eq_3, revTW.eq_1, revLW.eq_1, lenW.eq_1, lenW.eq_2, lenW.eq_3, tupleW.eq_1, tupleW.eq_2, listW.eq_1, listW.eq_2, min2W.eq_1, max2W.eq_1, strW.eq_1, strW.eq_2, joinW.eq_1, joinW.eq_2, walkLW.eq_1, walkTW.eq_1, walkSW.eq_1, range1W.eq_1, zipW.eq_1, zipW.eq_2, tupG.eq_1, gsW.eq_1, gsW.eq_2, par2.eq_1, extW.eq_1, extW.eq_2, partW.eq_1, optW.eq_1, optW.eq_2, modW, fdivW, powW, ltW, leW, gtW, geW, isNone, isi_non, isi_bl, isi_int, isi_str, isi_tup, isi_lst, upperW, putW, appW, tupW, lstW, asB_bl, String.reduceBEq, beq_self_eq_true, Bool.or_true, Bool.true_or, Bool.or_false, Bool.false_or, Bool.and_true, Bool.true_and, Bool.and_false, Bool.false_and, Bool.not_true, Bool.not_false, forall_const, true_implies, true_and, and_true, false_implies, reduceCtorEq, List.length_cons, List.length_nil, forall_eq, imp_self, implies_true, if_true, if_false, Bool.false_eq_true, Bool.true_eq_false]
    simp only [bLaw_11, LM.M.bind_wp, LM.M.ret_wp, LM.M.lift_wp, LM.M.want_wp, LM.M.any_wp, LM.s_ite, LM.s_then, LM.s_end, LM.s_run, LM.s_calm, LM.s_fail, LM.alloc_wp, LM.asBM, LM.putM, LM.par2M.eq_1, W.bind_wp, W.ret_wp, W.want_wp, W.any_wp, s_ite, s_get0, s_get, s_then, s_end, s_run, s_calm, s_fail, s_start1, s_start2, s_start3, s_start4, s_start5, List.replicate, List.set_cons_zero, List.set_cons_succ, asB_bl, asS_str, Nat.reduceSub, Nat.reduceAdd, addW.eq_1, addW.eq_2, addW.eq_3, addW.eq_4, addW.eq_5, subW.eq_1, subW.eq_2, mulW.eq_1, mulW.eq_2, mulW.eq_3, intOp.eq_1, negW.eq_1, ordW.eq_1, ordW.eq_2, isW.eq_1, isntW.eq_1, ixW.eq_1, ixW.eq_2, ixW.eq_3, slW.eq_1, slW.eq_2, slW.eq_3, revTW.eq_1, revLW.eq_1, lenW.eq_1, lenW.eq_2, lenW.eq_3, tupleW.eq_1, tupleW.eq_2, listW.eq_1, listW.eq_2, min2W.eq_1, max2W.eq_1, strW.eq_1, strW.eq_2, joinW.eq_1, joinW.eq_2, walkLW.eq_1, walkTW.eq_1, walkSW.eq_1, range1W.eq_1, zipW.eq_1, zipW.eq_2, tupG.eq_1, gsW.eq_1, gsW.eq_2, par2.eq_1, extW.eq_1, extW.eq_2, partW.eq_1, optW.eq_1, optW.eq_2, modW, fdivW, powW, ltW, leW, gtW, geW, isNone, isi_non, isi_bl, isi_int, isi_str, isi_tup, isi_lst, upperW, putW, appW, tupW, lstW, asB_bl, String.reduceBEq, beq_self_eq_true, Bool.or_true, Bool.true_or, Bool.or_false, Bool.false_or, Bool.and_true, Bool.true_and, Bool.and_false, Bool.false_and, Bool.not_true, Bool.not_false, forall_const, true_implies, true_and, and_true, false_implies, reduceCtorEq, List.length_cons, List.length_nil, forall_eq, imp_self, implies_true, if_true, if_false, Bool.false_eq_true, Bool.true_eq_false]
    refine clocks_wp oN fun cl hcl => ?_
    simp only [LM.M.bind_wp, LM.M.ret_wp, LM.M.lift_wp, LM.M.want_wp, LM.M.any_wp, LM.s_ite, LM.s_then, LM.s_end, LM.s_run, LM.s_calm, LM.s_fail, LM.alloc_wp, LM.asBM, LM.putM, LM.par2M.eq_1, W.bind_wp, W.ret_wp, W.want_wp, W.any_wp, s_ite, s_get0, s_get, s_then, s_end, s_run, s_calm, s_fail, s_start1, s_start2, s_start3, s_start4, s_start5, List.replicate, List.set_cons_zero, List.set_cons_succ, asB_bl, asS_str, Nat.reduceSub, Nat.reduceAdd, addW.eq_1, addW.eq_2, addW.eq_3, addW.eq_4, addW.eq_5, subW.eq_1, subW.eq_2, mulW.eq_1, mulW.eq_2, mulW.eq_3, intOp.eq_1, negW.eq_1, ordW.eq_1, ordW.eq_2, isW.eq_1, isntW.eq_1, ixW.eq_1, ixW.eq_2, ixW.eq_3, slW.eq_1, slW.eq_2, slW.eq_3, revTW.eq_1, revLW.eq_1, lenW.eq_1, lenW.eq_2, lenW.eq_3, tupleW.eq_1, tupleW.eq_2, listW.eq_1, listW.eq_2, min2W.eq_1, max2W.eq_1, strW.eq_1, strW.eq_2, joinW.eq_1, joinW.eq_2, walkLW.eq_1, walkTW.eq_1, walkSW.eq_1, range1W.eq_1, zipW.eq_1, zipW.eq_2, tupG.eq_1, gsW.eq_1, gsW.eq_2, par2.eq_1, extW.eq_1, extW.eq_2, partW.eq_1, optW.eq_1, optW.eq_2, modW, fdivW, powW, ltW, leW, gtW, geW, isNone, isi_non, isi_bl, isi_int, isi_str, isi_tup, isi_lst, upperW, putW, appW, tupW, lstW, asB_bl, String.reduceBEq, beq_self_eq_true, Bool.or_true, Bool.true_or, Bool.or_false, Bool.false_or, Bool.and_true, Bool.true_and, Bool.and_false, Bool.false_and, Bool.not_true, Bool.not_false, forall_const, true_implies, true_and, and_true, false_implies, reduceCtorEq, List.length_cons, List.length_nil, forall_eq, imp_self, implies_true, if_true, if_false, Bool.false_eq_true, Bool.true_eq_false]
    refine forW_wp0 (fun _ env => ∃ (y11 y12 : Option D), env = [none, some (.tok 1), some Menu, some (.lst Ps), some (.tup (sortPD T)), some (.tok 4), some (.tok 5), y7, y8, y9, some (.lst (sortPD T)), y11, y12]) ⟨_, _, rfl⟩ (fun q d env hd he => ?_) (fun env he => ?_)
    · obtain ⟨y11, y12, rfl⟩ := he
      have hc := hcl d (List.mem_of_getElem? hd)
      have oF : PgL ((sortPD T).filter (utB d)) := oN.sub List.filter_sublist
      simp only [W.bind_wp, W.ret_wp, W.want_wp, W.any_wp, s_ite, s_get0, s_get, s_then, s_end, s_run, s_calm, s_fail, s_start1, s_start2, s_start3, s_start4, s_start5, List.replicate, List.set_cons_zero, List.set_cons_succ, asB_bl, asS_str, Nat.reduceSub, Nat.reduceAdd, addW.eq_1, addW.eq_2, addW.eq_3, addW.eq_4, addW.eq_5, subW.eq_1, subW.eq_2, mulW.eq_1, mulW.eq_2, mulW.eq_3, intOp.eq_1, negW.eq_1, ordW.eq_1, ordW.eq_2, isW.eq_1, isntW.eq_1, ixW.eq_1, ixW.eq_2, ixW.eq_3, slW.eq_1, slW.eq_2, slW.eq_3, revTW.eq_1, revLW.eq_1, lenW.eq_1, lenW.eq_2, lenW.eq_3, tupleW.eq_1, tupleW.eq_2, listW.eq_1, listW.eq_2, min2W.eq_1, max2W.eq_1, strW.eq_1, strW.eq_2, joinW.eq_1, joinW.eq_2, walkLW.eq_1, walkTW.eq_1, walkSW.eq_1, range1W.eq_1, zipW.eq_1, zipW.eq_2, tupG.eq_1, gsW.eq_1, gsW.eq_2, par2.eq_1, extW.eq_1, extW.eq_2, partW.eq_1, optW.eq_1, optW.eq_2, modW, fdivW, powW, ltW, leW, gtW, geW, isNone, isi_non, isi_bl, isi_int, isi_str, isi_tup, isi_lst, upperW, putW, appW, tupW, lstW, asB_bl, String.reduceBEq, beq_self_eq_true, Bool.or_true, Bool.true_or, Bool.or_false, Bool.false_or, Bool.and_true, Bool.true_and, Bool.and_false, Bool.false_and, Bool.not_true, Bool.not_false, forall_const, true_implies, true_and, and_true, false_implies, reduceCtorEq, List.length_cons, List.length_nil, forall_eq, imp_self, implies_true, if_true, if_false, Bool.false_eq_true, Bool.true_eq_false]
      simp only [bLaw_10, W.bind_wp, W.ret_wp, W.want_wp, W.any_wp, s_ite, s_get0, s_get, s_then, s_end, s_run, s_calm, s_fail, s_start1, s_start2, s_start3, s_start4, s_start5, List.replicate, List.set_cons_zero, List.set_cons_succ, asB_bl, asS_str, Nat.reduceSub, Nat.reduceAdd, addW.eq_1, addW.eq_2, addW.eq_3, addW.eq_4, addW.eq_5, subW.eq_1, subW.eq_2, mulW.eq_1, mulW.eq_2, mulW.eq_3, intOp.eq_1, negW.eq_1, ordW.eq_1, ordW.eq_2, isW.eq_1, isntW.eq_1, ixW.eq_1, ixW.eq_2, ixW.eq_3, slW.eq_1, slW.eq_2, slW.eq_3, revTW.eq_1, revLW.eq_1, lenW.eq_1, lenW.eq_2, lenW.eq_3, tupleW.eq_1, tupleW.eq_2, listW.eq_1, listW.eq_2, min2W.eq_1, max2W.eq_1, strW.eq_1, strW.eq_2, joinW.eq_1, joinW.eq_2, walkLW.eq_1, walkTW.eq_1, walkSW.eq_1, range1W.eq_1, zipW.eq_1, zipW.eq_2, tupG.eq_1, gsW.eq_1, gsW.eq_2, par2.eq_1, extW.eq_1, extW.eq_2, partW.eq_1, optW.eq_1, optW.eq_2, modW, fdivW, powW, ltW, leW, gtW, geW, isNone, isi_non, isi_bl, isi_int, isi_str, isi_tup, isi_lst, upperW, putW, appW, tupW, lstW, asB_bl, String.reduceBEq, beq_self_eq_true, Bool.or_true, Bool.true_or, Bool.or_false, Bool.false_or, Bool.and_true, Bool.true_and, Bool.and_false, Bool.false_and, Bool.not_true, Bool.not_false, forall_const, true_implies, true_and, and_true, false_implies, reduceCtorEq, List.length_cons, List.length_nil, forall_eq, imp_self, implies_true, if_true, if_false, Bool.false_eq_true, Bool.true_eq_false]
      refine (upTo_ret oN hc).go ?_
      simp only [W.bind_wp, W.ret_wp, W.want_wp, W.any_wp, s_ite, s_get0, s_get, s_then, s_end, s_run, s_calm, s_fail, s_start1, s_start2, s_start3, s_start4, s_start5, List.replicate, List.set_cons_zero, List.set_cons_succ, asB_bl, asS_str, Nat.reduceSub, Nat.reduceAdd, addW.eq_1, addW.eq_2, addW.eq_3, addW.eq_4, addW.eq_5, subW.eq_1, subW.eq_2, mulW.eq_1, mulW.eq_2, mulW.eq_3, intOp.eq_1, negW.eq_1, ordW.eq_1, ordW.eq_2, isW.eq_1, isntW.eq_1, ixW.eq_1, ixW.eq_2, ixW.eq_3, slW.eq_1, slW.eq_2, slW.eq_3, revTW.eq_1, revLW.eq_1, lenW.eq_1, lenW.eq_2, lenW.eq_3, tupleW.eq_1, tupleW.eq_2, listW.eq_1, listW.eq_2, min2W.eq_1, max2W.eq_1, strW.eq_1, strW.eq_2, joinW.eq_1, joinW.eq_2, walkLW.eq_1, walkTW.eq_1, walkSW.eq_1, range1W.eq_1, zipW.eq_1, zipW.eq_2, tupG.eq_1, gsW.eq_1, gsW.eq_2, par2.eq_1, extW.eq_1, extW.eq_2, partW.eq_1, optW.eq_1, optW.eq_2, modW, fdivW, powW, ltW, leW, gtW, geW, isNone, isi_non, isi_bl, isi_int, isi_str, isi_tup, isi_lst, upperW, putW, appW, tupW, lstW, asB_bl, String.reduceBEq, beq_self_eq_true, Bool.or_true, Bool.true_or, Bool.or_false, Bool.false_or, Bool.and_true, Bool.true_and, Bool.and_false, Bool.false_and, Bool.not_true, Bool.not_false, forall_const, true_implies, true_and, and_true, false_implies, reduceCtorEq, List.length_cons, List.length_nil, forall_eq, imp_self, implies_true, if_true, if_false, Bool.false_eq_true, Bool.true_eq_false]
      rw [rprT oF]
      simp only [W.bind_wp, W.ret_wp, W.want_wp, W.any_wp, s_ite, s_get0, s_get, s_then, s_end, s_run, s_calm, s_fail, s_start1, s_start2, s_start3, s_start4, s_start5, List.replicate, List.set_cons_zero, List.set_cons_succ, asB_bl, asS_str, Nat.reduceSub, Nat.reduceAdd, addW.eq_1, addW.eq_2, addW.eq_3, addW.eq_4, addW.eq_5, subW.eq_1, subW.eq_2, mulW.eq_1, mulW.eq_2, mulW.eq_3, intOp.eq_1, negW.eq_1, ordW.eq_1, ordW.eq_2, isW.eq_1, isntW.eq_1, ixW.eq_1, ixW.eq_2, ixW.eq_3, slW.eq_1, slW.eq_2, slW.eq_3, revTW.eq_1, revLW.eq_1, lenW.eq_1, lenW.eq_2, lenW.eq_3, tupleW.eq_1, tupleW.eq_2, listW.eq_1, listW.eq_2, min2W.eq_1, max2W.eq_1, strW.eq_1, strW.eq_2, joinW.eq_1, joinW.eq_2, walkLW.eq_1, walkTW.eq_1, walkSW.eq_1, range1W.eq_1, zipW.eq_1, zipW.eq_2, tupG.eq_1, gsW.eq_1, gsW.eq_2, par2.eq_1, extW.eq_1, extW.eq_2, partW.eq_1, optW.eq_1, optW.eq_2, modW, fdivW, powW, ltW, leW, gtW, geW, isNone, isi_non, isi_bl, isi_int, isi_str, isi_tup, isi_lst, upperW, putW, appW, tupW, lstW, asB_bl, String.reduceBEq, beq_self_eq_true, Bool.or_true, Bool.true_or, Bool.or_false, Bool.false_or, Bool.and_true, Bool.true_and, Bool.and_false, Bool.false_and, Bool.not_true, Bool.not_false, forall_const, true_implies, true_and, and_true, false_implies, reduceCtorEq, List.length_cons, List.length_nil, forall_eq, imp_self, implies_true, if_true, if_false, Bool.false_eq_true, Bool.true_eq_false]
      simp only [bLaw_9, c2, c1h, W.bind_wp, W.ret_wp, W.want_wp, W.any_wp, s_ite, s_get0, s_get, s_then, s_end, s_run, s_calm, s_fail, s_start1, s_start2, s_start3, s_start4, s_start5, List.replicate, List.set_cons_zero, List.set_cons_succ, asB_bl, asS_str, Nat.reduceSub, Nat.reduceAdd, addW.eq_1, addW.eq_2, addW.eq_3, addW.eq_4, addW.eq_5, subW.eq_1, subW.eq_2, mulW.eq_1, mulW.eq_2, mulW.eq_3, intOp.eq_1, negW.eq_1, ordW.eq_1, ordW.eq_2, isW.eq_1, isntW.eq_1, ixW.eq_1, ixW.eq_2, ixW.eq_3, slW.eq_1, slW.eq_2, slW.eq_3, revTW.eq_1, revLW.eq_1, lenW.eq_1, lenW.eq_2, lenW.eq_3, tupleW.eq_1, tupleW.eq_2, listW.eq_1, listW.eq_2, min2W.eq_1, max2W.eq_1, strW.eq_1, strW.eq_2, joinW.eq_1, joinW.eq_2, walkLW.eq_1, walkTW.eq_1, walkSW.eq_1, range1W.eq_1, zipW.eq_1, zipW.eq_2, tupG.eq_1, gsW.eq_1, gsW.eq_2, par2.eq_1, extW.eq_1, extW.eq_2, partW.eq_1, optW.eq_1, optW.eq_2, modW, fdivW, powW, ltW, leW, gtW, geW, isNone, isi_non, isi_bl, isi_int, isi_str, isi_tup, isi_lst, upperW, putW, appW, tupW, lstW, asB_bl, String.reduceBEq, beq_self_eq_true, Bool.or_true, Bool.true_or, Bool.or_false, Bool.false_or, Bool.and_true, Bool.true_and, Bool.and_false, Bool.false_and, Bool.not_true, Bool.not_false, forall_const, true_implies, true_and, and_true, false_implies, reduceCtorEq, List.length_cons, List.length_nil, forall_eq, imp_self, implies_true, if_true, if_false, Bool.false_eq_true, Bool.true_eq_false]
      refine (until_ret oN hc).go ?_
      simp only [rprT oF, W.bind_wp, W.ret_wp, W.want_wp, W.any_wp, s_ite, s_get0, s_get, s_then, s_end, s_run, s_calm, s_fail, s_start1, s_start2, s_start3, s_start4, s_start5, List.replicate, List.set_cons_zero, List.set_cons_succ, asB_bl, asS_str, Nat.reduceSub, Nat.reduceAdd, addW.eq_1, addW.eq_2, addW.eq_3, addW.eq_4, addW.eq_5, subW.eq_1, subW.eq_2, mulW.eq_1, mulW.eq_2, mulW.eq_3, intOp.eq_1, negW.eq_1, ordW.eq_1, ordW.eq_2, isW.eq_1, isntW.eq_1, ixW.eq_1, ixW.eq_2, ixW.eq_3, slW.eq_1, slW.eq_2, slW.eq_3, revTW.eq_1, revLW.eq_1, lenW.eq_1, lenW.eq_2, lenW.eq_3, tupleW.eq_1, tupleW.eq_2, listW.eq_1, listW.eq_2, min2W.eq_1, max2W.eq_1, strW.eq_1, strW.eq_2, joinW.eq_1, joinW.eq_2, walkLW.eq_1, walkTW.eq_1, walkSW.eq_1, range1W.eq_1, zipW.eq_1, zipW.eq_2, tupG.eq_1, gsW.eq_1, gsW.eq_2, par2.eq_1, extW.eq_1, extW.eq_2, partW.eq_1, optW.eq_1, optW.eq_2, modW, fdivW, powW, ltW, leW, gtW, geW, isNone, isi_non, isi_bl, isi_int, isi_str, isi_tup, isi_lst, upperW, putW, appW, tupW, lstW, asB_bl, String.reduceBEq, beq_self_eq_true, Bool.or_true, Bool.true_or, Bool.or_false, Bool.false_or, Bool.and_true, Bool.true_and, Bool.and_false, Bool.false_and, Bool.not_true, Bool.not_false, forall_const, true_implies, true_and, and_true, false_implies, reduceCtorEq, List.length_cons, List.length_nil, forall_eq, imp_self, implies_true, if_true, if_false, Bool.false_eq_true, Bool.true_eq_false]
      refine (until_ret oN hc).go ?_
      simp only [rprT oF, W.bind_wp, W.ret_wp, W.want_wp, W.any_wp, s_ite, s_get0, s_get, s_then, s_end, s_run, s_calm, s_fail, s_start1, s_start2, s_start3, s_start4, s_start5, List.replicate, List.set_cons_zero, List.set_cons_succ, asB_bl, asS_str, Nat.reduceSub, Nat.reduceAdd, addW.eq_1, addW.eq_2, addW.eq_3, addW.eq_4, addW.eq_5, subW.eq_1, subW.eq_2, mulW.eq_1, mulW.eq_2, mulW.eq_3, intOp.eq_1, negW.eq_1, ordW.eq_1, ordW.eq_2, isW.eq_1, isntW.eq_1, ixW.eq_1, ixW.eq_2, ixW.eq_3, slW.eq_1, slW.eq_2, slW.eq_3, revTW.eq_1, revLW.eq_1, lenW.eq_1, lenW.eq_2, lenW.eq_3, tupleW.eq_1, tupleW.eq_2, listW.eq_1, listW.eq_2, min2W.eq_1, max2W.eq_1, strW.eq_1, strW.eq_2, joinW.eq_1, joinW.eq_2, walkLW.eq_1, walkTW.eq_1, walkSW.eq_1, range1W.eq_1, zipW.eq_1, zipW.eq_2, tupG.eq_1, gsW.eq_1, gsW.eq_2, par2.eq_1, extW.eq_1, extW.eq_2, partW.eq_1, optW.eq_1, optW.eq_2, modW, fdivW, powW, ltW, leW, gtW, geW, isNone, isi_non, isi_bl, isi_int, isi_str, isi_tup, isi_lst, upperW, putW, appW, tupW, lstW, asB_bl, String.reduceBEq, beq_self_eq_true, Bool.or_true, Bool.true_or, Bool.or_false, Bool.false_or, Bool.and_true, Bool.true_and, Bool.and_false, Bool.false_and, Bool.not_true, Bool.not_false, forall_const, true_implies, true_and, and_true, false_implies, reduceCtorEq, List.length_cons, List.length_nil, forall_eq, imp_self, implies_true, if_true, if_false, Bool.false_eq_true, Bool.true_eq_false]
      refine ⟨by decide, by decide, ?_⟩
      rw [neTx_same _ .non]
      simp only [W.bind_wp, W.ret_wp, W.want_wp, W.any_wp, s_ite, s_get0, s_get, s_then, s_end, s_run, s_calm, s_fail, s_start1, s_start2, s_start3, s_start4, s_start5, List.replicate, List.set_cons_zero, List.set_cons_succ, asB_bl, asS_str, Nat.reduceSub, Nat.reduceAdd, addW.eq_1, addW.eq_2, addW.eq_3, addW.eq_4, addW.eq_5, subW.eq_1, subW.eq_2, mulW.eq_1, mulW.eq_2, mulW.eq_3, intOp.eq_1, negW.eq_1, ordW.eq_1, ordW.eq_2, isW.eq_1, isntW.eq_1, ixW.eq_1, ixW.eq_2, ixW.eq_3, slW.eq_1, slW.eq_2, slW.eq_3, revTW.eq_1, revLW.eq_1, lenW.eq_1, lenW.eq_2, lenW.eq_3, tupleW.eq_1, tupleW.eq_2, listW.eq_1, listW.eq_2, min2W.eq_1, max2W.eq_1, strW.eq_1, strW.eq_2, joinW.eq_1, joinW.eq_2, walkLW.eq_1, walkTW.eq_1, walkSW.eq_1, range1W.eq_1, zipW.eq_1, zipW.eq_2, tupG.eq_1, gsW.eq_1, gsW.eq_2, par2.eq_1, extW.eq_1, extW.eq_2, partW.eq_1, optW.eq_1, optW.eq_2, modW, fdivW, powW, ltW, leW, gtW, geW, isNone, isi_non, isi_bl, isi_int, isi_str, isi_tup, isi_lst, upperW, putW, appW, tupW, lstW, asB_bl, String.reduceBEq, beq_self_eq_true, Bool.or_true, Bool.true_or, Bool.or_false, Bool.false_or, Bool.and_true, Bool.true_and, Bool.and_false, Bool.false_and, Bool.not_true, Bool.not_false, forall_const, true_implies, true_and, and_true, false_implies, reduceCtorEq, List.length_cons, List.length_nil, forall_eq, imp_self, implies_true, if_true, if_false, Bool.false_eq_true, Bool.true_eq_false]
      exact ⟨_, _, rfl⟩
    · obtain ⟨y11, y12, rfl⟩ := he
      simp only [c1n, LM.M.bind_wp, LM.M.ret_wp, LM.M.lift_wp, LM.M.want_wp, LM.M.any_wp, LM.s_ite, LM.s_then, LM.s_end, LM.s_run, LM.s_calm, LM.s_fail, LM.alloc_wp, LM.asBM, LM.putM, LM.par2M.eq_1, W.bind_wp, W.ret_wp, W.want_wp, W.any_wp, s_ite, s_get0, s_get, s_then, s_end, s_run, s_calm, s_fail, s_start1, s_start2, s_start3, s_start4, s_start5, List.replicate, List.set_cons_zero, List.set_cons_succ, asB_bl, asS_str, Nat.reduceSub, Nat.reduceAdd, addW.eq_1, addW.eq_2, addW.eq_3, addW.eq_4, addW.eq_5, subW.eq_1, subW.eq_2, mulW.eq_1, mulW.eq_2, mulW.eq_3, intOp.eq_1, negW.eq_1, ordW.eq_1, ordW.eq_2, isW.eq_1, isntW.eq_1, ixW.eq_1, ixW.eq_2, ixW.eq_3, slW.eq_1, slW.eq_2, slW.eq_3, revTW.eq_1, revLW.eq_1, lenW.eq_1, lenW.eq_2, lenW.eq_3, tupleW.eq_1, tupleW.eq_2, listW.eq_1, listW.eq_2, min2W.eq_1, max2W.eq_1, strW.eq_1, strW.eq_2, joinW.eq_1, joinW.eq_2, walkLW.eq_1, walkTW.eq_1, walkSW.eq_1, range1W.eq_1, zipW.eq_1, zipW.eq_2, tupG.eq_1, gsW.eq_1, gsW.eq_2, par2.eq_1, extW.eq_1, extW.eq_2, partW.eq_1, optW.eq_1, optW.eq_2, modW, fdivW, powW, ltW, leW, gtW, geW, isNone, isi_non, isi_bl, isi_int, isi_str, isi_tup, isi_lst, upperW, putW, appW, tupW, lstW, asB_bl, String.reduceBEq, beq_self_eq_true, Bool.or_true, Bool.true_or, Bool.or_false, Bool.false_or, Bool.and_true, Bool.true_and, Bool.and_false, Bool.false_and, Bool.not_true, Bool.not_false, forall_const, true_implies, true_and, and_true, false_implies, reduceCtorEq, List.length_cons, List.length_nil, forall_eq, imp_self, implies_true, if_true, if_false, Bool.false_eq_true, Bool.true_eq_false]
      refine (until_ret oN (.inl rfl)).go ?_
      refine ⟨by decide, ?_⟩
      refine (until_ret nilP (.inl rfl)).go ?_
      refine ⟨by decide, ?_⟩
      have p0 : 0 < Ps.length := by omega
      have a0 : atI Ps 0 = some Ps[0] := by
        have : atI Ps ((0 : Nat) : Int) = some Ps[0] := atI_nat (List.getElem?_eq_getElem p0)
        exact this
      simp only [a0, LM.M.bind_wp, LM.M.ret_wp, LM.M.lift_wp, LM.M.want_wp, LM.M.any_wp, LM.s_ite, LM.s_then, LM.s_end, LM.s_run, LM.s_calm, LM.s_fail, LM.alloc_wp, LM.asBM, LM.putM, LM.par2M.eq_1, W.bind_wp, W.ret_wp, W.want_wp, W.any_wp, s_ite, s_get0, s_get, s_then, s_end, s_run, s_calm, s_fail, s_start1, s_start2, s_start3, s_start4, s_start5, List.replicate, List.set_cons_zero, List.set_cons_succ, asB_bl, asS_str, Nat.reduceSub, Nat.reduceAdd, addW.eq_1, addW.eq_2, addW.eq_3, addW.eq_4, addW.eq_5, subW.eq_1, subW.eq_2, mulW.eq_1, mulW.eq_2, mulW.eq_3, intOp.eq_1, negW.eq_1, ordW.eq_1, ordW.eq_2, isW.eq_1, isntW.eq_1, ixW.eq_1, ixW.eq_2, ixW.eq_3, slW.eq_1, slW.eq_2, slW.eq_3, revTW.eq_1, revLW.eq_1, lenW.eq_1, lenW.eq_2, lenW.eq_3, tupleW.eq_1, tupleW.eq_2, listW.eq_1, listW.eq_2, min2W.eq_1, max2W.eq_1, strW.eq_1, strW.eq_2, joinW.eq_1, joinW.eq_2, walkLW.eq_1, walkTW.eq_1, walkSW.eq_1, range1W.eq_1, zipW.eq_1, zipW.eq_2, tupG.eq_1, gsW.eq_1, gsW.eq_2, par2.eq_1, extW.eq_1, extW.eq_2, partW.eq_1, optW.eq_1, optW.eq_2, modW, fdivW, powW, ltW, leW, gtW, geW, isNone, isi_non, isi_bl, isi_int, isi_str, isi_tup, isi_lst, upperW, putW, appW, tupW, lstW, asB_bl, String.reduceBEq, beq_self_eq_true, Bool.or_true, Bool.true_or, Bool.or_false, Bool.false_or, Bool.and_true, Bool.true_and, Bool.and_false, Bool.false_and, Bool.not_true, Bool.not_false, forall_const, true_implies, true_and, and_true, false_implies, reduceCtorEq, List.length_cons, List.length_nil, forall_eq, imp_self, implies_true, if_true, if_false, Bool.false_eq_true, Bool.true_eq_false]
      refine (without_ret nilP (oP.each _ (List.getElem_mem p0))).go ?_
      have all : (sortPD T).filter (utB .non) = sortPD T := List.filter_eq_self.mpr fun _ _ => rfl
      rw [all]
      simp only [List.filter_nil, LM.M.bind_wp, LM.M.ret_wp, LM.M.lift_wp, LM.M.want_wp, LM.M.any_wp, LM.s_ite, LM.s_then, LM.s_end, LM.s_run, LM.s_calm, LM.s_fail, LM.alloc_wp, LM.asBM, LM.putM, LM.par2M.eq_1, W.bind_wp, W.ret_wp, W.want_wp, W.any_wp, s_ite, s_get0, s_get, s_then, s_end, s_run, s_calm, s_fail, s_start1, s_start2, s_start3, s_start4, s_start5, List.replicate, List.set_cons_zero, List.set_cons_succ, asB_bl, asS_str, Nat.reduceSub, Nat.reduceAdd, addW.eq_1, addW.eq_2, addW.eq_3, addW.eq_4, addW.eq_5, subW.eq_1, subW.eq_2, mulW.eq_1, mulW.eq_2, mulW.eq_3, intOp.eq_1, negW.eq_1, ordW.eq_1, ordW.eq_2, isW.eq_1, isntW.eq_1, ixW.eq_1, ixW.eq_2, ixW.eq_3, slW.eq_1, slW.eq_2, slW.eq_3, revTW.eq_1, revLW.eq_1, lenW.eq_1, lenW.eq_2, lenW.eq_3, tupleW.eq_1, tupleW.eq_2, listW.eq_1, listW.eq_2, min2W.eq_1, max2W.eq_1, strW.eq_1, strW.eq_2, joinW.eq_1, joinW.eq_2, walkLW.eq_1, walkTW.eq_1, walkSW.eq_1, range1W.eq_1, zipW.eq_1, zipW.eq_2, tupG.eq_1, gsW.eq_1, gsW.eq_2, par2.eq_1, extW.eq_1, extW.eq_2, partW.eq_1, optW.eq_1, optW.eq_2, modW, fdivW, powW, ltW, leW, gtW, geW, isNone, isi_non, isi_bl, isi_int, isi_str, isi_tup, isi_lst, upperW, putW, appW, tupW, lstW, asB_bl, String.reduceBEq, beq_self_eq_true, Bool.or_true, Bool.true_or, Bool.or_false, Bool.false_or, Bool.and_true, Bool.true_and, Bool.and_false, Bool.false_and, Bool.not_true, Bool.not_false, forall_const, true_implies, true_and, and_true, false_implies, reduceCtorEq, List.length_cons, List.length_nil, forall_eq, imp_self, implies_true, if_true, if_false, Bool.false_eq_true, Bool.true_eq_false]
      have big : Sz 64 9 400000 (.lst [.tup (sortPD T), .tup [], .tup []]) := (Sz.lst (Szs.cons oN.sz (Szs.cons nilP.sz (Szs.cons nilP.sz (Szs.nil (n := 0)))))).mono (Nat.le_refl _) (Nat.le_refl _) (by decide)
      have er := rpr big (by decide) (by decide) (by decide)
      rw [er]
      simp only [rp_self, LM.M.bind_wp, LM.M.ret_wp, LM.M.lift_wp, LM.M.want_wp, LM.M.any_wp, LM.s_ite, LM.s_then, LM.s_end, LM.s_run, LM.s_calm, LM.s_fail, LM.alloc_wp, LM.asBM, LM.putM, LM.par2M.eq_1, W.bind_wp, W.ret_wp, W.want_wp, W.any_wp, s_ite, s_get0, s_get, s_then, s_end, s_run, s_calm, s_fail, s_start1, s_start2, s_start3, s_start4, s_start5, List.replicate, List.set_cons_zero, List.set_cons_succ, asB_bl, asS_str, Nat.reduceSub, Nat.reduceAdd, addW.eq_1, addW.eq_2, addW.eq_3, addW.eq_4, addW.eq_5, subW.eq_1, subW.eq_2, mulW.eq_1, mulW.eq_2, mulW.eq_3, intOp.eq_1, negW.eq_1, ordW.eq_1, ordW.eq_2, isW.eq_1, isntW.eq_1, ixW.eq_1, ixW.eq_2, ixW.eq_3, slW.eq_1, slW.eq_2, slW.eq_3, revTW.eq_1, revLW.eq_1, lenW.eq_1, lenW.eq_2, lenW.eq_3, tupleW.eq_1, tupleW.eq_2, listW.eq_1, listW.eq_2, min2W.eq_1, max2W.eq_1, strW.eq_1, strW.eq_2, joinW.eq_1, joinW.eq_2, walkLW.eq_1, walkTW.eq_1, walkSW.eq_1, range1W.eq_1, zipW.eq_1, zipW.eq_2, tupG.eq_1, gsW.eq_1, gsW.eq_2, par2.eq_1, extW.eq_1, extW.eq_2, partW.eq_1, optW.eq_1, optW.eq_2, modW, fdivW, powW, ltW, leW, gtW, geW, isNone, isi_non, isi_bl, isi_int, isi_str, isi_tup, isi_lst, upperW, putW, appW, tupW, lstW, asB_bl, String.reduceBEq, beq_self_eq_true, Bool.or_true, Bool.true_or, Bool.or_false, Bool.false_or, Bool.and_true, Bool.true_and, Bool.and_false, Bool.false_and, Bool.not_true, Bool.not_false, forall_const, true_implies, true_and, and_true, false_implies, reduceCtorEq, List.length_cons, List.length_nil, forall_eq, imp_self, implies_true, if_true, if_false, Bool.false_eq_true, Bool.true_eq_false]
      exact ⟨by decide, by decide, by decide, by decide, true, rfl, rfl⟩
end LP.K74
namespace LP.K74
open PySem PySem.Spec PyProof.Rows L2 PK LP
abbrev NSource : List Str := ["_law_script"]
theorem scSource : FnScope NSource ["_law_script"] (defScope (topS 7)) := ⟨rfl, rfl, rfl, by decide +kernel, rfl, by decide +kernel, by decide +kernel⟩
section
variable {P : Program} {w : World} {K : PySem.W.Frag} {mg : Str → Option Value} {base : Heap}
theorem ok_source {f : Addr} {fd : FuncData} {k : Nat} (F : Fun K "_law_hand" "_law_hand" (topS 7) f fd) (hL : mg "list" = none) :
    FnOk P w K mg base CX0 (k + 1) f fd ["_law_script"] (spFeedOf LM.isTap K) := by
  refine F.ok scSource (fun vs H Q E h => ?_) (fun cdv A outer s H vs Q E hr h => ?_)
  · obtain ⟨a, ns, rfl, _⟩ := h
    rfl
  · obtain ⟨a, ns, rfl, hS, q⟩ := h
    refine ⟨_, (pss_one (ps_ret (pe_lst (pa_cons (pe_callTy (k_list K) (by rfl) hL (by decide +kernel) (pa_cons (pe_slice (ks_list K) (pv 0) po_none (po_some pe_int)) pa_nil)) (pa_cons pe_int (pa_cons pe_int (pa_cons pe_int pa_nil))))))), ?_⟩
    refine ⟨.ref a, rfl, 63, rfl, a, ns.map V.int, rfl, hS, fun c nc => ?_⟩
    refine ⟨c, _, rfl, .inl (.inl (.inl upd_same)), fun d nd => ?_⟩
    have ndc : d ≠ c := fun e => by
      rw [e, upd_same] at nd
      cases nd
    refine ⟨by show 4 ≤ sizeLine; decide, fun p np => ?_⟩
    have npd : p ≠ d := fun e => by
      rw [e, upd_same] at np
      cases np
    have n0 : H p = none := by
      have h1 := np
      rw [upd_ne npd] at h1
      unfold upd at h1
      split at h1
      · cases h1
      · exact h1
    have s1 : Same H (upd (upd (upd H c (.lst (cutV (ns.map V.int) none (some 63)))) d (.lst (cutV (ns.map V.int) none (some 63)))) p (.lst [.ref d, .int 0, .int 0, .int 0])) := same_new (same_new (same_new (Same.refl H) nc) nd) np
    refine q p d _ n0 s1 ⟨(ns.drop (HT.sIx ns.length 0 none)).take (HT.sIx ns.length ns.length (some 63) - HT.sIx ns.length 0 none), upd_same, ?_⟩
    rw [upd_ne npd.symm, upd_same]
    unfold cutV
    rw [List.map_take, List.map_drop, List.length_map]
end
end LP.K74
namespace LP.K74
open PySem PySem.Spec PyProof.Rows L2 PK LP RZ LP.HD
theorem vals_take {vs : List V} {us : List Value} : Vals vs us → ∀ n, Vals (vs.take n) (us.take n)
  | .nil, n => by rw [List.take_nil, List.take_nil]; exact .nil
  | .cons h r, 0 => .nil
  | .cons h r, n + 1 => .cons h (vals_take r n)
theorem vals_drop {vs : List V} {us : List Value} : Vals vs us → ∀ n, Vals (vs.drop n) (us.drop n)
  | .nil, n => by rw [List.drop_nil, List.drop_nil]; exact .nil
  | .cons h r, 0 => .cons h r
  | .cons h r, n + 1 => vals_drop r n
theorem kb_NUntil_1 {K : PySem.W.Frag} {f : Addr} {fd : FuncData} (F : FunD K "until" "until" (defArgs (topS 5)) (defBody (topS 5)) (defScope (topS 5)) [.non] [] f fd) : KB K fd ["tale", "hour"] 1 [] (fillV 0 1) :=
  kb_of F 1 [] (fun vs ds zs => vs ++ (ds.take 0 ++ (zs ++ ds.drop 0))) (by simp) (fun r d z => r.append ((vals_take d 0).append (z.append (vals_drop d 0)))) fun T kV doc pm an cdv ct us its ws h1 h2 h3 => by
    match us, its, ws, h1, h2, h3 with
    | [x0], [z0], [], _, _, _ => exact ⟨_, rfl, rfl⟩
theorem kb_NUntil_1_hour {K : PySem.W.Frag} {f : Addr} {fd : FuncData} (F : FunD K "until" "until" (defArgs (topS 5)) (defBody (topS 5)) (defScope (topS 5)) [.non] [] f fd) : KB K fd ["tale", "hour"] 1 ["hour"] (fillV 0 0) :=
  kb_of F 1 ["hour"] (fun vs ds zs => vs ++ (ds.take 0 ++ (zs ++ ds.drop 1))) (by simp) (fun r d z => r.append ((vals_take d 0).append (z.append (vals_drop d 1)))) fun T kV doc pm an cdv ct us its ws h1 h2 h3 => by
    match us, its, ws, h1, h2, h3 with
    | [x0], [z0], [y0], _, _, _ => exact ⟨_, rfl, rfl⟩
theorem kb_NUntil_2 {K : PySem.W.Frag} {f : Addr} {fd : FuncData} (F : FunD K "until" "until" (defArgs (topS 5)) (defBody (topS 5)) (defScope (topS 5)) [.non] [] f fd) : KB K fd ["tale", "hour"] 2 [] (fillV 0 0) :=
  kb_of F 2 [] (fun vs ds zs => vs ++ (ds.take 0 ++ (zs ++ ds.drop 1))) (by simp) (fun r d z => r.append ((vals_take d 0).append (z.append (vals_drop d 1)))) fun T kV doc pm an cdv ct us its ws h1 h2 h3 => by
    match us, its, ws, h1, h2, h3 with
    | [x0, x1], [z0], [], _, _, _ => exact ⟨_, rfl, rfl⟩
theorem all_mk {l : PySem.W.OpenLaw} {w : World} {K : PySem.W.Frag} {h : Heap} {mg : Str → Option Value} {fa : Addr} (X : K.In h) (G : h.Ns mainGlobals mg) (hfa : mg "law" = some (.ref fa))
    {f_feed : Addr} {od_feed an_feed : Option Addr} {sl_feed : Array (Option Value)} {oc_feed kV_feed dc_feed pm_feed cd_feed ct_feed : Value}
    (a_feed : PySem.W.nsIn K mainGlobals "_law_hand" = some (some (.ref f_feed))) (l_feed : K.lookup f_feed = some ⟨oc_feed, od_feed, .func (PySem.W.fnOf "_law_hand" "_law_hand" (defArgs (topS 7)) (defBody (topS 7)) (defScope (topS 7)) .none kV_feed dc_feed pm_feed an_feed cd_feed ct_feed), sl_feed⟩) (c_feed : PySem.W.codeIn K cd_feed "_law_hand" = true) (k_feed : PySem.W.keepIn K (.ref f_feed) = true)
    {f_Dip : Addr} {od_Dip an_Dip : Option Addr} {sl_Dip : Array (Option Value)} {oc_Dip kV_Dip dc_Dip pm_Dip cd_Dip ct_Dip : Value}
    (a_Dip : PySem.W.nsIn K mainGlobals "_law_dip" = some (some (.ref f_Dip))) (l_Dip : K.lookup f_Dip = some ⟨oc_Dip, od_Dip, .func (PySem.W.fnOf "_law_dip" "_law_dip" (defArgs (topS 8)) (defBody (topS 8)) (defScope (topS 8)) .none kV_Dip dc_Dip pm_Dip an_Dip cd_Dip ct_Dip), sl_Dip⟩) (c_Dip : PySem.W.codeIn K cd_Dip "_law_dip" = true) (k_Dip : PySem.W.keepIn K (.ref f_Dip) = true)
    {f_SRows : Addr} {od_SRows an_SRows : Option Addr} {sl_SRows : Array (Option Value)} {oc_SRows kV_SRows dc_SRows pm_SRows cd_SRows ct_SRows : Value}
    (a_SRows : PySem.W.nsIn K mainGlobals "_law_some_rows" = some (some (.ref f_SRows))) (l_SRows : K.lookup f_SRows = some ⟨oc_SRows, od_SRows, .func (PySem.W.fnOf "_law_some_rows" "_law_some_rows" (defArgs (topS 9)) (defBody (topS 9)) (defScope (topS 9)) .none kV_SRows dc_SRows pm_SRows an_SRows cd_SRows ct_SRows), sl_SRows⟩) (c_SRows : PySem.W.codeIn K cd_SRows "_law_some_rows" = true) (k_SRows : PySem.W.keepIn K (.ref f_SRows) = true)
    {f_SWant : Addr} {od_SWant an_SWant : Option Addr} {sl_SWant : Array (Option Value)} {oc_SWant kV_SWant dc_SWant pm_SWant cd_SWant ct_SWant : Value}
    (a_SWant : PySem.W.nsIn K mainGlobals "_law_some_want" = some (some (.ref f_SWant))) (l_SWant : K.lookup f_SWant = some ⟨oc_SWant, od_SWant, .func (PySem.W.fnOf "_law_some_want" "_law_some_want" (defArgs (topS 10)) (defBody (topS 10)) (defScope (topS 10)) .none kV_SWant dc_SWant pm_SWant an_SWant cd_SWant ct_SWant), sl_SWant⟩) (c_SWant : PySem.W.codeIn K cd_SWant "_law_some_want" = true) (k_SWant : PySem.W.keepIn K (.ref f_SWant) = true)
    {f_SSheet : Addr} {od_SSheet an_SSheet : Option Addr} {sl_SSheet : Array (Option Value)} {oc_SSheet kV_SSheet dc_SSheet pm_SSheet cd_SSheet ct_SSheet : Value}
    (a_SSheet : PySem.W.nsIn K mainGlobals "_law_some_sheet" = some (some (.ref f_SSheet))) (l_SSheet : K.lookup f_SSheet = some ⟨oc_SSheet, od_SSheet, .func (PySem.W.fnOf "_law_some_sheet" "_law_some_sheet" (defArgs (topS 11)) (defBody (topS 11)) (defScope (topS 11)) .none kV_SSheet dc_SSheet pm_SSheet an_SSheet cd_SSheet ct_SSheet), sl_SSheet⟩) (c_SSheet : PySem.W.codeIn K cd_SSheet "_law_some_sheet" = true) (k_SSheet : PySem.W.keepIn K (.ref f_SSheet) = true)
    {f_SLaying : Addr} {od_SLaying an_SLaying : Option Addr} {sl_SLaying : Array (Option Value)} {oc_SLaying kV_SLaying dc_SLaying pm_SLaying cd_SLaying ct_SLaying : Value}
    (a_SLaying : PySem.W.nsIn K mainGlobals "_law_some_laying" = some (some (.ref f_SLaying))) (l_SLaying : K.lookup f_SLaying = some ⟨oc_SLaying, od_SLaying, .func (PySem.W.fnOf "_law_some_laying" "_law_some_laying" (defArgs (topS 12)) (defBody (topS 12)) (defScope (topS 12)) .none kV_SLaying dc_SLaying pm_SLaying an_SLaying cd_SLaying ct_SLaying), sl_SLaying⟩) (c_SLaying : PySem.W.codeIn K cd_SLaying "_law_some_laying" = true) (k_SLaying : PySem.W.keepIn K (.ref f_SLaying) = true)
    {f_SDeed : Addr} {od_SDeed an_SDeed : Option Addr} {sl_SDeed : Array (Option Value)} {oc_SDeed kV_SDeed dc_SDeed pm_SDeed cd_SDeed ct_SDeed : Value}
    (a_SDeed : PySem.W.nsIn K mainGlobals "_law_some_deed" = some (some (.ref f_SDeed))) (l_SDeed : K.lookup f_SDeed = some ⟨oc_SDeed, od_SDeed, .func (PySem.W.fnOf "_law_some_deed" "_law_some_deed" (defArgs (topS 13)) (defBody (topS 13)) (defScope (topS 13)) .none kV_SDeed dc_SDeed pm_SDeed an_SDeed cd_SDeed ct_SDeed), sl_SDeed⟩) (c_SDeed : PySem.W.codeIn K cd_SDeed "_law_some_deed" = true) (k_SDeed : PySem.W.keepIn K (.ref f_SDeed) = true)
    {f_STale : Addr} {od_STale an_STale : Option Addr} {sl_STale : Array (Option Value)} {oc_STale kV_STale dc_STale pm_STale cd_STale ct_STale : Value}
    (a_STale : PySem.W.nsIn K mainGlobals "_law_some_tale" = some (some (.ref f_STale))) (l_STale : K.lookup f_STale = some ⟨oc_STale, od_STale, .func (PySem.W.fnOf "_law_some_tale" "_law_some_tale" (defArgs (topS 14)) (defBody (topS 14)) (defScope (topS 14)) .none kV_STale dc_STale pm_STale an_STale cd_STale ct_STale), sl_STale⟩) (c_STale : PySem.W.codeIn K cd_STale "_law_some_tale" = true) (k_STale : PySem.W.keepIn K (.ref f_STale) = true)
    {f_Cop : Addr} {od_Cop an_Cop : Option Addr} {sl_Cop : Array (Option Value)} {oc_Cop kV_Cop dc_Cop pm_Cop cd_Cop ct_Cop : Value}
    (a_Cop : PySem.W.nsIn K mainGlobals "copied" = some (some (.ref f_Cop))) (l_Cop : K.lookup f_Cop = some ⟨oc_Cop, od_Cop, .func (PySem.W.fnOf "copied" "copied" (defArgs (topS 1)) (defBody (topS 1)) (defScope (topS 1)) .none kV_Cop dc_Cop pm_Cop an_Cop cd_Cop ct_Cop), sl_Cop⟩) (c_Cop : PySem.W.codeIn K cd_Cop "copied" = true) (k_Cop : PySem.W.keepIn K (.ref f_Cop) = true)
    {f_With : Addr} {od_With an_With : Option Addr} {sl_With : Array (Option Value)} {oc_With kV_With dc_With pm_With cd_With ct_With : Value}
    (a_With : PySem.W.nsIn K mainGlobals "with_page" = some (some (.ref f_With))) (l_With : K.lookup f_With = some ⟨oc_With, od_With, .func (PySem.W.fnOf "with_page" "with_page" (defArgs (topS 3)) (defBody (topS 3)) (defScope (topS 3)) .none kV_With dc_With pm_With an_With cd_With ct_With), sl_With⟩) (c_With : PySem.W.codeIn K cd_With "with_page" = true) (k_With : PySem.W.keepIn K (.ref f_With) = true)
    {f_Without : Addr} {od_Without an_Without : Option Addr} {sl_Without : Array (Option Value)} {oc_Without kV_Without dc_Without pm_Without cd_Without ct_Without : Value}
    (a_Without : PySem.W.nsIn K mainGlobals "without_page" = some (some (.ref f_Without))) (l_Without : K.lookup f_Without = some ⟨oc_Without, od_Without, .func (PySem.W.fnOf "without_page" "without_page" (defArgs (topS 4)) (defBody (topS 4)) (defScope (topS 4)) .none kV_Without dc_Without pm_Without an_Without cd_Without ct_Without), sl_Without⟩) (c_Without : PySem.W.codeIn K cd_Without "without_page" = true) (k_Without : PySem.W.keepIn K (.ref f_Without) = true)
    {f_Clocks : Addr} {od_Clocks an_Clocks : Option Addr} {sl_Clocks : Array (Option Value)} {oc_Clocks kV_Clocks dc_Clocks pm_Clocks cd_Clocks ct_Clocks : Value}
    (a_Clocks : PySem.W.nsIn K mainGlobals "_law_clocks" = some (some (.ref f_Clocks))) (l_Clocks : K.lookup f_Clocks = some ⟨oc_Clocks, od_Clocks, .func (PySem.W.fnOf "_law_clocks" "_law_clocks" (defArgs (topS 15)) (defBody (topS 15)) (defScope (topS 15)) .none kV_Clocks dc_Clocks pm_Clocks an_Clocks cd_Clocks ct_Clocks), sl_Clocks⟩) (c_Clocks : PySem.W.codeIn K cd_Clocks "_law_clocks" = true) (k_Clocks : PySem.W.keepIn K (.ref f_Clocks) = true)
    {f_UpTo : Addr} {od_UpTo an_UpTo : Option Addr} {sl_UpTo : Array (Option Value)} {oc_UpTo kV_UpTo dc_UpTo pm_UpTo cd_UpTo ct_UpTo : Value}
    (a_UpTo : PySem.W.nsIn K mainGlobals "_law_up_to" = some (some (.ref f_UpTo))) (l_UpTo : K.lookup f_UpTo = some ⟨oc_UpTo, od_UpTo, .func (PySem.W.fnOf "_law_up_to" "_law_up_to" (defArgs (topS 16)) (defBody (topS 16)) (defScope (topS 16)) .none kV_UpTo dc_UpTo pm_UpTo an_UpTo cd_UpTo ct_UpTo), sl_UpTo⟩) (c_UpTo : PySem.W.codeIn K cd_UpTo "_law_up_to" = true) (k_UpTo : PySem.W.keepIn K (.ref f_UpTo) = true)
    {f_law : Addr} {od_law an_law : Option Addr} {sl_law : Array (Option Value)} {oc_law kV_law dc_law pm_law cd_law ct_law : Value}
    (a_law : PySem.W.nsIn K mainGlobals "law" = some (some (.ref f_law))) (l_law : K.lookup f_law = some ⟨oc_law, od_law, .func (PySem.W.fnOf "law" "law" (defArgs (topS 17)) (defBody (topS 17)) (defScope (topS 17)) .none kV_law dc_law pm_law an_law cd_law ct_law), sl_law⟩) (c_law : PySem.W.codeIn K cd_law "law" = true) (k_law : PySem.W.keepIn K (.ref f_law) = true)
    {f_Until : Addr} {od_Until an_Until : Option Addr} {sl_Until : Array (Option Value)} {oc_Until kV_Until dc_Until pm_Until cd_Until ct_Until : Value}
    {T_Until : Addr} {odT_Until : Option Addr} {slT_Until : Array (Option Value)} {nT_Until : Nat} {ocT_Until : Value}
    (a_Until : PySem.W.nsIn K mainGlobals "until" = some (some (.ref f_Until))) (l_Until : K.lookup f_Until = some ⟨oc_Until, od_Until, .func (PySem.W.fnOf "until" "until" (defArgs (topS 5)) (defBody (topS 5)) (defScope (topS 5)) (.ref T_Until) kV_Until dc_Until pm_Until an_Until cd_Until ct_Until), sl_Until⟩) (t_Until : K.lookup T_Until = some ⟨ocT_Until, odT_Until, .seq #[.none] nT_Until, slT_Until⟩) (c_Until : PySem.W.codeIn K cd_Until "until" = true) (k_Until : PySem.W.keepIn K (.ref f_Until) = true)
    (z_isinstance : PySem.W.nsIn K mainGlobals "isinstance" = some none)
    (z_int : PySem.W.nsIn K mainGlobals "int" = some none)
    (z_bool : PySem.W.nsIn K mainGlobals "bool" = some none)
    (z_str : PySem.W.nsIn K mainGlobals "str" = some none)
    (z_tuple : PySem.W.nsIn K mainGlobals "tuple" = some none)
    (z_list : PySem.W.nsIn K mainGlobals "list" = some none)
    (z_len : PySem.W.nsIn K mainGlobals "len" = some none)
    (z_range : PySem.W.nsIn K mainGlobals "range" = some none)
    (z_repr : PySem.W.nsIn K mainGlobals "repr" = some none)
    (z_all : PySem.W.nsIn K mainGlobals "all" = some none)
    (z_ord : PySem.W.nsIn K mainGlobals "ord" = some none)
    (z_sorted : PySem.W.nsIn K mainGlobals "sorted" = some none)
    (z_set : PySem.W.nsIn K mainGlobals "set" = some none)
    (z_sum : PySem.W.nsIn K mainGlobals "sum" = some none)
    (z_min : PySem.W.nsIn K mainGlobals "min" = some none)
    (z_zip : PySem.W.nsIn K mainGlobals "zip" = some none)
    (z_max : PySem.W.nsIn K mainGlobals "max" = some none)
    (z_enumerate : PySem.W.nsIn K mainGlobals "enumerate" = some none)
    (z_dict : PySem.W.nsIn K mainGlobals "dict" = some none)
    : ∃ fd : FuncData, (∀ (s : Shared) (v : Value), BindsTo s fd ⟨[v], []⟩ [("_law_script", v)]) ∧ ∀ base : Heap, K.In base → base.Ns mainGlobals mg → FnG l.prog w K mg base CX0 15 fa fd ["_law_script"] (spLawK K) := by
  have e := hfa.symm.trans (PySem.W.mg_of X G a_law)
  cases e
  have F_feed := fun_mk (st := topS 7) l_feed c_feed k_feed
  have g_feed := PySem.W.mg_of X G a_feed
  have b_feed := F_feed.binds (ps := ["_law_script"]) fun _ _ _ _ _ _ us hl => match us, hl with | [_], _ => rfl
  have F_Dip := fun_mk (st := topS 8) l_Dip c_Dip k_Dip
  have g_Dip := PySem.W.mg_of X G a_Dip
  have b_Dip := F_Dip.binds (ps := ["_law_hand_here", "_law_many"]) fun _ _ _ _ _ _ us hl => match us, hl with | [_, _], _ => rfl
  have F_SRows := fun_mk (st := topS 9) l_SRows c_SRows k_SRows
  have g_SRows := PySem.W.mg_of X G a_SRows
  have b_SRows := F_SRows.binds (ps := ["_law_hand_here", "_law_most_now"]) fun _ _ _ _ _ _ us hl => match us, hl with | [_, _], _ => rfl
  have F_SWant := fun_mk (st := topS 10) l_SWant c_SWant k_SWant
  have g_SWant := PySem.W.mg_of X G a_SWant
  have b_SWant := F_SWant.binds (ps := ["_law_hand_here"]) fun _ _ _ _ _ _ us hl => match us, hl with | [_], _ => rfl
  have F_SSheet := fun_mk (st := topS 11) l_SSheet c_SSheet k_SSheet
  have g_SSheet := PySem.W.mg_of X G a_SSheet
  have b_SSheet := F_SSheet.binds (ps := ["_law_hand_here"]) fun _ _ _ _ _ _ us hl => match us, hl with | [_], _ => rfl
  have F_SLaying := fun_mk (st := topS 12) l_SLaying c_SLaying k_SLaying
  have g_SLaying := PySem.W.mg_of X G a_SLaying
  have b_SLaying := F_SLaying.binds (ps := ["_law_hand_here", "_law_name", "_law_sheet"]) fun _ _ _ _ _ _ us hl => match us, hl with | [_, _, _], _ => rfl
  have F_SDeed := fun_mk (st := topS 13) l_SDeed c_SDeed k_SDeed
  have g_SDeed := PySem.W.mg_of X G a_SDeed
  have b_SDeed := F_SDeed.binds (ps := ["_law_hand_here", "_law_sheets", "_law_menu"]) fun _ _ _ _ _ _ us hl => match us, hl with | [_, _, _], _ => rfl
  have F_STale := fun_mk (st := topS 14) l_STale c_STale k_STale
  have g_STale := PySem.W.mg_of X G a_STale
  have b_STale := F_STale.binds (ps := ["_law_hand_here", "_law_most_now", "_law_menu"]) fun _ _ _ _ _ _ us hl => match us, hl with | [_, _, _], _ => rfl
  have F_Cop := fun_mk (st := topS 1) l_Cop c_Cop k_Cop
  have g_Cop := PySem.W.mg_of X G a_Cop
  have b_Cop := F_Cop.binds (ps := ["thing"]) fun _ _ _ _ _ _ us hl => match us, hl with | [_], _ => rfl
  have F_With := fun_mk (st := topS 3) l_With c_With k_With
  have g_With := PySem.W.mg_of X G a_With
  have b_With := F_With.binds (ps := ["tale", "page"]) fun _ _ _ _ _ _ us hl => match us, hl with | [_, _], _ => rfl
  have F_Without := fun_mk (st := topS 4) l_Without c_Without k_Without
  have g_Without := PySem.W.mg_of X G a_Without
  have b_Without := F_Without.binds (ps := ["tale", "page"]) fun _ _ _ _ _ _ us hl => match us, hl with | [_, _], _ => rfl
  have F_Clocks := fun_mk (st := topS 15) l_Clocks c_Clocks k_Clocks
  have g_Clocks := PySem.W.mg_of X G a_Clocks
  have b_Clocks := F_Clocks.binds (ps := ["_law_tape_pages"]) fun _ _ _ _ _ _ us hl => match us, hl with | [_], _ => rfl
  have F_UpTo := fun_mk (st := topS 16) l_UpTo c_UpTo k_UpTo
  have g_UpTo := PySem.W.mg_of X G a_UpTo
  have b_UpTo := F_UpTo.binds (ps := ["_law_pages", "_law_clock"]) fun _ _ _ _ _ _ us hl => match us, hl with | [_, _], _ => rfl
  have F_law := fun_mk (st := topS 17) l_law c_law k_law
  have g_law := PySem.W.mg_of X G a_law
  have F_Until : FunD K "until" "until" (defArgs (topS 5)) (defBody (topS 5)) (defScope (topS 5)) [.non] [] f_Until _ := fund_mk (its := [.none]) l_Until c_Until k_Until t_Until rfl (.cons rfl .nil) (by simp)
  have g_Until := PySem.W.mg_of X G a_Until
  have m_isinstance := PySem.W.mg_none_of X G z_isinstance
  have m_int := PySem.W.mg_none_of X G z_int
  have m_bool := PySem.W.mg_none_of X G z_bool
  have m_str := PySem.W.mg_none_of X G z_str
  have m_tuple := PySem.W.mg_none_of X G z_tuple
  have m_list := PySem.W.mg_none_of X G z_list
  have m_len := PySem.W.mg_none_of X G z_len
  have m_range := PySem.W.mg_none_of X G z_range
  have m_repr := PySem.W.mg_none_of X G z_repr
  have m_all := PySem.W.mg_none_of X G z_all
  have m_ord := PySem.W.mg_none_of X G z_ord
  have m_sorted := PySem.W.mg_none_of X G z_sorted
  have m_set := PySem.W.mg_none_of X G z_set
  have m_sum := PySem.W.mg_none_of X G z_sum
  have m_min := PySem.W.mg_none_of X G z_min
  have m_zip := PySem.W.mg_none_of X G z_zip
  have m_max := PySem.W.mg_none_of X G z_max
  have m_enumerate := PySem.W.mg_none_of X G z_enumerate
  have m_dict := PySem.W.mg_none_of X G z_dict
  refine ⟨PySem.W.fnOf "law" "law" (defArgs (topS 17)) (defBody (topS 17)) (defScope (topS 17)) .none kV_law dc_law pm_law an_law cd_law ct_law, fun s v => .of_eq rfl, fun base _ _ => ?_⟩
  have hB : NoB mg BL := by
    intro x hx
    simp only [BL, List.mem_cons, List.not_mem_nil, or_false] at hx
    rcases hx with rfl | rfl | rfl | rfl | rfl | rfl | rfl | rfl | rfl | rfl | rfl | rfl | rfl | rfl | rfl | rfl | rfl | rfl | rfl
    · exact m_isinstance
    · exact m_int
    · exact m_bool
    · exact m_str
    · exact m_tuple
    · exact m_list
    · exact m_len
    · exact m_range
    · exact m_repr
    · exact m_all
    · exact m_ord
    · exact m_sorted
    · exact m_set
    · exact m_sum
    · exact m_min
    · exact m_zip
    · exact m_max
    · exact m_enumerate
    · exact m_dict
  have Fe : Cal l.prog w K mg base 1 "_law_hand" f_feed _ ["_law_script"] (spFeedOf (LP.LM.tapSig l.prog w K (fun _ => none) (fun _ => [])).fk K) := ⟨ok_source F_feed m_list, g_feed, k_feed, b_feed⟩
  have CDip : LM.CalM (LP.LM.tapSig l.prog w K (fun _ => none) (fun _ => [])) mg base 1 "_law_dip" f_Dip _ ["_law_hand_here", "_law_many"] LP.HD.fDip := ⟨ok_Dip (Γ := (LP.LM.tapSig l.prog w K (fun _ => none) (fun _ => []))) F_Dip hB, g_Dip, k_Dip, b_Dip⟩
  have CSRows : LM.CalM (LP.LM.tapSig l.prog w K (fun _ => none) (fun _ => [])) mg base 2 "_law_some_rows" f_SRows _ ["_law_hand_here", "_law_most_now"] LP.HD.fSRows := ⟨ok_SRows (Γ := (LP.LM.tapSig l.prog w K (fun _ => none) (fun _ => []))) F_SRows hB CDip, g_SRows, k_SRows, b_SRows⟩
  have CSWant : LM.CalM (LP.LM.tapSig l.prog w K (fun _ => none) (fun _ => [])) mg base 2 "_law_some_want" f_SWant _ ["_law_hand_here"] LP.HD.fSWant := ⟨ok_SWant (Γ := (LP.LM.tapSig l.prog w K (fun _ => none) (fun _ => []))) F_SWant hB CDip, g_SWant, k_SWant, b_SWant⟩
  have CSSheet : LM.CalM (LP.LM.tapSig l.prog w K (fun _ => none) (fun _ => [])) mg base 3 "_law_some_sheet" f_SSheet _ ["_law_hand_here"] LP.HD.fSSheet := ⟨ok_SSheet (Γ := (LP.LM.tapSig l.prog w K (fun _ => none) (fun _ => []))) F_SSheet hB CDip CSWant, g_SSheet, k_SSheet, b_SSheet⟩
  have CSLaying : LM.CalM (LP.LM.tapSig l.prog w K (fun _ => none) (fun _ => [])) mg base 2 "_law_some_laying" f_SLaying _ ["_law_hand_here", "_law_name", "_law_sheet"] LP.HD.fSLaying := ⟨ok_SLaying (Γ := (LP.LM.tapSig l.prog w K (fun _ => none) (fun _ => []))) F_SLaying hB CDip, g_SLaying, k_SLaying, b_SLaying⟩
  have CSDeed : LM.CalM (LP.LM.tapSig l.prog w K (fun _ => none) (fun _ => [])) mg base 4 "_law_some_deed" f_SDeed _ ["_law_hand_here", "_law_sheets", "_law_menu"] LP.HD.fSDeed := ⟨ok_SDeed (Γ := (LP.LM.tapSig l.prog w K (fun _ => none) (fun _ => []))) F_SDeed hB CDip CSLaying CSRows CSSheet, g_SDeed, k_SDeed, b_SDeed⟩
  have CSTale : LM.CalM (LP.LM.tapSig l.prog w K (fun _ => none) (fun _ => [])) mg base 5 "_law_some_tale" f_STale _ ["_law_hand_here", "_law_most_now", "_law_menu"] LP.HD.fSTale := ⟨ok_STale (Γ := (LP.LM.tapSig l.prog w K (fun _ => none) (fun _ => []))) F_STale hB CDip CSDeed CSRows, g_STale, k_STale, b_STale⟩
  have CCop0 : CalV (LP.LM.tapSig l.prog w K (fun _ => none) (fun _ => [])) mg base 1 "copied" f_Cop _ ["thing"] (fCop 0) := ⟨ok_none, g_Cop, k_Cop, b_Cop⟩
  have CCop1 : CalV (LP.LM.tapSig l.prog w K (fun _ => none) (fun _ => [])) mg base 2 "copied" f_Cop _ ["thing"] (fCop 1) := ⟨ok_Cop (Γ := (LP.LM.tapSig l.prog w K (fun _ => none) (fun _ => []))) 0 F_Cop hB CCop0, g_Cop, k_Cop, b_Cop⟩
  have CCop2 : CalV (LP.LM.tapSig l.prog w K (fun _ => none) (fun _ => [])) mg base 3 "copied" f_Cop _ ["thing"] (fCop 2) := ⟨ok_Cop (Γ := (LP.LM.tapSig l.prog w K (fun _ => none) (fun _ => []))) 1 F_Cop hB CCop1, g_Cop, k_Cop, b_Cop⟩
  have CCop3 : CalV (LP.LM.tapSig l.prog w K (fun _ => none) (fun _ => [])) mg base 4 "copied" f_Cop _ ["thing"] (fCop 3) := ⟨ok_Cop (Γ := (LP.LM.tapSig l.prog w K (fun _ => none) (fun _ => []))) 2 F_Cop hB CCop2, g_Cop, k_Cop, b_Cop⟩
  have CCop4 : CalV (LP.LM.tapSig l.prog w K (fun _ => none) (fun _ => [])) mg base 5 "copied" f_Cop _ ["thing"] (fCop 4) := ⟨ok_Cop (Γ := (LP.LM.tapSig l.prog w K (fun _ => none) (fun _ => []))) 3 F_Cop hB CCop3, g_Cop, k_Cop, b_Cop⟩
  have CCop5 : CalV (LP.LM.tapSig l.prog w K (fun _ => none) (fun _ => [])) mg base 6 "copied" f_Cop _ ["thing"] (fCop 5) := ⟨ok_Cop (Γ := (LP.LM.tapSig l.prog w K (fun _ => none) (fun _ => []))) 4 F_Cop hB CCop4, g_Cop, k_Cop, b_Cop⟩
  have CCop6 : CalV (LP.LM.tapSig l.prog w K (fun _ => none) (fun _ => [])) mg base 7 "copied" f_Cop _ ["thing"] (fCop 6) := ⟨ok_Cop (Γ := (LP.LM.tapSig l.prog w K (fun _ => none) (fun _ => []))) 5 F_Cop hB CCop5, g_Cop, k_Cop, b_Cop⟩
  have CCop7 : CalV (LP.LM.tapSig l.prog w K (fun _ => none) (fun _ => [])) mg base 8 "copied" f_Cop _ ["thing"] (fCop 7) := ⟨ok_Cop (Γ := (LP.LM.tapSig l.prog w K (fun _ => none) (fun _ => []))) 6 F_Cop hB CCop6, g_Cop, k_Cop, b_Cop⟩
  have CCop8 : CalV (LP.LM.tapSig l.prog w K (fun _ => none) (fun _ => [])) mg base 9 "copied" f_Cop _ ["thing"] (fCop 8) := ⟨ok_Cop (Γ := (LP.LM.tapSig l.prog w K (fun _ => none) (fun _ => []))) 7 F_Cop hB CCop7, g_Cop, k_Cop, b_Cop⟩
  have CCop9 : CalV (LP.LM.tapSig l.prog w K (fun _ => none) (fun _ => [])) mg base 10 "copied" f_Cop _ ["thing"] (fCop 9) := ⟨ok_Cop (Γ := (LP.LM.tapSig l.prog w K (fun _ => none) (fun _ => []))) 8 F_Cop hB CCop8, g_Cop, k_Cop, b_Cop⟩
  have CCop10 : CalV (LP.LM.tapSig l.prog w K (fun _ => none) (fun _ => [])) mg base 11 "copied" f_Cop _ ["thing"] (fCop 10) := ⟨ok_Cop (Γ := (LP.LM.tapSig l.prog w K (fun _ => none) (fun _ => []))) 9 F_Cop hB CCop9, g_Cop, k_Cop, b_Cop⟩
  have CCop11 : CalV (LP.LM.tapSig l.prog w K (fun _ => none) (fun _ => [])) mg base 12 "copied" f_Cop _ ["thing"] (fCop 11) := ⟨ok_Cop (Γ := (LP.LM.tapSig l.prog w K (fun _ => none) (fun _ => []))) 10 F_Cop hB CCop10, g_Cop, k_Cop, b_Cop⟩
  have CCop : CalV (LP.LM.tapSig l.prog w K (fun _ => none) (fun _ => [])) mg base 13 "copied" f_Cop _ ["thing"] (fCop 12) := ⟨ok_Cop (Γ := (LP.LM.tapSig l.prog w K (fun _ => none) (fun _ => []))) 11 F_Cop hB CCop11, g_Cop, k_Cop, b_Cop⟩
  have CWith : CalV (LP.LM.tapSig l.prog w K (fun _ => none) (fun _ => [])) mg base 14 "with_page" f_With _ ["tale", "page"] fWith := ⟨ok_With (Γ := (LP.LM.tapSig l.prog w K (fun _ => none) (fun _ => []))) F_With hB CCop, g_With, k_With, b_With⟩
  have CWithout : CalV (LP.LM.tapSig l.prog w K (fun _ => none) (fun _ => [])) mg base 14 "without_page" f_Without _ ["tale", "page"] fWithout := ⟨ok_Without (Γ := (LP.LM.tapSig l.prog w K (fun _ => none) (fun _ => []))) F_Without hB CCop, g_Without, k_Without, b_Without⟩
  have okN_Until := ok_Until (Γ := (LP.LM.tapSig l.prog w K (fun _ => none) (fun _ => []))) F_Until hB CCop
  have NUntil_1 : CalN (LP.LM.tapSig l.prog w K (fun _ => none) (fun _ => [])) mg base 14 "until" f_Until _ ["tale", "hour"] 1 [] 0 1 fUntil := ⟨okN_Until, g_Until, k_Until, kb_NUntil_1 F_Until⟩
  have NUntil_1_hour : CalN (LP.LM.tapSig l.prog w K (fun _ => none) (fun _ => [])) mg base 14 "until" f_Until _ ["tale", "hour"] 1 ["hour"] 0 0 fUntil := ⟨okN_Until, g_Until, k_Until, kb_NUntil_1_hour F_Until⟩
  have NUntil_2 : CalN (LP.LM.tapSig l.prog w K (fun _ => none) (fun _ => [])) mg base 14 "until" f_Until _ ["tale", "hour"] 2 [] 0 0 fUntil := ⟨okN_Until, g_Until, k_Until, kb_NUntil_2 F_Until⟩
  have CClocks : CalV (LP.LM.tapSig l.prog w K (fun _ => none) (fun _ => [])) mg base 1 "_law_clocks" f_Clocks _ ["_law_tape_pages"] fClocks := ⟨ok_Clocks (Γ := (LP.LM.tapSig l.prog w K (fun _ => none) (fun _ => []))) F_Clocks hB, g_Clocks, k_Clocks, b_Clocks⟩
  have CUpTo : CalV (LP.LM.tapSig l.prog w K (fun _ => none) (fun _ => [])) mg base 1 "_law_up_to" f_UpTo _ ["_law_pages", "_law_clock"] fUpTo := ⟨ok_UpTo (Γ := (LP.LM.tapSig l.prog w K (fun _ => none) (fun _ => []))) F_UpTo hB, g_UpTo, k_UpTo, b_UpTo⟩
  exact ok_law (Γ := (LP.LM.tapSig l.prog w K (fun _ => none) (fun _ => []))) F_law hB LM.tap_st Fe CClocks CDip CSTale CUpTo CWith CWithout NUntil_1 NUntil_1_hour NUntil_2 law_wp
end LP.K74

open PySem PySem.W PyProof.Rows
set_option maxHeartbeats 0 in
theorem PySem.Challenge.cw_partkits_k74_tales_holds : PySem.Challenge.rw_partkits_k74_tales.Holds := by
  w_on; o_law; k_head; (case hw => w_witness2)
  k_fill
  refine PK.walk_ofG (l := PySem.Challenge.rw_partkits_k74_tales) (n := 63) (k := 15) (x := "_law_script") (sp := fun w => LP.spLawK _) rfl (by decide) rfl ⟨rfl, by decide, by decide⟩ (fun w h Y => PySem.W.kIn_of Y) ?F (fun _ _ a ns hl _ hS => ⟨a, ns, rfl, hS, fun _ => rfl⟩)
  case F =>
    intro w mg fa h KX G hmg
    refine' LP.K74.all_mk KX G hmg ?a_feed ?l_feed ?c_feed ?k_feed ?a_Dip ?l_Dip ?c_Dip ?k_Dip ?a_SRows ?l_SRows ?c_SRows ?k_SRows ?a_SWant ?l_SWant ?c_SWant ?k_SWant ?a_SSheet ?l_SSheet ?c_SSheet ?k_SSheet ?a_SLaying ?l_SLaying ?c_SLaying ?k_SLaying ?a_SDeed ?l_SDeed ?c_SDeed ?k_SDeed ?a_STale ?l_STale ?c_STale ?k_STale ?a_Cop ?l_Cop ?c_Cop ?k_Cop ?a_With ?l_With ?c_With ?k_With ?a_Without ?l_Without ?c_Without ?k_Without ?a_Clocks ?l_Clocks ?c_Clocks ?k_Clocks ?a_UpTo ?l_UpTo ?c_UpTo ?k_UpTo ?a_law ?l_law ?c_law ?k_law ?a_Until ?l_Until ?t_Until ?c_Until ?k_Until ?z_isinstance ?z_int ?z_bool ?z_str ?z_tuple ?z_list ?z_len ?z_range ?z_repr ?z_all ?z_ord ?z_sorted ?z_set ?z_sum ?z_min ?z_zip ?z_max ?z_enumerate ?z_dict 
    (case a_feed => k_is)
    (case l_feed => k_is)
    (case c_feed => k_is)
    (case k_feed => k_is)
    (case a_Dip => k_is)
    (case l_Dip => k_is)
    (case c_Dip => k_is)
    (case k_Dip => k_is)
    (case a_SRows => k_is)
    (case l_SRows => k_is)
    (case c_SRows => k_is)
    (case k_SRows => k_is)
    (case a_SWant => k_is)
    (case l_SWant => k_is)
    (case c_SWant => k_is)
    (case k_SWant => k_is)
    (case a_SSheet => k_is)
    (case l_SSheet => k_is)
    (case c_SSheet => k_is)
    (case k_SSheet => k_is)
    (case a_SLaying => k_is)
    (case l_SLaying => k_is)
    (case c_SLaying => k_is)
    (case k_SLaying => k_is)
    (case a_SDeed => k_is)
    (case l_SDeed => k_is)
    (case c_SDeed => k_is)
    (case k_SDeed => k_is)
    (case a_STale => k_is)
    (case l_STale => k_is)
    (case c_STale => k_is)
    (case k_STale => k_is)
    (case a_Cop => k_is)
    (case l_Cop => k_is)
    (case c_Cop => k_is)
    (case k_Cop => k_is)
    (case a_With => k_is)
    (case l_With => k_is)
    (case c_With => k_is)
    (case k_With => k_is)
    (case a_Without => k_is)
    (case l_Without => k_is)
    (case c_Without => k_is)
    (case k_Without => k_is)
    (case a_Clocks => k_is)
    (case l_Clocks => k_is)
    (case c_Clocks => k_is)
    (case k_Clocks => k_is)
    (case a_UpTo => k_is)
    (case l_UpTo => k_is)
    (case c_UpTo => k_is)
    (case k_UpTo => k_is)
    (case a_law => k_is)
    (case l_law => k_is)
    (case c_law => k_is)
    (case k_law => k_is)
    (case a_Until => k_is)
    (case l_Until => k_is)
    (case t_Until => k_is)
    (case c_Until => k_is)
    (case k_Until => k_is)
    (case z_isinstance => k_is)
    (case z_int => k_is)
    (case z_bool => k_is)
    (case z_str => k_is)
    (case z_tuple => k_is)
    (case z_list => k_is)
    (case z_len => k_is)
    (case z_range => k_is)
    (case z_repr => k_is)
    (case z_all => k_is)
    (case z_ord => k_is)
    (case z_sorted => k_is)
    (case z_set => k_is)
    (case z_sum => k_is)
    (case z_min => k_is)
    (case z_zip => k_is)
    (case z_max => k_is)
    (case z_enumerate => k_is)
    (case z_dict => k_is)
