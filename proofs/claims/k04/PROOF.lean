import PyProof.Rows.All
import Wide.All
import OpenK.AllK
import Wide.FinOn
import PyProof.EqAt
import PyProof.EqKinds
import PyProof.TupleCall
import PyProof.ReprRoads
import HandS.ForMost
import HandS.Walk
import HandS.TupAny
import HandS.TupMul
import HandS.Zip
import HandS.Defaults
import HandS.Style
import HandS.Evl
import HandS.FStrTup
import HandS.Conv
import HandS.More
import HandS.Set
import KE.DatumOrd
import KE.SortData
import HandS.MakeKwOnly
import HandS.ExcInit
import HandS.ExcSuper
import KE.KExcSuper
import HandS.WordsExc
import HandS.CallSlots
import HandS.ExcField
import HandS.ExcIs
import HandS.SetTxt0
import HandS.SetBool
import HandS.Comp
import HandS.Codes
import HandS.Deep
import HandS.IsInst
import PyProof.InstNe
import OpenK.KOps
import PyProof.Rows.IntBool
import HandS.SetFor
import HandS.Text
import KE.KCallOwn
import HandS.FStr
import HandS.DictComp
import HandS.HotCalls
import HandS.ExcOwn
import KE.KExcIs
import PyProof.FitsInt
import KE.KDictKeyed
import HandS.TryOnly
import KE.RegKSuper
import PySem.Challenge.RW_partkits_k04_together_and_less
set_option Elab.async false
set_option linter.all false
set_option maxRecDepth 100000
set_option maxHeartbeats 4000000
namespace PK
open PySem PySem.Spec PyProof.Rows L2

/-! ### defs that show things: called where nothing is being shown -/
structure FnG (P : Program) (w : World) (K : PySem.W.Frag) (mg : Str → Option Value) (base : Heap) (CX : CXT)
    (k : Nat) (f : Addr) (fd : FuncData) (ps : List Str) (sp : Sp) : Prop where
  len : ∀ vs H Q E, sp vs H Q E → vs.length = ps.length
  go : ∀ {A : Around} {outer : List Env} {s : Shared} {H : Hp} {args : Args} {us : List Value} {vs : List V} {Q : VK} {E : XK},
    A.guards = some [] → Room k A → Env0 P w K mg base A outer s H → BindsTo s fd args (ps.zip us) → Vals vs us →
    sp vs H Q E → codeAny (model P w) A (.call (.ref f) args) (CR CX outer P w H s Q E) s
theorem FnG.of {P : Program} {w : World} {K : PySem.W.Frag} {mg : Str → Option Value} {base : Heap} {CX : CXT}
    {k : Nat} {f : Addr} {fd : FuncData} {ps : List Str} {sp : Sp} (F : FnOk P w K mg base CX k f fd ps sp) :
    FnG P w K mg base CX k f fd ps sp :=
  ⟨F.len, fun _ hr e0 hb hv hs => F.run _ _ _ _ _ _ _ _ _ hr e0 hb hv hs⟩

/-- the def's promise from its body, the body read where nothing is being shown -/
theorem fnG_of {CX : CXT} {P : Program} {w : World} {K : PySem.W.Frag} {mg : Str → Option Value} {base : Heap} {k : Nat} {f : Addr} {fd : FuncData}
    {x qual : Str} {st : Stmt} {N ps : List Str} {sp : Sp} (F : Fun K x qual st f fd) (S : FnScope N ps (defScope st))
    (len : ∀ vs H Q E, sp vs H Q E → vs.length = ps.length)
    (hbody : ∀ (cdv : Value) (A : Around) (outer : List Env) (s : Shared) (H : Hp) (vs : List V) (Q : VK) (E : XK), A.guards = some [] →
      Room k (A.deeper (envOfC qual (defScope st) s.heap.objs.size f cdv)) → sp vs H Q E →
      ∃ t, PSs (cxOf CX P w K mg base N qual (defScope st) f cdv A outer s H E) (defBody st) t ∧
        t { nx := fun _ H' => Q .non H', rt := Q } (start N vs) H) : FnG P w K mg base CX (k + 1) f fd ps sp := by
  obtain ⟨oc, od, kV, doc, pm, an, cdv, ct, osl, rfl, lk, hcd⟩ := F.ex
  refine ⟨len, fun {A outer s H args us vs Q E} hgd hr e0 hb hv hsp => ?_⟩
  have kept : ∀ b o, base.get? b = some o → s.heap.get? b = some o := fun b o e => (e0.bs b o e).1
  have KX := e0.mod.kin.keeps kept
  have noLim := e0.mod.nolimit.keeps kept
  refine codeAny_call_function hr.depth (KX _ _ lk) rfl S.co S.gen rfl (PySem.W.codeRec_of KX hcd) (hb _ _ _ _ ?_)
  refine wpAny_newFunctionEnv_cells S.kind (fun y hy => ?_) fun env he s1 hx => ?_
  · rcases S.par y.1 (List.of_mem_zip (show (y.1, y.2) ∈ ps.zip us from hy)).1 with q | q
    · exact Or.inl q
    · exact Or.inr ⟨q, PySem.W.cellsFrom_some _ _ _ (Or.inl q)⟩
  cases he
  refine ⟨noLim.keeps hx.toInCall.keep, codeAny_func ?_⟩
  obtain ⟨t, ht, hq⟩ := hbody cdv A outer s H vs Q E hgd (hr.deeper _) hsp
  have I := inv_start (CX := CX) (N := N) (E := E) S hr.hd e0 (len _ _ _ _ hsp) hv hx
  refine wpAny_mono (ht.run [] s1 _ H _ I hq) (fun fl s' hs => ?_) (fun _ _ h => h)
  cases fl with
  | ret u =>
    obtain ⟨v, σ', H', J, rv, q⟩ := hs
    exact ⟨v, H', J.os, J.bare, J.base, J.hok, rv, q⟩
  | next =>
    obtain ⟨σ', H', J, q⟩ := hs
    exact ⟨V.non, H', J.os, J.bare, J.base, J.hok, rfl, q⟩
  | brk => exact hs.elim fun _ h => h.elim fun _ h => h.2.elim
  | cont => exact hs.elim fun _ h => h.elim fun _ h => h.2.elim

section
variable {X : Cx} {CX : CXT} {k : Nat} {f : Addr} {fd : FuncData} {ps : List Str} {sp : Sp} {dvs : List V} {ds : List Value} {E : XK}
  {x : Str} {p pos : Pos} {e : Expr} {es : List Expr} {t : TA}
end

/-! ### repr of data -/
end PK
namespace PK
open PySem PySem.Spec PyProof.Rows L2
section
open PySem.SeqAt
open PySem.AutoSeq1 (wpAny_loadPart')
open PySem.MeetsSeq PySem.MeetsSeq2 PySem.MeetsSeq3

end

section
variable {X : Cx}
end

/-! ### t[::-1] -/
section
variable {prog : Program} {w : World} {A : Around} {E : Value → Shared → Prop} {s : Shared}
end
section
variable {X : Cx}
end

/-! ### xs != [], xs == [] -/
section
open PySem.SeqAt
open PySem.AutoSeq1 (wpAny_loadPart')
open PySem.MeetsSeq PySem.MeetsSeq2 PySem.MeetsSeq3
theorem list_ne_sizes (l b : Addr) (xs ys : Array Value) (n m : Nat) (sl sl2 : Array (Option Value)) (hc : (xs.size != ys.size) = true) :
    Meets (Builtin.«list.__ne__» ⟨[.ref l, .ref b], []⟩)
      (fun _ R s => s.heap.get? l = some { cls := .type "list", dict := none, data := .seq xs n, slots := sl } ∧
        s.heap.get? b = some { cls := .type "list", dict := none, data := .seq ys m, slots := sl2 } ∧ R (.ok (.ret (.bool true))) s) :=
  .of_wp fun prog w A R s h => by
    obtain ⟨hp, g, d, tk, os⟩ := s
    obtain ⟨hl, hb, h⟩ := h
    have f3 := AutoSeq1.sub_list_list
    wp_walk using wpAny_loadPart' hl, wpAny_loadPart' hb
    exact ⟨_, rfl, h⟩
end
section
variable {X : Cx}
def rNeNil (K : PySem.W.Frag) : R2 := fun x y H Q => ∃ a b xs, x = .ref a ∧ y = .ref b ∧ SqL K H a xs ∧ SqL K H b [] ∧ Q (.bl (!xs.isEmpty)) H
theorem op_neNil {k : Nat} (hr : Room k X.A) : OpR X (compareOp .NotEq) (rNeNil X.K) := by
  intro pins s σ H x y v u Q I rx ry h
  obtain ⟨a, b, xs, rfl, rfl, ha, hb, q⟩ := h
  cases xs with
  | nil => exact op_neD hr.units pins s σ H _ _ v u Q I rx ry ⟨.list [], .list [], .lst ha .nil, .lst hb .nil, rfl, rfl, q⟩
  | cons z zs =>
    cases rx
    cases ry
    obtain ⟨its, r, ⟨⟨cls, dd, data, sl⟩, n, ho, hc, hdd, hd⟩, _⟩ := I.list ha
    obtain ⟨jts, r2, ⟨⟨cls2, dd2, data2, sl2⟩, n2, ho2, hc2, hdd2, hd2⟩, _⟩ := I.list hb
    simp only at hc hd hdd hc2 hd2 hdd2
    subst hc hd hdd hc2 hd2 hdd2
    cases r2
    have hz : (its.toArray.size != ([] : List Value).toArray.size) = true := by
      rw [List.size_toArray, ← r.length]
      rfl
    exact richCompare_meets_room (op := .NotEq) ⟨_, ho, rfl⟩ ⟨_, ho2, rfl⟩ PySem.F.slot_list_ne PySem.F.entry_list_ne (PySem.F.args_list_ne_2 _ _)
      (list_ne_sizes a b its.toArray ([] : List Value).toArray n n2 sl sl2 hz) ⟨ho, ho2, (fun z => nomatch z), ⟨.bl true, H, I, rfl, q⟩⟩ hr.units0
end
end PK
namespace PK
open PySem PySem.Spec PyProof.Rows L2

/-- a def that may be called: its promise, its name, how its arguments come -/
structure Cal (P : Program) (w : World) (K : PySem.W.Frag) (mg : Str → Option Value) (base : Heap) (k : Nat) (x : Str) (f : Addr)
    (fd : FuncData) (ps : List Str) (sp : Sp) : Prop where
  ok : FnOk P w K mg base CX0 k f fd ps sp
  g : mg x = some (.ref f)
  kp : PySem.W.keepIn K (.ref f) = true
  b : Binds K fd ps []
structure CalG (P : Program) (w : World) (K : PySem.W.Frag) (mg : Str → Option Value) (base : Heap) (k : Nat) (x : Str) (f : Addr)
    (fd : FuncData) (ps : List Str) (sp : Sp) : Prop where
  ok : FnG P w K mg base CX0 k f fd ps sp
  g : mg x = some (.ref f)
  kp : PySem.W.keepIn K (.ref f) = true
  b : Binds K fd ps []

/-! ### the heap but for one object -/
/-- all that was tracked, but the object at a, is as it was -/
def Ext (a : Addr) (H H' : Hp) : Prop := ∀ b o, H b = some o → b ≠ a → H' b = some o
theorem Ext.refl (a : Addr) (H : Hp) : Ext a H H := fun _ _ h _ => h
theorem Ext.trans {a : Addr} {H H1 H2 : Hp} (x : Ext a H H1) (y : Ext a H1 H2) : Ext a H H2 := fun b o h n => y b o (x b o h n) n
theorem Ext.of {a : Addr} {H H' : Hp} (x : Same H H') : Ext a H H' := fun b o h _ => x b o h
theorem Ext.new {a p : Addr} {H H1 : Hp} {o : HO} (x : Ext a H H1) (np : H1 p = none) : Ext a H (upd H1 p o) := fun b u h n => by
  have h1 := x b u h n
  rw [upd_ne (ne_of_none h1 np)]
  exact h1
theorem Ext.at {a : Addr} {H H1 : Hp} {o : HO} (x : Ext a H H1) : Ext a H (upd H1 a o) := fun b u h n => by
  rw [upd_ne n]
  exact x b u h n
/-- a new object of ours changes -/
theorem Ext.own {a p : Addr} {H H1 : Hp} {o : HO} (x : Ext a H H1) (np : H p = none) : Ext a H (upd H1 p o) := fun b u h n => by
  rw [upd_ne (ne_of_none h np)]
  exact x b u h n
theorem Ext.free {a p : Addr} {H H1 : Hp} (x : Ext a H H1) (np : H1 p = none) (ne : p ≠ a) : H p = none := by
  cases q : H p with
  | none => rfl
  | some o =>
    rw [x p o q ne] at np
    cases np
theorem same_new {H H1 : Hp} {p : Addr} {o : HO} (x : Same H H1) (np : H1 p = none) : Same H (upd H1 p o) := fun b u h => by
  have h1 := x b u h
  rw [upd_ne (ne_of_none h1 np)]
  exact h1
theorem same_own {H H1 : Hp} {p : Addr} {o : HO} (x : Same H H1) (np : H p = none) : Same H (upd H1 p o) := fun b u h => by
  rw [upd_ne (ne_of_none h np)]
  exact x b u h

/-! ### what the law draws from -/
abbrev kC : Key := Sum.inr "cells"
abbrev kA : Key := Sum.inr "at"
abbrev kL : Key := Sum.inr "left"
abbrev kN : Key := Sum.inr "count"
def feed (c : Addr) (i l n : Int) : List (Key × V) := [(kC, .ref c), (kA, .int i), (kL, .int l), (kN, .int n)]
theorem feed_putA (c : Addr) (i l n j : Int) : putK (feed c i l n) kA (.int j) = feed c j l n := rfl
theorem feed_putL (c : Addr) (i l n j : Int) : putK (feed c i l n) kL (.int j) = feed c i j n := rfl
theorem feed_putN (c : Addr) (i l n j : Int) : putK (feed c i l n) kN (.int j) = feed c i l j := rfl
theorem feed_len (c : Addr) (i l n : Int) : (feed c i l n).length < sizeLine := by
  show 4 < sizeLine
  decide
theorem feed_merge (c : Addr) (i l n : Int) : mergeK [] (feed c i l n) = feed c i l n := rfl
/-- the feed at a: cells, all of them ints, and three numbers -/
structure Feed (H : Hp) (a : Addr) (c : Addr) (cs : List Int) (i l n : Int) : Prop where
  d : H a = some (.dK (feed c i l n))
  l : H c = some (.lst (cs.map V.int))
  i0 : 0 ≤ i
theorem Feed.ne {H : Hp} {a c : Addr} {cs : List Int} {i l n : Int} (f : Feed H a c cs i l n) : c ≠ a := ne_of f.l f.d (by intro z; cases z)
def IsFeed (H : Hp) (a c : Addr) : Prop := ∃ cs i l n, Feed H a c cs i l n
theorem Feed.new {H : Hp} {a c p : Addr} {cs : List Int} {i l n : Int} {o : HO} (f : Feed H a c cs i l n) (np : H p = none) : Feed (upd H p o) a c cs i l n :=
  ⟨by rw [upd_ne (ne_of_none f.d np)]; exact f.d, by rw [upd_ne (ne_of_none f.l np)]; exact f.l, f.i0⟩
theorem Feed.put {H : Hp} {a c : Addr} {cs : List Int} {i l n i' l' n' : Int} (f : Feed H a c cs i l n) (h : 0 ≤ i') : Feed (upd H a (.dK (feed c i' l' n'))) a c cs i' l' n' :=
  ⟨upd_same, by rw [upd_ne f.ne]; exact f.l, h⟩
theorem IsFeed.new {H : Hp} {a c p : Addr} {o : HO} (f : IsFeed H a c) (np : H p = none) : IsFeed (upd H p o) a c := by
  obtain ⟨cs, i, l, n, f⟩ := f
  exact ⟨cs, i, l, n, f.new np⟩
theorem IsFeed.keep {H H' : Hp} {a c : Addr} (f : IsFeed H a c) (h : Same H H') : IsFeed H' a c := by
  obtain ⟨cs, i, l, n, f⟩ := f
  exact ⟨cs, i, l, n, h _ _ f.d, h _ _ f.l, f.i0⟩
theorem IsFeed.some {H : Hp} {a c : Addr} (f : IsFeed H a c) : ∃ o, H a = some o := by
  obtain ⟨cs, i, l, n, f⟩ := f
  exact ⟨_, f.d⟩
theorem IsFeed.ne {H : Hp} {a c p : Addr} (f : IsFeed H a c) (np : H p = none) : p ≠ a ∧ p ≠ c := by
  obtain ⟨cs, i, l, n, f⟩ := f
  exact ⟨(ne_of_none f.d np).symm, (ne_of_none f.l np).symm⟩
/-- an object of ours that is neither the feed nor its cells changes -/
theorem IsFeed.own {H : Hp} {a c p : Addr} {o : HO} (f : IsFeed H a c) (h : p ≠ a ∧ p ≠ c) : IsFeed (upd H p o) a c := by
  obtain ⟨cs, i, l, n, f⟩ := f
  exact ⟨cs, i, l, n, by rw [upd_ne h.1.symm]; exact f.d, by rw [upd_ne h.2.symm]; exact f.l, f.i0⟩

/-- a draw: any number below the second -/
def spDraw : Sp := fun vs H Q _ => ∃ (a c : Addr) (m : Int), vs = [.ref a, .int m] ∧ IsFeed H a c ∧ 0 < m ∧ m ≤ 1000000 ∧
  ∀ (r : Int) (H' : Hp), 0 ≤ r → r < m → Ext a H H' → IsFeed H' a c → Q (.int r) H'

end PK
namespace PK
open PySem PySem.Spec PyProof.Rows L2
/-- a small letter; a word: one to eight of them -/
def Lw (c : Nat) : Prop := 97 ≤ c ∧ c ≤ 122
structure Word (y : Str) : Prop where
  one : 1 ≤ y.length
  eight : y.length ≤ 8
  low : ∀ c ∈ y.cps.toList, Lw c
abbrev abc : Str := "abcdefghijklmnopqrstuvwxyz"
theorem abc_list : abc.cps.toList = List.range' 97 26 := by decide +kernel
theorem abc_len : abc.length ≤ sizeLine := by decide +kernel
theorem abc_at {i : Int} (h0 : 0 ≤ i) (h1 : i < 26) : ∃ c, atI abc.cps.toList i = some c ∧ Lw c := by
  refine ⟨97 + i.toNat, ?_, by omega, by omega⟩
  rw [abc_list]
  obtain ⟨n, rfl⟩ := Int.eq_ofNat_of_zero_le h0
  refine atI_nat ?_
  rw [Int.toNat_natCast, List.getElem?_range' (by omega)]
  rw [Nat.one_mul]
theorem len_one (c : Nat) : (⟨#[c]⟩ : Str).length = 1 := rfl
/-- a sign behind a word -/
theorem word_snoc {y : Str} {c : Nat} (h : Word y) (h8 : y.length < 8) (hc : Lw c) : Word (y ++ ⟨#[c]⟩) := by
  refine ⟨?_, ?_, fun d hd => ?_⟩
  · rw [strLen_append, len_one]; omega
  · rw [strLen_append, len_one]; omega
  · rw [mem_cps_append] at hd
    rcases hd with z | z
    · exact h.low d z
    · have e : d = c := by simpa using z
      rw [e]; exact hc
/-- a sign, and up to seven behind it -/
theorem word_join {c : Nat} {l : List Nat} (hc : Lw c) (hl : l.length ≤ 7) (h : ∀ d ∈ l, Lw d) : Word (⟨#[c]⟩ ++ Txt.join ⟨#[]⟩ (l.map fun k => (⟨#[k]⟩ : Str))) := by
  rw [TL.join_eq, join_ones]
  have e : (⟨l.toArray⟩ : Str).length = l.length := by simp [Str.length]
  refine ⟨?_, ?_, fun d hd => ?_⟩
  · rw [strLen_append, len_one]; omega
  · rw [strLen_append, len_one, e]; omega
  · rw [mem_cps_append] at hd
    rcases hd with z | z
    · have e : d = c := by simpa using z
      rw [e]; exact hc
    · exact h d (by simpa using z)

end PK
namespace PK
open PySem PySem.Spec PyProof.Rows L2
end PK
namespace PK
open PySem PySem.Spec PyProof.Rows L2

/-! ### what never changes: tuples -/
def Tk : HO → Prop
  | .tup _ => True
  | .frz _ _ => True
  | _ => False
/-- the tuples (and what is locked) stay -/
def TKeep (H H' : Hp) : Prop := ∀ b u, Tk u → H b = some u → H' b = some u
theorem TKeep.refl (H : Hp) : TKeep H H := fun _ _ _ h => h
theorem TKeep.trans {H H1 H2 : Hp} (x : TKeep H H1) (y : TKeep H1 H2) : TKeep H H2 := fun b u t h => y b u t (x b u t h)
theorem TKeep.of {H H' : Hp} (x : Same H H') : TKeep H H' := fun b u _ h => x b u h
theorem TKeep.new {H : Hp} {p : Addr} {o : HO} (np : H p = none) : TKeep H (upd H p o) := fun b u _ h => by
  rw [upd_ne (ne_of_none h np)]
  exact h
theorem TKeep.lst {H : Hp} {p : Addr} {xs : List V} {o : HO} (hp : H p = some (.lst xs)) : TKeep H (upd H p o) := fun b u t h => by
  rw [upd_ne (ne_of h hp (by rintro rfl; exact t))]
  exact h
theorem TKeep.ext {H H' : Hp} {a : Addr} {kv : List (Key × V)} (ha : H a = some (.dK kv)) (x : Ext a H H') : TKeep H H' := fun b u t h =>
  x b u h (ne_of h ha (by rintro rfl; exact t))
theorem TKeep.feed {H H' : Hp} {a c : Addr} (f : IsFeed H a c) (x : Ext a H H') : TKeep H H' := by
  obtain ⟨cs, i, l, n, f⟩ := f
  exact TKeep.ext f.d x
theorem TKeep.sq {K : PySem.W.Frag} {H H' : Hp} {b : Addr} {xs : List V} (x : TKeep H H') (h : SqT K H b xs) : SqT K H' b xs := by
  rcases h with (h | ⟨o, h⟩) | h
  · exact Or.inl (Or.inl (x _ _ trivial h))
  · exact Or.inl (Or.inr ⟨o, x _ _ trivial h⟩)
  · exact Or.inr h
mutual
/-- data without lists and dicts -/
def flatT : PyData → Bool
  | .none | .bool _ | .int _ | .str _ => true
  | .tuple xs => flatTs xs
  | _ => false
def flatTs : List PyData → Bool
  | [] => true
  | x :: xs => flatT x && flatTs xs
end
mutual
theorem Dp.keepT {K : PySem.W.Frag} {H H' : Hp} (x : TKeep H H') : ∀ {d : PyData} {v : V}, flatT d = true → Dp K H v d → Dp K H' v d
  | .none, _, _, .non => .non
  | .bool _, _, _, .bl b => .bl b
  | .int _, _, _, .int i => .int i
  | .str _, _, _, .str y => .str y
  | .list _, _, h, _ => by simp [flatT] at h
  | .dict _, _, h, _ => by simp [flatT] at h
  | .tuple ds, _, h, .tup hs ha => .tup (x.sq hs) (DpAll.keepT x (by simpa [flatT] using h) ha)
theorem DpAll.keepT {K : PySem.W.Frag} {H H' : Hp} (x : TKeep H H') : ∀ {ds : List PyData} {vs : List V}, flatTs ds = true → DpAll K H vs ds → DpAll K H' vs ds
  | [], _, _, .nil => .nil
  | d :: ds, _, h, .cons h1 h2 => by
    have h' : flatT d = true ∧ flatTs ds = true := by simpa [flatTs] using h
    exact .cons (Dp.keepT x h'.1 h1) (DpAll.keepT x h'.2 h2)
end
mutual
theorem Dp.same {K : PySem.W.Frag} {H H' : Hp} (x : Same H H') : ∀ {d : PyData} {v : V}, Dp K H v d → Dp K H' v d
  | .none, _, .non => .non
  | .bool _, _, .bl b => .bl b
  | .int _, _, .int i => .int i
  | .str _, _, .str y => .str y
  | .list ds, _, .lst hs ha => .lst (x.seq hs) (DpAll.same x ha)
  | .tuple ds, _, .tup hs ha => .tup ((TKeep.of x).sq hs) (DpAll.same x ha)
theorem DpAll.same {K : PySem.W.Frag} {H H' : Hp} (x : Same H H') : ∀ {ds : List PyData} {vs : List V}, DpAll K H vs ds → DpAll K H' vs ds
  | [], _, .nil => .nil
  | d :: ds, _, .cons h1 h2 => .cons (Dp.same x h1) (DpAll.same x h2)
end
theorem DpAll.len {K : PySem.W.Frag} {H : Hp} : ∀ {vs : List V} {ds : List PyData}, DpAll K H vs ds → vs.length = ds.length
  | _, _, .nil => rfl
  | _, _, .cons _ h => by rw [List.length_cons, List.length_cons, DpAll.len h]
theorem DpAll.snoc {K : PySem.W.Frag} {H : Hp} {v : V} {d : PyData} (h : Dp K H v d) : ∀ {vs : List V} {ds : List PyData}, DpAll K H vs ds → DpAll K H (vs ++ [v]) (ds ++ [d])
  | _, _, .nil => .cons h .nil
  | _, _, .cons h1 h2 => .cons h1 (DpAll.snoc h h2)
theorem DpAll.app {K : PySem.W.Frag} {H : Hp} : ∀ {vs us : List V} {ds es : List PyData}, DpAll K H vs ds → DpAll K H us es → DpAll K H (vs ++ us) (ds ++ es)
  | _, _, _, _, .nil, h => h
  | _, _, _, _, .cons h1 h2, h => .cons h1 (DpAll.app h2 h)
theorem DpAll.get {K : PySem.W.Frag} {H : Hp} : ∀ {vs : List V} {ds : List PyData} {i : Nat} {d : PyData}, DpAll K H vs ds → ds[i]? = some d → ∃ v, vs[i]? = some v ∧ Dp K H v d
  | _, _, _, _, .nil, h => by simp at h
  | _, _, 0, _, .cons h1 _, h => ⟨_, rfl, by
    have e := Option.some.inj h
    rw [← e]; exact h1⟩
  | _, _, i + 1, _, .cons _ h2, h => by
    obtain ⟨v, e, r⟩ := DpAll.get (i := i) h2 (by simpa using h)
    exact ⟨v, by simpa using e, r⟩
theorem DpAll.getV {K : PySem.W.Frag} {H : Hp} : ∀ {vs : List V} {ds : List PyData} {i : Nat} {v : V}, DpAll K H vs ds → vs[i]? = some v → ∃ d, ds[i]? = some d ∧ Dp K H v d
  | _, _, _, _, .nil, h => by simp at h
  | _, _, 0, _, .cons h1 _, h => ⟨_, rfl, by
    have e := Option.some.inj h
    rw [← e]; exact h1⟩
  | _, _, i + 1, _, .cons _ h2, h => by
    obtain ⟨v, e, r⟩ := DpAll.getV (i := i) h2 (by simpa using h)
    exact ⟨v, by simpa using e, r⟩
theorem DpAll.take {K : PySem.W.Frag} {H : Hp} : ∀ (n : Nat) {vs : List V} {ds : List PyData}, DpAll K H vs ds → DpAll K H (vs.take n) (ds.take n)
  | 0, _, _, _ => .nil
  | _ + 1, _, _, .nil => .nil
  | n + 1, _, _, .cons h1 h2 => .cons h1 (DpAll.take n h2)
theorem DpAll.rev {K : PySem.W.Frag} {H : Hp} : ∀ {vs : List V} {ds : List PyData}, DpAll K H vs ds → DpAll K H vs.reverse ds.reverse
  | _, _, .nil => .nil
  | _, _, .cons h1 h2 => by
    rw [List.reverse_cons, List.reverse_cons]
    exact DpAll.snoc h1 (DpAll.rev h2)
theorem DpAll.ints {K : PySem.W.Frag} {H : Hp} : ∀ ns : List Int, DpAll K H (ns.map V.int) (ns.map PyData.int)
  | [] => .nil
  | n :: ns => .cons (.int n) (DpAll.ints ns)
theorem DpAll.of_ints {K : PySem.W.Frag} {H : Hp} : ∀ {ns : List Int} {vs : List V}, DpAll K H vs (ns.map PyData.int) → vs = ns.map V.int
  | [], _, .nil => rfl
  | n :: ns, _, .cons (.int _) h => by rw [DpAll.of_ints h]; rfl
theorem DpAll.of_strs {K : PySem.W.Frag} {H : Hp} : ∀ {ns : List Str} {vs : List V}, DpAll K H vs (ns.map PyData.str) → vs = ns.map V.str
  | [], _, .nil => rfl
  | n :: ns, _, .cons (.str _) h => by rw [DpAll.of_strs h]; rfl
theorem Dp.tupE {K : PySem.W.Frag} {H : Hp} {v : V} {ds : List PyData} (h : Dp K H v (.tuple ds)) : ∃ b xs, v = .ref b ∧ SqT K H b xs ∧ DpAll K H xs ds := by
  cases h with
  | tup hs ha => exact ⟨_, _, rfl, hs, ha⟩
theorem Dp.lstE {K : PySem.W.Frag} {H : Hp} {v : V} {ds : List PyData} (h : Dp K H v (.list ds)) : ∃ b xs, v = .ref b ∧ SqL K H b xs ∧ DpAll K H xs ds := by
  cases h with
  | lst hs ha => exact ⟨_, _, rfl, hs, ha⟩

/-! ### what can be shown, how deep and how long it is -/
structure Sh (d : PyData) (dp n : Nat) : Prop where
  ok : d.showable = true
  nd : d.hasDict = false
  dep : d.depth ≤ dp
  len : d.shown.length ≤ n
theorem Sh.mono {d : PyData} {a b n m : Nat} (h : Sh d a n) (h1 : a ≤ b) (h2 : n ≤ m) : Sh d b m := ⟨h.ok, h.nd, Nat.le_trans h.dep h1, Nat.le_trans h.len h2⟩
theorem Sh.all {dp n : Nat} : ∀ {ds : List PyData}, (∀ d ∈ ds, Sh d dp n) → PyData.showableAll ds = true ∧ PyData.hasDictAll ds = false ∧
    PyData.depthAll ds ≤ dp ∧ ((PyData.shownAll ds).map (·.length)).sum ≤ ds.length * n ∧ (PyData.shownAll ds).length = ds.length
  | [], _ => ⟨rfl, rfl, Nat.zero_le _, Nat.zero_le _, rfl⟩
  | d :: ds, h => by
    obtain ⟨h1, h2, h3, h4, h5⟩ := Sh.all (ds := ds) fun e he => h e (List.mem_cons_of_mem _ he)
    have q := h d List.mem_cons_self
    refine ⟨?_, ?_, ?_, ?_, ?_⟩
    · show (d.showable && PyData.showableAll ds) = true
      rw [q.ok, h1]
      rfl
    · show (d.hasDict || PyData.hasDictAll ds) = false
      rw [q.nd, h2]
      rfl
    · show max d.depth (PyData.depthAll ds) ≤ dp
      exact Nat.max_le.mpr ⟨q.dep, h3⟩
    · show (d.shown.length :: ((PyData.shownAll ds).map (·.length))).sum ≤ (d :: ds).length * n
      rw [List.sum_cons, List.length_cons, Nat.succ_mul]
      have := q.len
      omega
    · show (PyData.shownAll ds).length + 1 = ds.length + 1
      rw [h5]
theorem Sh.tuple {dp n m : Nat} {ds : List PyData} (h : ∀ d ∈ ds, Sh d dp n) (hm : ds.length ≤ m) : Sh (.tuple ds) (dp + 1) (m * n + 2 * m + 3) := by
  obtain ⟨h1, h2, h3, h4, h5⟩ := Sh.all h
  refine ⟨by simpa [PyData.showable] using h1, by simpa [PyData.hasDict] using h2, by simpa [PyData.depth] using h3, ?_⟩
  have e : (PyData.shown (.tuple ds)) = tupleText (PyData.shownAll ds) := by simp only [PyData.shown]
  rw [e]
  have l := tupleText_len_le (PyData.shownAll ds)
  rw [h5] at l
  have : ds.length * n ≤ m * n := Nat.mul_le_mul_right n hm
  omega
theorem Sh.list {dp n m : Nat} {ds : List PyData} (h : ∀ d ∈ ds, Sh d dp n) (hm : ds.length ≤ m) : Sh (.list ds) (dp + 1) (m * n + 2 * m + 3) := by
  obtain ⟨h1, h2, h3, h4, h5⟩ := Sh.all h
  refine ⟨by simpa [PyData.showable] using h1, by simpa [PyData.hasDict] using h2, by simpa [PyData.depth] using h3, ?_⟩
  have e : (PyData.shown (.list ds)) = listText (PyData.shownAll ds) := by simp only [PyData.shown]
  rw [e]
  have l := listText_len_le (PyData.shownAll ds)
  rw [h5] at l
  have : ds.length * n ≤ m * n := Nat.mul_le_mul_right n hm
  omega
theorem Sh.non : Sh .none 0 4 := ⟨rfl, rfl, Nat.le_refl _, by decide +kernel⟩
theorem Sh.bl (b : Bool) : Sh (.bool b) 0 5 := ⟨rfl, rfl, Nat.le_refl _, by cases b <;> decide +kernel⟩
theorem Sh.word {y : Str} (h : Word y) : Sh (.str y) 0 82 := by
  refine ⟨rfl, rfl, Nat.le_refl _, ?_⟩
  have e : (PyData.shown (.str y)) = reprText y := by simp only [PyData.shown]
  rw [e]
  have l := StrLaws.reprText_len y fun c hc => Nat.lt_of_le_of_lt (h.low c hc).2 (by decide)
  have := h.eight
  omega
/-- a number of at most 1920 bits -/
theorem Sh.intB {i : Int} {k : Nat} (hk : 0 < k) (h : i.natAbs.log2 < k) (hk2 : k ≤ 1920) : Sh (.int i) 0 (k + 1) := by
  refine ⟨decide_eq_true (Nat.lt_of_lt_of_le h hk2), rfl, Nat.le_refl _, ?_⟩
  have e : (PyData.shown (.int i)) = Str.ofString (toString i) := by simp only [PyData.shown]
  rw [e, PySem.ofString_length]
  exact int_text_length_le hk h
theorem Sh.int {i : Int} (h0 : 0 ≤ i) (h : i < 2 ^ 64) : Sh (.int i) 0 65 := by
  refine Sh.intB (k := 64) (by decide) ?_ (by decide)
  by_cases z : i.natAbs = 0
  · rw [z]; decide
  · exact (Nat.log2_lt z).mpr (by omega)
end PK
namespace PK
open PySem PySem.Spec PyProof.Rows L2

/-! ### wants, ways, rows, sheets as data -/
abbrev Want := Str × List Str × Int
abbrev Way := List Want
abbrev Row := List Way
abbrev Sheet := List Row
structure WantOk (x : Want) : Prop where
  form : Word x.1
  shades : ∀ y ∈ x.2.1, Word y
  few : x.2.1.length ≤ 8
  one : 1 ≤ x.2.2
  most : x.2.2 ≤ 1000000000
structure WayOk (n : Nat) (x : Way) : Prop where
  len : x.length ≤ n
  each : ∀ y ∈ x, WantOk y
structure RowOk (n : Nat) (x : Row) : Prop where
  some : 1 ≤ x.length
  len : x.length ≤ 3
  each : ∀ y ∈ x, WayOk n y
structure SheetOk (m n : Nat) (x : Sheet) : Prop where
  len : x.length ≤ m
  each : ∀ y ∈ x, RowOk n y
theorem flatTs_of {ds : List PyData} : (∀ d ∈ ds, flatT d = true) → flatTs ds = true := by
  induction ds with
  | nil => intro _; rfl
  | cons d ds ih =>
    intro h
    show (flatT d && flatTs ds) = true
    rw [h d List.mem_cons_self, ih fun e he => h e (List.mem_cons_of_mem _ he)]
    rfl
theorem flat_map {α : Type} {f : α → PyData} (hf : ∀ x, flatT (f x) = true) (l : List α) : flatTs (l.map f) = true :=
  flatTs_of fun d hd => by
    obtain ⟨x, _, rfl⟩ := List.mem_map.mp hd
    exact hf x
/-! ### all choices: two ways to count them -/
/-- as the program does it -/
def grow (told : List (List Int)) (L : Nat) : List (List Int) := told.flatMap fun c => (List.range L).map fun (p : Nat) => c ++ [((p : Nat) : Int)]
end PK
namespace PK
open PySem PySem.Spec PyProof.Rows L2
/-- a list of words at p, some of them -/
structure Words (H : Hp) (p : Addr) (ws : List Str) : Prop where
  at_ : H p = some (.lst (ws.map V.str))
  some : ws ≠ []
  few : ws.length ≤ 8
  each : ∀ y ∈ ws, Word y
theorem Words.ext {H H' : Hp} {a c p : Addr} {ws : List Str} (w : Words H p ws) (f : IsFeed H a c) (x : Ext a H H') : Words H' p ws := by
  obtain ⟨cs, i, l, n, f⟩ := f
  exact ⟨x p _ w.at_ (ne_of w.at_ f.d (by intro z; cases z)), w.some, w.few, w.each⟩
theorem Words.new {H : Hp} {p q : Addr} {o : HO} {ws : List Str} (w : Words H p ws) (nq : H q = none) : Words (upd H q o) p ws :=
  ⟨by rw [upd_ne (ne_of_none w.at_ nq)]; exact w.at_, w.some, w.few, w.each⟩
theorem Words.same {H H' : Hp} {p : Addr} {ws : List Str} (w : Words H p ws) (x : Same H H') : Words H' p ws := ⟨x _ _ w.at_, w.some, w.few, w.each⟩
theorem Words.own {H : Hp} {p q : Addr} {o : HO} {ws : List Str} (w : Words H p ws) (ne : p ≠ q) : Words (upd H q o) p ws :=
  ⟨by rw [upd_ne ne]; exact w.at_, w.some, w.few, w.each⟩
theorem Words.pos {H : Hp} {p : Addr} {ws : List Str} (w : Words H p ws) : 0 < ws.length := by
  cases h : ws with
  | nil => exact absurd h w.some
  | cons _ _ => simp
end PK
namespace PK
open PySem PySem.Spec PyProof.Rows L2
/-- one more behind data of a list, the tuples kept -/
theorem dp_snoc {α : Type} {f : α → PyData} {K : PySem.W.Frag} {H H' : Hp} {vs : List V} {xs : List α} {v : V} {x : α} (hf : ∀ x, flatT (f x) = true) (h : DpAll K H vs (xs.map f)) (t : TKeep H H') (hv : Dp K H' v (f x)) :
    DpAll K H' (vs ++ [v]) ((xs ++ [x]).map f) := by
  rw [List.map_append]
  exact DpAll.snoc hv (DpAll.keepT t (flat_map hf xs) h)
theorem dp_move {α : Type} {f : α → PyData} {K : PySem.W.Frag} {H H' : Hp} {vs : List V} {xs : List α} (hf : ∀ x, flatT (f x) = true) (h : DpAll K H vs (xs.map f)) (t : TKeep H H') :
    DpAll K H' vs (xs.map f) := DpAll.keepT t (flat_map hf xs) h
theorem dp_lenM {α : Type} {f : α → PyData} {K : PySem.W.Frag} {H : Hp} {vs : List V} {xs : List α} (h : DpAll K H vs (xs.map f)) : vs.length = xs.length := by
  rw [DpAll.len h, List.length_map]
end PK
namespace PK
open PySem PySem.Spec PyProof.Rows L2
/-! ### places in the text -/
theorem take_snoc {α : Type} {l : List α} {i : Nat} {x : α} (h : l[i]? = some x) : l.take (i + 1) = l.take i ++ [x] := by
  rw [List.take_add_one, h]
  rfl
end PK
/-! The rules with the written part K said: within a comprehension the block's own context is not named. -/
namespace PK
open PySem PySem.Spec PyProof.Rows L2
def rTupOf (K : PySem.W.Frag) : List V → Hp → VK → Prop := fun xs H Q => ∃ p ys, xs = [.ref p] ∧
  ((SqL K H p ys ∧ ∀ l, H l = none → Q (.ref l) (upd H l (.tup ys))) ∨ (SqT K H p ys ∧ Q (.ref p) H))
def rLenOf (K : PySem.W.Frag) : List V → Hp → VK → Prop := fun xs H Q => ∃ p ys, xs = [.ref p] ∧ (SqL K H p ys ∨ SqT K H p ys) ∧ Q (.int ys.length) H
def rListOf (K : PySem.W.Frag) : List V → Hp → VK → Prop := fun xs H Q => ∃ p ys, xs = [.ref p] ∧ (SqL K H p ys ∨ SqT K H p ys) ∧
  ∀ l, H l = none → Q (.ref l) (upd H l (.lst ys))
section
variable {X : Cx} (K : PySem.W.Frag)
theorem k_tup (hK : X.K = K := by rfl) : CallR X (.type "tuple") (rTupOf K) := by subst hK; exact call_tuple_of
theorem k_len (hK : X.K = K := by rfl) : CallR X (.builtin "len") (rLenOf K) := by subst hK; exact call_len_seq
theorem k_list (hK : X.K = K := by rfl) : CallR X (.type "list") (rListOf K) := by subst hK; exact call_list_of
theorem k_sum (hc : X.calm = true) (hK : X.K = K := by rfl) : CallR X (.builtin "sum") (rSum K) := by subst hK; exact cr_sum hc
theorem kx_list (hK : X.K = K := by rfl) : IxR X (rIxL K) := by subst hK; exact ix_list
theorem ks_list (hK : X.K = K := by rfl) : SlR X (rSlL K) := by subst hK; exact sl_list
theorem ks_tup (hK : X.K = K := by rfl) : SlR X (rSlA K) := by subst hK; exact sl_tupA
theorem ko_catA (hK : X.K = K := by rfl) : OpR X (binaryOp .Add) (rCatA K) := by subst hK; exact op_catA
theorem ko_neNil {k : Nat} (hr : Room k X.A) (hK : X.K = K := by rfl) : OpR X (compareOp .NotEq) (rNeNil K) := by subst hK; exact op_neNil hr
theorem ko_eqD {k : Nat} (hr : Room k X.A) (hK : X.K = K := by rfl) : OpR X (compareOp .Eq) (rEqD K) := by subst hK; exact op_eqD hr.units
theorem ko_neD {k : Nat} (hr : Room k X.A) (hK : X.K = K := by rfl) : OpR X (compareOp .NotEq) (rNeD K) := by subst hK; exact op_neD hr.units
theorem pk_list {tg l : Expr} {tl : TE} (hl : PE X l tl) (hK : X.K = K := by rfl) : PI X tg l (iList K tl) := by subst hK; exact pi_list hl
theorem pk_tup {tg l : Expr} {tl : TE} (hl : PE X l tl) (hK : X.K = K := by rfl) : PI X tg l (iTup K tl) := by subst hK; exact pi_tup hl
theorem pgk_tup {es : List Expr} {k n : Nat} {t : TGs} {pos : Pos} (hc : X.calm = true) (h : PGs X es t) (hK : X.K = K := by rfl)
    (hn : (assignEach es X.env).length = n := by rfl) (hst : (assignEach es X.env).findIdx? (·.1) = none := by rfl) : PG X (.Tuple es k pos) (gTup K n t) := by
  subst hK; exact pg_tup hc h hn hst
end
end PK
namespace PK
open PySem PySem.Spec PyProof.Rows L2
section
open PySem.SeqAt
open PySem.AutoSeq1 (wpAny_loadPart')
open PySem.MeetsSeq PySem.MeetsSeq2 PySem.MeetsSeq3
end
end PK
namespace PK
open PySem PySem.Spec PyProof.Rows L2 RZ
section
variable {J J1 : It} {n n1 : Nat} {G G1 : Hp → Prop} {Y Y1 : Nat → Hp → V → Hp → Prop}
end
end PK
/-! Defs with defaults, called by places and by names. -/
namespace PK
open PySem PySem.Spec PyProof.Rows L2 RZ
theorem fund_mk {K : PySem.W.Frag} {x qual : Str} {st : Stmt} {f T : Addr} {oc : Value} {od an : Option Addr} {osl : Array (Option Value)} {kV doc pm cdv ct : Value} {o : Obj} {its : List Value} {n : Nat} {dvs : List V}
    (l : K.lookup f = some ⟨oc, od, .func (PySem.W.fnOf x qual (defArgs st) (defBody st) (defScope st) (.ref T) kV doc pm an cdv ct), osl⟩)
    (c : PySem.W.codeIn K cdv qual = true) (k : PySem.W.keepIn K (.ref f) = true) (lT : K.lookup T = some o) (oT : o.data = .seq its.toArray n) (r : Vals dvs its) (hd : dvs ≠ []) :
    FunD K x qual (defArgs st) (defBody st) (defScope st) dvs [] f (PySem.W.fnOf x qual (defArgs st) (defBody st) (defScope st) (.ref T) kV doc pm an cdv ct) :=
  ⟨⟨oc, od, .ref T, kV, doc, pm, an, cdv, ct, osl, rfl, l, c, Or.inr ⟨hd, T, o, its, n, rfl, lT, oT, r⟩, Or.inl rfl⟩, k⟩
/-- how such a call binds: n values by their places, ks the names of the others -/
def KB (K : PySem.W.Frag) (fd : FuncData) (ps : List Str) (n : Nat) (ks : List Str) (gV : List V → List V → List V) : Prop :=
  ∃ g : List Value → List Value → List Value, KBn K fd ps n ks g gV
theorem kb_of {K : PySem.W.Frag} {x qual : Str} {params : Arguments} {body : List Stmt} {scope : Scope} {dvs : List V} {f : Addr} {fd : FuncData} {ps : List Str}
    (F : FunD K x qual params body scope dvs [] f fd) (n : Nat) (ks : List Str) (g : {α : Type} → List α → List α → List α → List α) (hd : dvs ≠ [])
    (hrel : ∀ {vs ds zs : List V} {us its ws : List Value}, Vals vs us → Vals ds its → Vals zs ws → Vals (g vs ds zs) (g us its ws))
    (h : ∀ (T : Addr) (kV doc pm : Value) (an : Option Addr) (cdv ct : Value) (us its ws : List Value), us.length = n → its.length = dvs.length → ws.length = ks.length →
      (∃ k, bindArgs (PySem.W.fnOf x qual params body scope (.ref T) kV doc pm an cdv ct) ⟨us, ks.zip ws⟩ = seqItems? (.ref T) >>= k ∧ k (some its.toArray) = pure (ps.zip (g us its ws)))) :
    KB K fd ps n ks (fun vs zs => g vs dvs zs) := by
  obtain ⟨oc, od, dV, kV, doc, pm, an, cdv, ct, osl, rfl, lk, hcd, hD, hK⟩ := F.ex
  rcases hD with ⟨e, _⟩ | ⟨_, T, o, its, m, rfl, lT, oT, rT⟩
  · exact absurd e hd
  · refine ⟨fun us ws => g us its ws, fun s us ws X l1 l2 => ?_, fun r1 r2 => hrel r1 rT r2⟩
    obtain ⟨k, e1, e2⟩ := h T kV doc pm an cdv ct us its ws l1 rT.length.symm l2
    refine BindsTo.of_looks fun M => ?_
    rw [e1]
    exact looks_items X lT oT (PySem.W.Looks.of_pure e2)
section
variable {X : Cx} {CX : CXT} {k n : Nat} {f : Addr} {fd : FuncData} {ps ks : List Str} {sp : Sp} {E : XK} {x : Str} {p pos : Pos} {e : Expr} {es : List Expr} {kws : List Keyword} {t tk : TA} {gV : List V → List V → List V}
end
structure CalD (P : Program) (w : World) (K : PySem.W.Frag) (mg : Str → Option Value) (base : Heap) (k : Nat) (x : Str) (f : Addr)
    (fd : FuncData) (ps : List Str) (sp : Sp) : Prop where
  ok : FnOk P w K mg base CX0 k f fd ps sp
  g : mg x = some (.ref f)
  kp : PySem.W.keepIn K (.ref f) = true
/-! ### lengths of choices -/
theorem SheetOk.mono {a b c d : Nat} {x : Sheet} (h : SheetOk a b x) (h1 : a ≤ c) (h2 : b ≤ d) : SheetOk c d x :=
  ⟨Nat.le_trans h.len h1, fun r hr => ⟨(h.each r hr).some, (h.each r hr).len, fun w hw => ⟨Nat.le_trans ((h.each r hr).each w hw).len h2, ((h.each r hr).each w hw).each⟩⟩⟩
/-- the rule for a def that shows things and lets no exception out -/
theorem funG_ok {P : Program} {w : World} {K : PySem.W.Frag} {mg : Str → Option Value} {base : Heap} {k : Nat} {f : Addr} {fd : FuncData}
    {x qual : Str} {st : Stmt} {N ps : List Str} {sp : Sp} (F : Fun K x qual st f fd) (S : FnScope N ps (defScope st))
    (len : ∀ vs H Q E, sp vs H Q E → vs.length = ps.length)
    (hbody : ∀ (cdv : Value) (A : Around) (outer : List Env) (s : Shared) (H : Hp) (vs : List V) (Q : VK) (E : XK), A.guards = some [] →
      Room k (A.deeper (envOfC qual (defScope st) s.heap.objs.size f cdv)) → sp vs H Q E →
      ∃ t, PSs (cxOf CX0 P w K mg base N qual (defScope st) f cdv A outer s H E).nox (defBody st) t ∧
        t { nx := fun _ H' => Q .non H', rt := Q } (start N vs) H) : FnG P w K mg base CX0 (k + 1) f fd ps sp :=
  fnG_of F S len fun cdv A outer s H vs Q E hg hr h => by
    obtain ⟨t, ht, hq⟩ := hbody cdv A outer s H vs Q E hg hr h
    exact ⟨t, ht.nox, hq⟩
end PK
/-! The order of data; sorted and min of data; sorted of a dict with tuple keys. -/
namespace PK
open PySem PySem.Spec PyProof.Rows L2
/-! ### the order -/
abbrev dlt : PyData → PyData → Bool := PySem.W.dataLt
mutual
theorem eqv_eq : ∀ (x y : PyData), PySem.W.alike x y = true → PyData.eqv x y = true → x = y
  | .none, y, h, e => by cases y <;> simp [PySem.W.alike] at h <;> rfl
  | .bool _, y, h, e => by cases y <;> simp [PySem.W.alike] at h; simpa [PyData.eqv] using e
  | .int _, y, h, e => by cases y <;> simp [PySem.W.alike] at h; simpa [PyData.eqv] using e
  | .str _, y, h, e => by cases y <;> simp [PySem.W.alike] at h; simpa [PyData.eqv] using e
  | .list xs, y, h, e => by
    cases y with
    | list ys => rw [eqvAll_eq xs ys (by simpa [PySem.W.alike] using h) (by simpa [PyData.eqv] using e)]
    | _ => simp [PySem.W.alike] at h
  | .tuple xs, y, h, e => by
    cases y with
    | tuple ys => rw [eqvAll_eq xs ys (by simpa [PySem.W.alike] using h) (by simpa [PyData.eqv] using e)]
    | _ => simp [PySem.W.alike] at h
  | .dict _, y, h, e => by cases y <;> simp [PySem.W.alike] at h
theorem eqvAll_eq : ∀ (xs ys : List PyData), PySem.W.alikeAll xs ys = true → PyData.eqvAll xs ys = true → xs = ys
  | [], [], _, _ => rfl
  | [], _ :: _, _, e => by simp [PyData.eqvAll] at e
  | _ :: _, [], _, e => by simp [PyData.eqvAll] at e
  | x :: xs, y :: ys, h, e => by
    obtain ⟨h1, h2⟩ := PySem.W.alike_all_cons h
    rw [PySem.W.eqv_all_cons, Bool.and_eq_true] at e
    rw [eqv_eq x y h1 e.1, eqvAll_eq xs ys h2 e.2]
end
mutual
theorem eqv_refl : ∀ (x : PyData), flatT x = true → PyData.eqv x x = true
  | .none, _ => by simp [PyData.eqv]
  | .bool _, _ => by simp [PyData.eqv]
  | .int _, _ => by simp [PyData.eqv]
  | .str _, _ => by simp [PyData.eqv]
  | .list _, h => by simp [flatT] at h
  | .dict _, h => by simp [flatT] at h
  | .tuple xs, h => by
    rw [PyData.eqv]
    exact eqvAll_refl xs (by simpa [flatT] using h)
theorem eqvAll_refl : ∀ (xs : List PyData), flatTs xs = true → PyData.eqvAll xs xs = true
  | [], _ => by simp [PyData.eqvAll]
  | x :: xs, h => by
    have h' : flatT x = true ∧ flatTs xs = true := by simpa [flatTs] using h
    rw [PySem.W.eqv_all_cons, eqv_refl x h'.1, eqvAll_refl xs h'.2]
    rfl
end
theorem eqv_false {x y : PyData} (h : PySem.W.alike x y = true) (e : x ≠ y) : PyData.eqv x y = false := by
  cases q : PyData.eqv x y with
  | false => rfl
  | true => exact absurd (eqv_eq x y h q) e
theorem dlt_irr (x : PyData) : dlt x x = false := PyProof.Rows.lex_irrefl _
theorem dlt_tr {x y z : PyData} (h1 : dlt x y = true) (h2 : dlt y z = true) : dlt x z = true := PyProof.Rows.lex_trans _ _ _ h1 h2
theorem dlt_asym {x y : PyData} (h : dlt x y = true) : dlt y x = false := by
  cases q : dlt y x with
  | false => rfl
  | true =>
    have := dlt_tr h q
    rw [dlt_irr] at this
    cases this
theorem dlt_split {x z : PyData} (y : PyData) (h : dlt x z = true) : dlt x y = true ∨ dlt y z = true := PyProof.Rows.lex_negTrans _ _ _ h
theorem dlt_tot {x y : PyData} (h : PySem.W.alike x y = true) (e : x ≠ y) : dlt x y = true ∨ dlt y x = true := by
  cases q1 : dlt x y with
  | true => exact Or.inl rfl
  | false =>
    cases q2 : dlt y x with
    | true => exact Or.inr rfl
    | false =>
      have et := PyProof.Rows.lex_total _ _ q1 q2
      have f := (PySem.W.toks_eqv x y h).2 (eqv_false h e) [.inl 0] [.inl 1]
      rw [et, PySem.W.lex_pre, PyProof.Rows.lex_irrefl] at f
      exact absurd f (by decide)
/-- rising -/
def Rises (ds : List PyData) : Prop := ds.Pairwise fun x y => dlt x y = true
theorem rises_ext : ∀ {xs ys : List PyData}, Rises xs → Rises ys → (∀ d, d ∈ xs ↔ d ∈ ys) → xs = ys
  | [], [], _, _, _ => rfl
  | [], y :: _, _, _, h => nomatch (h y).mpr List.mem_cons_self
  | x :: _, [], _, _, h => nomatch (h x).mp List.mem_cons_self
  | x :: xs, y :: ys, h1, h2, h => by
    obtain ⟨a1, a2⟩ := List.pairwise_cons.mp h1
    obtain ⟨b1, b2⟩ := List.pairwise_cons.mp h2
    have e : x = y := by
      rcases List.mem_cons.mp ((h x).mp List.mem_cons_self) with q | q
      · exact q
      · rcases List.mem_cons.mp ((h y).mpr List.mem_cons_self) with q2 | q2
        · exact q2.symm
        · have c1 := b1 x q
          have c2 := dlt_asym (a1 y q2)
          rw [c1] at c2
          cases c2
    subst e
    have nx : x ∉ xs := fun q => by
      have := a1 x q
      rw [dlt_irr] at this
      cases this
    have ny : x ∉ ys := fun q => by
      have := b1 x q
      rw [dlt_irr] at this
      cases this
    rw [rises_ext a2 b2 fun d => ⟨fun hd => ?_, fun hd => ?_⟩]
    · rcases List.mem_cons.mp ((h d).mp (List.mem_cons_of_mem _ hd)) with q | q
      · subst q
        exact absurd hd nx
      · exact q
    · rcases List.mem_cons.mp ((h d).mpr (List.mem_cons_of_mem _ hd)) with q | q
      · subst q
        exact absurd hd ny
      · exact q
/-! ### sorted -/
def srt {α : Type} (rev : Bool) (k : α → PyData) (bs : List α) : List α := bs.mergeSort (PySem.W.dataLe rev k)
theorem srt_perm {α : Type} (rev : Bool) (k : α → PyData) (bs : List α) : (srt rev k bs).Perm bs := List.mergeSort_perm _ _
theorem srt_up {α : Type} (k : α → PyData) (bs : List α) : (srt false k bs).Pairwise fun x y => dlt (k y) (k x) = false := by
  have tr : ∀ a b c : α, PySem.W.dataLe false k a b = true → PySem.W.dataLe false k b c = true → PySem.W.dataLe false k a c = true := by
    intro a b c h1 h2
    rw [PySem.W.dataLe_eq] at h1 h2 ⊢
    simp only [cond_false, Bool.not_eq_true'] at h1 h2 ⊢
    cases q : PySem.W.dataLt (k c) (k a) with
    | false => rfl
    | true =>
      rcases dlt_split (k b) q with z | z
      · rw [show PySem.W.dataLt (k c) (k b) = true from z] at h2
        cases h2
      · rw [show PySem.W.dataLt (k b) (k a) = true from z] at h1
        cases h1
  have tot : ∀ a b : α, (PySem.W.dataLe false k a b || PySem.W.dataLe false k b a) = true := by
    intro a b
    rw [PySem.W.dataLe_eq]
    simp only [cond_false]
    cases q : PySem.W.dataLt (k b) (k a) with
    | false => rfl
    | true =>
      have := dlt_asym q
      rw [show PySem.W.dataLt (k a) (k b) = false from this]
      rfl
  refine (List.pairwise_mergeSort tr tot bs).imp fun {a b} h => ?_
  rw [PySem.W.dataLe_eq] at h
  simpa using h
/-- alike, all different: strictly rising -/
theorem srt_rises {α : Type} {k : α → PyData} {bs : List α} (ha : PySem.W.AllAlike (bs.map k)) (hn : (bs.map k).Nodup) : Rises ((srt false k bs).map k) := by
  have p := (srt_perm false k bs).map k
  have hn' : ((srt false k bs).map k).Nodup := p.nodup_iff.mpr hn
  have up : ((srt false k bs).map k).Pairwise fun x y => dlt y x = false := List.pairwise_map.mpr (srt_up k bs)
  have ha' : PySem.W.AllAlike ((srt false k bs).map k) := fun d hd e he => ha d (p.mem_iff.mp hd) e (p.mem_iff.mp he)
  generalize (srt false k bs).map k = ds at hn' up ha'
  have both : ds.Pairwise fun x y => x ≠ y ∧ dlt y x = false := by
    have := hn'
    unfold List.Nodup at this
    exact List.pairwise_and_iff.mpr ⟨this, up⟩
  clear up hn'
  unfold Rises
  induction ds with
  | nil => exact List.Pairwise.nil
  | cons d ds ih =>
    obtain ⟨h1, h2⟩ := List.pairwise_cons.mp both
    refine List.pairwise_cons.mpr ⟨fun e he => ?_, ih (fun a h b h' => ha' a (List.mem_cons_of_mem _ h) b (List.mem_cons_of_mem _ h')) h2⟩
    obtain ⟨q1, q2⟩ := h1 e he
    rcases dlt_tot (ha' d List.mem_cons_self e (List.mem_cons_of_mem _ he)) q1 with z | z
    · exact z
    · rw [z] at q2
      cases q2
/-! ### the rules -/
structure Cmpb (ds : List PyData) : Prop where
  al : PySem.W.AllAlike ds
  so : PySem.W.Sortable ds
  dp : ∀ d ∈ ds, d.depth ≤ 90
theorem dp_pairs {K : PySem.W.Frag} {H : Hp} : ∀ {bs : List (V × PyData)}, (∀ b ∈ bs, Dp K H b.1 b.2) → DpAll K H (bs.map (·.1)) (bs.map (·.2))
  | [], _ => .nil
  | b :: bs, h => .cons (h b List.mem_cons_self) (dp_pairs fun c hc => h c (List.mem_cons_of_mem _ hc))
theorem dp_zip {K : PySem.W.Frag} {H : Hp} : ∀ {xs : List V} {ds : List PyData}, DpAll K H xs ds → (∀ b ∈ xs.zip ds, Dp K H b.1 b.2) ∧ (xs.zip ds).map (·.1) = xs ∧ (xs.zip ds).map (·.2) = ds
  | _, _, .nil => ⟨fun _ h => (nomatch h), rfl, rfl⟩
  | x :: xs, d :: ds, .cons h1 h2 => by
    obtain ⟨a, b, c⟩ := dp_zip h2
    refine ⟨fun p hp => ?_, ?_, ?_⟩
    · rcases List.mem_cons.mp hp with rfl | q
      · exact h1
      · exact a p q
    · show x :: (xs.zip ds).map (·.1) = _
      rw [b]
    · show d :: (xs.zip ds).map (·.2) = _
      rw [c]
theorem each_vals {bs : List (V × PyData)} : ∀ {us : List Value}, Vals (bs.map (·.1)) us → PySem.W.EachIs (fun v b => RelV b.1 v) us bs := by
  induction bs with
  | nil =>
    intro us r
    cases r
    exact .nil
  | cons b bs ih =>
    intro us r
    cases r with
    | cons r1 r2 => exact .cons r1 (ih r2)
theorem vals_each {bs : List (V × PyData)} : ∀ {us : List Value}, PySem.W.EachIs (fun v b => RelV b.1 v) us bs → Vals (bs.map (·.1)) us
  | _, .nil => .nil
  | _, .cons r1 r2 => .cons r1 (vals_each r2)
theorem each_reads {X : Cx} {pins : List (Addr × Obj)} {σ : L2.St} {H : Hp} {s : Shared} (I : Inv X pins σ H s) : ∀ {bs : List (V × PyData)} {us : List Value}, PySem.W.EachIs (fun v b => RelV b.1 v) us bs → (∀ b ∈ bs, Dp X.K H b.1 b.2) →
    PySem.W.EachIs (fun v (b : V × PyData) => ∃ as, Reads s.heap v b.2 as) us bs
  | _, _, .nil, _ => .nil
  | _, _, .cons r1 r2, h => .cons (Dp.reads I _ _ _ (h _ List.mem_cons_self) r1) (each_reads I r2 fun b hb => h b (List.mem_cons_of_mem _ hb))
theorem vals_back : ∀ {xs : List V} {us : List Value} {i : Nat} {u : Value}, Vals xs us → us[i]? = some u → ∃ x, xs[i]? = some x ∧ RelV x u
  | _, _, _, _, .nil, h => by simp at h
  | x :: _, _, 0, u, .cons r _, h => ⟨x, rfl, by
    have e := Option.some.inj h
    rw [← e]; exact r⟩
  | _, _, i + 1, _, .cons _ r, h => by
    obtain ⟨x, e, q⟩ := vals_back (i := i) r (by simpa using h)
    exact ⟨x, by simpa using e, q⟩
section
variable {X : Cx}
theorem depthAll_le {n : Nat} : ∀ {ds : List PyData}, (∀ d ∈ ds, d.depth ≤ n) → PyData.depthAll ds ≤ n
  | [], _ => Nat.zero_le _
  | d :: ds, h => Nat.max_le.mpr ⟨h d List.mem_cons_self, depthAll_le fun e he => h e (List.mem_cons_of_mem _ he)⟩
theorem minD_at : ∀ (ds : List PyData) (d : PyData), (PySem.W.minD d ds = d ∨ PySem.W.minD d ds ∈ ds) ∧ dlt d (PySem.W.minD d ds) = false ∧ ∀ e ∈ ds, dlt e (PySem.W.minD d ds) = false
  | [], d => ⟨Or.inl rfl, dlt_irr d, fun _ h => (nomatch h)⟩
  | e :: ds, d => by
    show (PySem.W.minD (if dlt e d then e else d) ds = d ∨ _) ∧ _
    have ee : PySem.W.minD d (e :: ds) = PySem.W.minD (if dlt e d then e else d) ds := rfl
    rw [ee]
    cases q : dlt e d with
    | true =>
      obtain ⟨h1, h2, h3⟩ := minD_at ds e
      refine ⟨Or.inr ?_, ?_, fun f hf => ?_⟩
      · rcases h1 with z | z
        · show PySem.W.minD e ds ∈ _
          rw [z]; exact List.mem_cons_self
        · exact List.mem_cons_of_mem _ z
      · show dlt d (PySem.W.minD e ds) = false
        cases z : dlt d (PySem.W.minD e ds) with
        | false => rfl
        | true =>
          have := dlt_tr q z
          rw [h2] at this
          cases this
      · rcases List.mem_cons.mp hf with rfl | hf
        · exact h2
        · exact h3 f hf
    | false =>
      obtain ⟨h1, h2, h3⟩ := minD_at ds d
      refine ⟨?_, h2, fun f hf => ?_⟩
      · rcases h1 with z | z
        · exact Or.inl z
        · exact Or.inr (List.mem_cons_of_mem _ z)
      · rcases List.mem_cons.mp hf with rfl | hf
        · show dlt f (PySem.W.minD d ds) = false
          cases z : dlt f (PySem.W.minD d ds) with
          | false => rfl
          | true =>
            rcases dlt_split d z with y | y
            · rw [q] at y; cases y
            · rw [h2] at y; cases y
        · exact h3 f hf
/-! ### a dict with tuple keys -/
def kD : Key → PyData
  | .inl i => .int i
  | .inr x => .str x
theorem dp_key {K : PySem.W.Frag} {H : Hp} : ∀ k : Key, Dp K H (kV k) (kD k)
  | .inl i => .int i
  | .inr x => .str x
theorem dp_keys {K : PySem.W.Frag} {H : Hp} : ∀ ks : List Key, DpAll K H (ks.map kV) (ks.map kD)
  | [] => .nil
  | k :: ks => .cons (dp_key k) (dp_keys ks)
abbrev tkD (k : List Key) : PyData := .tuple (k.map kD)
/-- sorted(d) of a dict whose keys are tuples -/
def rSrtT : List V → Hp → VK → Prop := fun vs H Q => ∃ (a : Addr) (kvs : List (List Key × V)), vs = [.ref a] ∧ Rd H a (.dT kvs) ∧ Cmpb (kvs.map fun p => tkD p.1) ∧
  ∀ (p : Addr) (L : List (V × PyData)), H p = none → (∃ bs : List Addr, IsKeys H kvs bs ∧ L = srt false (·.2) ((bs.map V.ref).zip (kvs.map fun p => tkD p.1))) → Q (.ref p) (upd H p (.lst (L.map (·.1))))
theorem keys_dp {K : PySem.W.Frag} {H : Hp} : ∀ {kvs : List (List Key × V)} {bs : List Addr}, IsKeys H kvs bs → DpAll K H (bs.map V.ref) (kvs.map fun p => tkD p.1)
  | _, _, .nil => .nil
  | p :: _, b :: _, .cons h t => .cons (.tup (SqT.of h) (dp_keys p.1)) (keys_dp t)
theorem call_srtT {k : Nat} (hcalm : X.calm = true) (hr : Room k X.A) : CallR X (.builtin "sorted") rSrtT := by
  intro pins s σ H xs us Q I r h
  obtain ⟨a, kvs, rfl, hd, hc, q⟩ := h
  rw [Vals.ref1 r]
  obtain ⟨z, hs, ks, pr, o, es, ep, ho, hx, hdt, he, hn⟩ := (show ObjOk X.prog X.w H s.heap a (.dT kvs) from hd.ok I.hok)
  have l1 : es.size = ks.length := size_of_entries he
  have l2 : kvs.length = ks.length := Paired.length pr
  have hu := hr.un
  refine Calls.call_function_entry PyProof.Rows.kind_sorted PyProof.Rows.plain_sorted PyProof.Rows.entry_sorted (PyProof.Rows.args_sorted1 _) ?_
  unfold Builtin.«sorted»
  refine wpAny_bind (m := checkCount "sorted" 1 1 _) (wpAny_pure ?_)
  refine wpAny_bind (PySem.W.kdu_collect (A := X.A.in1) (kdl_raw hs hx hdt) (I.ok.hd hcalm) ho (by omega) fun h' tk acc' kp it => ?_)
  have ea : acc'.toList = ks.map fun x => Value.ref x.2.1 := items_out (by rw [List.length_map, ← l1]; exact it) fun j v => by
    rintro ⟨en, hen, rfl⟩
    obtain ⟨b, hb, e2⟩ := Option.map_eq_some_iff.mp ((entry_at he j).symm.trans hen)
    rw [List.getElem?_map, hb, ← e2]
    rfl
  have eb : acc'.toList = (ks.map fun x => x.2.1).map Value.ref := by rw [ea, List.map_map]; all_goals rfl
  have rv : Vals ((ks.map fun x => x.2.1).map V.ref) acc'.toList := by rw [eb]; exact vals_refs _
  have ik := isKeys_of pr
  have hdp : DpAll X.K H ((ks.map fun x => x.2.1).map V.ref) (kvs.map fun p => tkD p.1) := keys_dp ik
  obtain ⟨z1, z2, z3⟩ := dp_zip hdp
  have I1 : Inv X pins σ H { s with heap := h', toks := tk } := I.kept kp
  have hal : acc'.toList.length = ks.length := by rw [Array.length_toList, it.1]; exact l1
  refine wpAny_bind (wpAny_newList ?_ (by omega))
  have hoL : (h'.push (seqObj "list" acc'.toList.toArray 0)).get? h'.objs.size = some (seqObj "list" acc'.toList.toArray 0) := Heap.get?_push_size _ rfl
  show wpAny _ _ _ _ _ { s with heap := h'.push (seqObj "list" acc'.toList.toArray 0), toks := tk }
  have e : PySem.W.EachIs (fun v (b : V × PyData) => RelV b.1 v) acc'.toList (((ks.map fun x => x.2.1).map V.ref).zip (kvs.map fun p => tkD p.1)) := each_vals (by rw [z2]; exact rv)
  have er := each_reads I1 e z1
  generalize hB : ((ks.map fun x => x.2.1).map V.ref).zip (kvs.map fun p => tkD p.1) = B at z1 z2 z3 e er
  have al : PySem.W.AllAlike (B.map fun b : V × PyData => b.2) := by rw [z3]; exact hc.al
  have so : PySem.W.Sortable (B.map fun b : V × PyData => b.2) := by rw [z3]; exact hc.so
  have er' : PySem.W.EachIs (fun v (b : V × PyData) => ∃ as, Reads (PySem.W.sortingHeap (h'.push (seqObj "list" acc'.toList.toArray 0)) h'.objs.size acc'.toList) v b.2 as) acc'.toList B :=
    er.mono fun v b ⟨as, rd⟩ => ⟨as, PyProof.Rows.Reads.keeps (fun b o eo => PySem.W.sortingHeap_old (Nat.ne_of_lt (Heap.lt_size eo)) (Heap.get?_push_of_some _ eo)) rd⟩
  refine wpAny_bind (wpAny_holding (wpAny_call_entry PyProof.Rows.slot_list_sort ⟨_, hoL, rfl⟩ PyProof.Rows.entry_list_sort
    (PySem.W.list_sort_vals (κ := PySem.W.dataKind (PySem.W.sortingHeap (h'.push (seqObj "list" acc'.toList.toArray 0)) h'.objs.size acc'.toList) (B.map fun b : V × PyData => b.2)) (s := { s with heap := h'.push (seqObj "list" acc'.toList.toArray 0), toks := tk }) hoL
      (PySem.W.SortsAt.data (s := { s with heap := PySem.W.sortingHeap (h'.push (seqObj "list" acc'.toList.toArray 0)) h'.objs.size acc'.toList, toks := tk })
        (PySem.W.each_map (R := fun v d => ∃ as, Reads (PySem.W.sortingHeap (h'.push (seqObj "list" acc'.toList.toArray 0)) h'.objs.size acc'.toList) v d as) (fun b : V × PyData => b.2) er') al so
        (PySem.W.bound_map fun b hb => by
          have := hc.dp b.2 (by rw [← z3]; exact List.mem_map.mpr ⟨b, hb, rfl⟩)
          show X.A.units + 2 + _ < _
          omega)) (by omega) ⟨_, rfl, ?_⟩)
    (PyProof.Rows.args_list_sort _)))
  have eo := PySem.W.sortVals_data (enc := fun b : V × PyData => b.2) false e er' al
  have lo : (PySem.W.sortVals (PySem.W.dataKind (PySem.W.sortingHeap (h'.push (seqObj "list" acc'.toList.toArray 0)) h'.objs.size acc'.toList) (B.map fun b : V × PyData => b.2)) false acc'.toList acc'.toList).length = acc'.toList.length := PySem.W.sortVals_length false rfl
  generalize PySem.W.sortVals (PySem.W.dataKind (PySem.W.sortingHeap (h'.push (seqObj "list" acc'.toList.toArray 0)) h'.objs.size acc'.toList) (B.map fun b : V × PyData => b.2)) false acc'.toList acc'.toList = out at eo lo
  obtain ⟨e', he'⟩ := PyProof.Rows.sortedHeap_at (vs := acc'.toList) (out := out.toArray) hoL
  refine wpAny_pure ⟨_, rfl, .ref h'.objs.size, upd H h'.objs.size (.lst ((srt false (·.2) B).map (·.1))), I1.laid (t' := tk) (fun b u e => ?_) (Nat.le_refl _)
    (show ObjOk X.prog X.w _ _ _ (.lst ((srt false (·.2) B).map (·.1))) from ⟨?_, out, e', vals_each eo, he'⟩), rfl, q _ _ (I1.hok.fresh (Nat.le_refl _)) ⟨_, ik, by rw [hB]⟩⟩
  · have hb : b < h'.objs.size := Heap.lt_size e
    rw [PyProof.Rows.sortedHeap_old (Nat.ne_of_lt hb) (by rw [size_push']; exact Nat.lt_succ_of_lt hb)]
    exact Heap.get?_push_of_some _ e
  · have := (vals_each eo).length
    unfold srt
    rw [this]
    omega
end
end PK
/-! Part rows: their sums, rising, each part once. -/
namespace PK
open PySem PySem.Spec PyProof.Rows L2
abbrev PKey := Str × Str
abbrev PRow := Str × Str × Int
def pk (r : PRow) : PKey := (r.1, r.2.1)
def pkD (k : PKey) : PyData := .tuple [.str k.1, .str k.2]
def prowD (r : PRow) : PyData := .tuple [.str r.1, .str r.2.1, .int r.2.2]
def rowsD (L : List PRow) : PyData := .tuple (L.map prowD)
theorem flat_pk (k : PKey) : flatT (pkD k) = true := rfl
theorem flat_prow (r : PRow) : flatT (prowD r) = true := rfl
theorem flatTs_map {α : Type} {f : α → PyData} (h : ∀ a, flatT (f a) = true) : ∀ l : List α, flatTs (l.map f) = true
  | [] => rfl
  | a :: l => by
    show (flatT (f a) && flatTs (l.map f)) = true
    rw [h a, flatTs_map h l]
    rfl
theorem flat_rows (L : List PRow) : flatT (rowsD L) = true := by
  show flatTs (L.map prowD) = true
  exact flatTs_map flat_prow L
theorem pkD_inj {a b : PKey} (h : pkD a = pkD b) : a = b := by
  unfold pkD at h
  injection h with h
  injection h with h1 h2
  injection h1 with h1
  injection h2 with h2 _
  injection h2 with h2
  exact Prod.ext h1 h2
theorem pkD_alike (a b : PKey) : PySem.W.alike (pkD a) (pkD b) = true := by simp [pkD, PySem.W.alike, PySem.W.alikeAll]
theorem pk_allAlike (ks : List PKey) : PySem.W.AllAlike (ks.map pkD) := PySem.W.AllAlike.of pkD_alike
theorem pk_cmpb (ks : List PKey) : Cmpb (ks.map pkD) := ⟨pk_allAlike ks, PySem.W.Sortable.tuples fun b => ⟨_, _, rfl⟩, fun d hd => by
  obtain ⟨k, _, rfl⟩ := List.mem_map.mp hd
  show 1 ≤ 90
  decide⟩
theorem nodup_mapD {ks : List PKey} (h : ks.Nodup) : (ks.map pkD).Nodup := by
  unfold List.Nodup at h ⊢
  refine List.pairwise_map.mpr (h.imp fun {a b} q e => q (pkD_inj e))
/-! ### how many -/
def cnt : List PRow → PKey → Int
  | [], _ => 0
  | r :: L, k => (if pk r = k then r.2.2 else 0) + cnt L k
theorem cnt_nil (k : PKey) : cnt [] k = 0 := rfl
theorem cnt_cons (r : PRow) (L : List PRow) (k : PKey) : cnt (r :: L) k = (if pk r = k then r.2.2 else 0) + cnt L k := rfl
theorem cnt_app : ∀ (L M : List PRow) (k : PKey), cnt (L ++ M) k = cnt L k + cnt M k
  | [], M, k => by rw [List.nil_append, cnt_nil]; omega
  | r :: L, M, k => by
    rw [List.cons_append, cnt_cons, cnt_cons, cnt_app L M k]
    omega
theorem cnt_none {L : List PRow} {k : PKey} (h : k ∉ L.map pk) : cnt L k = 0 := by
  induction L with
  | nil => rfl
  | cons r L ih =>
    rw [List.map_cons, List.mem_cons, not_or] at h
    rw [cnt_cons, if_neg (fun e => h.1 e.symm), ih h.2]
    rfl
/-- a drawn row: words, from 1 on -/
structure PRowOk (b : Int) (r : PRow) : Prop where
  f : Word r.1
  s : Word r.2.1
  lo : 1 ≤ r.2.2
  hi : r.2.2 ≤ b
structure RowsOk (n : Nat) (b : Int) (L : List PRow) : Prop where
  len : L.length ≤ n
  each : ∀ r ∈ L, PRowOk b r
theorem PRowOk.mono {b c : Int} {r : PRow} (h : PRowOk b r) (hb : b ≤ c) : PRowOk c r := ⟨h.f, h.s, h.lo, Int.le_trans h.hi hb⟩
theorem RowsOk.mono {n m : Nat} {b c : Int} {L : List PRow} (h : RowsOk n b L) (hn : n ≤ m) (hb : b ≤ c) : RowsOk m c L := ⟨Nat.le_trans h.len hn, fun r hr => (h.each r hr).mono hb⟩
theorem RowsOk.tail {n : Nat} {b : Int} {r : PRow} {L : List PRow} (h : RowsOk n b (r :: L)) : RowsOk n b L := ⟨by have := h.len; rw [List.length_cons] at this; omega, fun q hq => h.each q (List.mem_cons_of_mem _ hq)⟩
theorem cnt_nn {n : Nat} {b : Int} {L : List PRow} (h : RowsOk n b L) (k : PKey) : 0 ≤ cnt L k := by
  induction L with
  | nil => exact Int.le_refl 0
  | cons r L ih =>
    rw [cnt_cons]
    have h1 := (h.each r List.mem_cons_self).lo
    have h2 := ih h.tail
    split <;> omega
theorem cnt_pos {n : Nat} {b : Int} {L : List PRow} (h : RowsOk n b L) {k : PKey} (hk : k ∈ L.map pk) : 0 < cnt L k := by
  induction L with
  | nil => cases hk
  | cons r L ih =>
    rw [cnt_cons]
    have h1 := (h.each r List.mem_cons_self).lo
    have h2 := cnt_nn h.tail k
    rcases List.mem_cons.mp hk with e | e
    · rw [if_pos e.symm]; omega
    · have := ih h.tail e
      split <;> omega
theorem cnt_le {n : Nat} {b : Int} (hb : 0 ≤ b) {L : List PRow} (h : RowsOk n b L) (k : PKey) : cnt L k ≤ (L.length : Int) * b := by
  induction L with
  | nil => simp [cnt_nil]
  | cons r L ih =>
    rw [cnt_cons, List.length_cons]
    have h1 := (h.each r List.mem_cons_self).hi
    have h2 := ih h.tail
    have e : ((L.length + 1 : Nat) : Int) * b = (L.length : Int) * b + b := by
      rw [Int.natCast_add, Int.add_mul]
      simp
    rw [e]
    split <;> omega
theorem cnt_key {n : Nat} {b : Int} {L : List PRow} (h : RowsOk n b L) (k : PKey) : k ∈ L.map pk ↔ 0 < cnt L k := by
  refine ⟨cnt_pos h, fun q => ?_⟩
  by_cases z : k ∈ L.map pk
  · exact z
  · rw [cnt_none z] at q
    omega
/-! ### the sums, rising -/
def nub : List PKey → List PKey
  | [] => []
  | k :: ks => k :: (nub ks).filter fun q => decide (q ≠ k)
theorem mem_nub {k : PKey} : ∀ {ks : List PKey}, k ∈ nub ks ↔ k ∈ ks
  | [] => Iff.rfl
  | q :: ks => by
    show k ∈ q :: _ ↔ _
    rw [List.mem_cons, List.mem_cons, List.mem_filter, mem_nub (ks := ks)]
    by_cases e : k = q
    · simp [e]
    · simp [e]
theorem nodup_nub : ∀ ks : List PKey, (nub ks).Nodup
  | [] => List.nodup_nil
  | q :: ks => List.nodup_cons.mpr ⟨fun h => by
      have := (List.mem_filter.mp h).2
      simp at this, (nodup_nub ks).filter _⟩
def skeys (L : List PRow) : List PKey := srt false pkD (nub (L.map pk))
def sumR (L : List PRow) : List PRow := (skeys L).map fun k => (k.1, k.2, cnt L k)
theorem mem_skeys {L : List PRow} {k : PKey} : k ∈ skeys L ↔ k ∈ L.map pk := ((srt_perm false pkD _).mem_iff).trans mem_nub
theorem skeys_rises (L : List PRow) : Rises ((skeys L).map pkD) := srt_rises (pk_allAlike _) (nodup_mapD (nodup_nub _))
theorem sumR_keys (L : List PRow) : (sumR L).map pk = skeys L := by
  unfold sumR
  rw [List.map_map]
  exact List.map_id'' (fun k => rfl) _
theorem map_inj {ks ls : List PKey} : ks.map pkD = ls.map pkD → ks = ls := by
  induction ks generalizing ls with
  | nil => intro h; cases ls with
    | nil => rfl
    | cons => cases h
  | cons k ks ih =>
    intro h
    cases ls with
    | nil => cases h
    | cons l ls =>
      rw [List.map_cons, List.map_cons] at h
      injection h with h1 h2
      rw [pkD_inj h1, ih h2]
/-- rising keys that are just these -/
theorem skeys_of {L : List PRow} {ks : List PKey} (h : Rises (ks.map pkD)) (hm : ∀ k, k ∈ ks ↔ k ∈ L.map pk) : ks = skeys L := by
  refine map_inj (rises_ext h (skeys_rises L) fun d => ⟨fun hd => ?_, fun hd => ?_⟩)
  · obtain ⟨k, hk, rfl⟩ := List.mem_map.mp hd
    exact List.mem_map.mpr ⟨k, mem_skeys.mpr ((hm k).mp hk), rfl⟩
  · obtain ⟨k, hk, rfl⟩ := List.mem_map.mp hd
    exact List.mem_map.mpr ⟨k, (hm k).mpr (mem_skeys.mp hk), rfl⟩
theorem sumR_of {L M : List PRow} (h : Rises (M.map fun r => pkD (pk r))) (hm : ∀ k, k ∈ M.map pk ↔ k ∈ L.map pk) (hc : ∀ r ∈ M, r.2.2 = cnt L (pk r)) : M = sumR L := by
  have e : M.map pk = skeys L := skeys_of (by rw [List.map_map]; exact h) hm
  unfold sumR
  rw [← e, List.map_map]
  symm
  refine (List.map_congr_left (g := id) fun r hr => ?_).trans (List.map_id _)
  show (r.1, r.2.1, cnt L (pk r)) = r
  rw [← hc r hr]
theorem sumR_congr {L M : List PRow} (hm : ∀ k, k ∈ L.map pk ↔ k ∈ M.map pk) (hc : ∀ k, cnt L k = cnt M k) : sumR L = sumR M := by
  have e : skeys L = skeys M := skeys_of (skeys_rises L) fun k => mem_skeys.trans (hm k)
  unfold sumR
  rw [e]
  exact List.map_congr_left fun k _ => by rw [hc k]
/-- the same how many of each: the same sums -/
theorem sumR_eq {n m : Nat} {b c : Int} {L M : List PRow} (hL : RowsOk n b L) (hM : RowsOk m c M) (h : ∀ k, cnt L k = cnt M k) : sumR L = sumR M :=
  sumR_congr (fun k => by rw [cnt_key hL, cnt_key hM, h k]) h
theorem cnt_once {f : PKey → Int} : ∀ {ks : List PKey}, ks.Nodup → ∀ k, cnt (ks.map fun k => (k.1, k.2, f k)) k = if k ∈ ks then f k else 0
  | [], _, k => by simp [cnt_nil]
  | q :: ks, h, k => by
    obtain ⟨h1, h2⟩ := List.nodup_cons.mp h
    rw [List.map_cons, cnt_cons, cnt_once h2 k]
    show (if (q.1, q.2) = k then f q else 0) + _ = _
    by_cases e : q = k
    · subst e
      rw [if_pos rfl, if_neg h1, if_pos List.mem_cons_self]
      omega
    · have e' : ¬ ((q.1, q.2) : PKey) = k := e
      rw [if_neg e']
      by_cases z : k ∈ ks
      · rw [if_pos z, if_pos (List.mem_cons_of_mem _ z)]; omega
      · rw [if_neg z, if_neg (fun y => by
          rcases List.mem_cons.mp y with y | y
          · exact e y.symm
          · exact z y)]
        rfl
theorem skeys_nodup (L : List PRow) : (skeys L).Nodup := (srt_perm false pkD _).nodup_iff.mpr (nodup_nub _)
theorem cnt_sumR (L : List PRow) (k : PKey) : cnt (sumR L) k = cnt L k := by
  unfold sumR
  rw [cnt_once (f := cnt L) (skeys_nodup L) k]
  by_cases z : k ∈ skeys L
  · rw [if_pos z]
  · rw [if_neg z, cnt_none (fun h => z (mem_skeys.mpr h))]
theorem sumR_len (L : List PRow) : (sumR L).length ≤ L.length := by
  unfold sumR
  rw [List.length_map]
  have h : ∀ ks : List PKey, (nub ks).length ≤ ks.length := by
    intro ks
    induction ks with
    | nil => exact Nat.le_refl _
    | cons k ks ih =>
      show ((nub ks).filter _).length + 1 ≤ ks.length + 1
      have := List.length_filter_le (fun q => decide (q ≠ k)) (nub ks)
      omega
  have e := (srt_perm false pkD (nub (L.map pk))).length_eq
  have := h (L.map pk)
  rw [List.length_map] at this
  unfold skeys
  omega
theorem sumR_ok {n : Nat} {b : Int} (hb : 0 ≤ b) {L : List PRow} (h : RowsOk n b L) : RowsOk n (n * b) (sumR L) := by
  refine ⟨Nat.le_trans (sumR_len L) h.len, fun r hr => ?_⟩
  unfold sumR at hr
  obtain ⟨k, hk, rfl⟩ := List.mem_map.mp hr
  have hk' := mem_skeys.mp hk
  obtain ⟨q, hq, rfl⟩ := List.mem_map.mp hk'
  have okq := h.each q hq
  refine ⟨okq.f, okq.s, ?_, ?_⟩
  · have := cnt_pos h hk'
    show 1 ≤ cnt L (pk q)
    omega
  · have h1 := cnt_le hb h (pk q)
    have h2 : (L.length : Int) * b ≤ (n : Int) * b := Int.mul_le_mul_of_nonneg_right (by have := h.len; omega) hb
    exact Int.le_trans h1 h2
/-! ### shown -/
end PK
/-! A dict of how many, by part; what the heaps' defs promise. -/
namespace PK
open PySem PySem.Spec PyProof.Rows L2
abbrev kk (k : PKey) : List Key := [Sum.inr k.1, Sum.inr k.2]
theorem kk_inj {a b : PKey} (h : kk a = kk b) : a = b := by
  injection h with h1 h2
  injection h2 with h2 _
  injection h1 with h1
  injection h2 with h2
  exact Prod.ext h1 h2
def ent (ks : List PKey) (c : PKey → Int) : List (List Key × V) := ks.map fun k => (kk k, V.int (c k))
theorem ent_val (c : PKey → Int) (k : PKey) : ∀ ks : List PKey, valV (ent ks c) (kk k) = if k ∈ ks then some (.int (c k)) else none
  | [] => by simp [ent, valV_nil]
  | q :: ks => by
    show valV ((kk q, V.int (c q)) :: ent ks c) (kk k) = _
    by_cases e : q = k
    · subst e
      rw [valV_pos rfl, if_pos List.mem_cons_self]
    · rw [valV_neg (fun h => e (kk_inj h)), ent_val c k ks]
      by_cases z : k ∈ ks
      · rw [if_pos z, if_pos (List.mem_cons_of_mem _ z)]
      · rw [if_neg z, if_neg (fun y => by
          rcases List.mem_cons.mp y with y | y
          · exact e y.symm
          · exact z y)]
theorem ent_any (c : PKey → Int) (k : PKey) (ks : List PKey) : ((ent ks c).any fun kv => decide (kv.1 = kk k)) = decide (k ∈ ks) := by
  rw [Bool.eq_iff_iff, List.any_eq_true, decide_eq_true_eq]
  constructor
  · rintro ⟨kv, h1, h2⟩
    obtain ⟨q, hq, rfl⟩ := List.mem_map.mp h1
    have := kk_inj (of_decide_eq_true h2)
    subst this
    exact hq
  · intro h
    exact ⟨_, List.mem_map.mpr ⟨k, h, rfl⟩, decide_eq_true rfl⟩
/-- one more row of this part -/
theorem ent_put {ks : List PKey} {c c' : PKey → Int} {k : PKey} {n : Int} (h1 : c' k = n) (h2 : ∀ q, q ≠ k → c' q = c q) :
    putK (ent ks c) (kk k) (.int n) = ent (if k ∈ ks then ks else ks ++ [k]) c' := by
  unfold putK
  rw [ent_any]
  by_cases z : k ∈ ks
  · rw [if_pos (decide_eq_true z), if_pos z]
    unfold ent
    rw [List.map_map]
    refine List.map_congr_left fun q hq => ?_
    show (if kk q = kk k then (kk q, V.int n) else (kk q, V.int (c q))) = (kk q, V.int (c' q))
    by_cases e : q = k
    · subst e
      rw [if_pos rfl, h1]
    · rw [if_neg (fun h => e (kk_inj h)), h2 q e]
  · rw [if_neg (by simpa using z), if_neg z]
    unfold ent
    rw [List.map_append]
    congr 1
    · refine List.map_congr_left fun q hq => ?_
      have e : q ≠ k := fun e => z (by rw [← e]; exact hq)
      rw [h2 q e]
    · show _ = [(kk k, V.int (c' k))]
      rw [h1]
theorem ent_keys (ks : List PKey) (c : PKey → Int) : ((ent ks c).map fun p => tkD p.1) = ks.map pkD := by
  unfold ent
  rw [List.map_map]
  rfl
theorem Dp.prowE {K : PySem.W.Frag} {H : Hp} {v : V} {r : PRow} (h : Dp K H v (prowD r)) : ∃ b, v = .ref b ∧ SqT K H b [.str r.1, .str r.2.1, .int r.2.2] := by
  obtain ⟨b, xs, rfl, hb, ha⟩ := Dp.tupE h
  cases ha with
  | cons h1 h2 =>
    cases h2 with
    | cons h3 h4 =>
      cases h4 with
      | cons h5 h6 =>
        cases h6
        cases h1
        cases h3
        cases h5
        exact ⟨b, rfl, hb⟩
theorem Dp.pkE {K : PySem.W.Frag} {H : Hp} {v : V} {k : PKey} (h : Dp K H v (pkD k)) : ∃ b, v = .ref b ∧ SqT K H b [.str k.1, .str k.2] := by
  obtain ⟨b, xs, rfl, hb, ha⟩ := Dp.tupE h
  cases ha with
  | cons h1 h2 =>
    cases h2 with
    | cons h3 h4 =>
      cases h4
      cases h1
      cases h3
      exact ⟨b, rfl, hb⟩
theorem Dp.prow {K : PySem.W.Frag} {H : Hp} {b : Addr} {r : PRow} (h : SqT K H b [.str r.1, .str r.2.1, .int r.2.2]) : Dp K H (.ref b) (prowD r) := .tup h (.cons (.str _) (.cons (.str _) (.cons (.int _) .nil)))
theorem Dp.pk {K : PySem.W.Frag} {H : Hp} {b : Addr} {k : PKey} (h : SqT K H b [.str k.1, .str k.2]) : Dp K H (.ref b) (pkD k) := .tup h (.cons (.str _) (.cons (.str _) .nil))
theorem cnt_snoc {L : List PRow} {i : Nat} {r : PRow} (h : L[i]? = some r) (k : PKey) : cnt (L.take (i + 1)) k = cnt (L.take i) k + if PK.pk r = k then r.2.2 else 0 := by
  rw [take_snoc h, cnt_app, cnt_cons, cnt_nil]
  omega
/-! ### the promises -/
/-- added_rows: the sums, rising -/
def spAdded (K : PySem.W.Frag) : Sp := fun vs H Q _ => ∃ (v : V) (L : List PRow), vs = [v] ∧ Dp K H v (rowsD L) ∧ L.length ≤ 900 ∧
  ∀ (p : Addr) (us : List V) (H' : Hp), H p = none → Same H H' → H' p = some (.tup us) → DpAll K H' us ((sumR L).map prowD) → Q (.ref p) H'
/-- a heap's attributes -/
def hf (t : Addr) : List (Str × V) := putF "held" (.ref t) []
theorem hf_held (t : Addr) : (hf t).lookup ("held" : Str) = some (.ref t) := by
  unfold hf
  rw [lookup_putF, if_pos rfl]
theorem hf_no (t : Addr) {m : Str} (h : ¬ m = "held") : (hf t).lookup m = none := by
  unfold hf
  rw [lookup_putF, if_neg h]
  all_goals rfl
/-- a heap of these rows stands at p -/
def HeapAt (K : PySem.W.Frag) (C : Addr) (H : Hp) (p : Addr) (L : List PRow) : Prop := ∃ dx t, H p = some (.ins C dx (hf t)) ∧ Dp K H (.ref t) (rowsD L)
theorem HeapAt.same {K : PySem.W.Frag} {C : Addr} {H H' : Hp} {p : Addr} {L : List PRow} (h : HeapAt K C H p L) (s : Same H H') : HeapAt K C H' p L := by
  obtain ⟨dx, t, h1, h2⟩ := h
  exact ⟨dx, t, s _ _ h1, Dp.same s h2⟩
theorem HeapAt.ext {K : PySem.W.Frag} {C : Addr} {H H' : Hp} {p a c : Addr} {L : List PRow} (h : HeapAt K C H p L) (fe : IsFeed H a c) (x : Ext a H H') : HeapAt K C H' p L := by
  obtain ⟨dx, t, h1, h2⟩ := h
  obtain ⟨cs, i, l, n, fe'⟩ := id fe
  exact ⟨dx, t, x _ _ h1 (ne_of h1 fe'.d (by intro z; cases z)), Dp.keepT (TKeep.feed fe x) (flat_rows L) h2⟩
/-- __init__ -/
def spInit (K : PySem.W.Frag) (C : Addr) : Sp := fun vs H Q _ => ∃ (p dx : Addr) (x : V) (L : List PRow), vs = [.ref p, x] ∧ H p = some (.ins C dx []) ∧ ((x = .non ∧ L = []) ∨ Dp K H x (rowsD L)) ∧ L.length ≤ 900 ∧
  ∀ H' : Hp, (∀ b o, H b = some o → b ≠ p → H' b = some o) → HeapAt K C H' p (sumR L) → Q .non H'
/-- rows() -/
def spRows (K : PySem.W.Frag) (C : Addr) : Sp := fun vs H Q _ => ∃ (p : Addr) (L : List PRow), vs = [.ref p] ∧ HeapAt K C H p L ∧ L.length ≤ 900 ∧
  ∀ (v : V) (H' : Hp), Same H H' → Dp K H' v (rowsD L) → Q v H'
/-- what is known of the class -/
structure HCls (K : PySem.W.Frag) (mg : Str → Option Value) (C : Addr) : Prop where
  cl : Cls K C
  nh : NoAttr K C "held"
  mg : mg "Heap" = some (.ref C)
end PK
/-! A heap made: Heap(), Heap(x), Heap(rows=x). -/
namespace PK
open PySem PySem.Spec PyProof.Rows L2
/-- all that is known of the class and its __init__ -/
structure HMk (P : Program) (w : World) (K : PySem.W.Frag) (mg : Str → Option Value) (base : Heap) (k : Nat) (C f : Addr) (fd : FuncData) : Prop where
  c : HCls K mg C
  m : Mk K C f
  ok : FnOk P w K mg base CX0 k f fd ["self", "rows"] (spInit K C)
  b0 : ∃ ds, Vals [V.non] ds ∧ Binds K fd ["self", "rows"] ds
  b1 : KB K fd ["self", "rows"] 2 [] (fun vs _ => vs)
  bk : KB K fd ["self", "rows"] 1 ["rows"] (fun vs zs => vs ++ zs)
/-- of x: none, or rows -/
def mkHeap (K : PySem.W.Frag) (C : Addr) (x : V) (H : Hp) (Q : VK) : Prop := ∃ L : List PRow, ((x = .non ∧ L = []) ∨ Dp K H x (rowsD L)) ∧ L.length ≤ 900 ∧
  ∀ (p : Addr) (H' : Hp), H p = none → Same H H' → HeapAt K C H' p (sumR L) → Q (.ref p) H'
def tHeap (K : PySem.W.Frag) (C : Addr) (te : TE) : TE := fun σ H Q => te σ H fun x H1 => mkHeap K C x H1 Q
theorem mk_init {K : PySem.W.Frag} {C : Addr} {x : V} {H : Hp} {Q : VK} {E : XK} (h : mkHeap K C x H Q) (p dx : Addr) (np : H p = none) (nd : H dx = none) (ne : dx ≠ p) :
    spInit K C [.ref p, x] (upd (upd H dx (.own p)) p (.ins C dx [])) (fun v H2 => v = .non ∧ Q (.ref p) H2) E := by
  obtain ⟨L, hx, hL, q⟩ := h
  have s1 : Same H (upd (upd H dx (.own p)) p (.ins C dx [])) := fun b o e => by
    rw [upd_ne (ne_of_none e np), upd_ne (ne_of_none e nd)]
    exact e
  refine ⟨p, dx, x, L, rfl, upd_same, ?_, hL, fun H' kp hh => ⟨rfl, q p H' np (Same.made np nd kp) hh⟩⟩
  rcases hx with hx | hx
  · exact Or.inl hx
  · exact Or.inr (Dp.same s1 hx)
section
variable {X : Cx} {k : Nat} {C f : Addr} {fd : FuncData} {p pos : Pos} {e : Expr} {kw : Keyword} {te : TE}
/-- the one argument -/
def one (R : V → Hp → Prop) : List V → Hp → Prop := fun vs H => match vs with
  | [x] => R x H
  | _ => False
theorem one_at {R : V → Hp → Prop} {vs : List V} {H : Hp} (h : one R vs H) : ∃ x, vs = [x] ∧ R x H := by
  match vs, h with
  | [x], h => exact ⟨x, rfl, h⟩
theorem pe_heap1 (M : HMk X.prog X.w X.K X.mg X.base k C f fd) (hr : Room (k + 1) X.A) (hg : Gl X "Heap") (ha : PE X e te)
    (he : starEach [e] X.env = (false, eval e X.env) :: starEach [] X.env := by rfl) (hpl : (backTo pos (starEach [] X.env)).any (·.1) = false := by rfl) :
    PE X (.Call (.Name "Heap" p) [e] [] pos) (tHeap X.K C te) := by
  refine ⟨fun pins s σ H Q I h => ?_⟩
  obtain ⟨g, hb⟩ := M.b1
  refine wpAny_Call_Name_kw (ld_glob I hg M.c.mg ?_ (by decide))
  refine PySem.W.callWith_K (h₀ := X.base) I.ok.mod.kin M.m.kp (thn ((pa_cons ha pa_nil he).run pos pins s σ H (one fun x H1 => mkHeap X.K C x H1 Q) I h) ?_) he hpl
  rintro us s1 ⟨vs, H1, I1, r, q⟩
  refine ⟨I1.kIn, ?_⟩
  obtain ⟨x, rfl, q⟩ := one_at q
  exact run_makeK (n := 1) (ks := []) (ws := []) (zs := []) M.m M.ok hr hb (E := fun _ _ _ => False) pass0 I1 r .nil rfl rfl fun p dx np nd ne => mk_init q p dx np nd ne
theorem kheap1 (K : PySem.W.Frag) (M : HMk X.prog X.w K X.mg X.base k C f fd) (hr : Room (k + 1) X.A) (hg : Gl X "Heap") (ha : PE X e te) (hK : X.K = K := by rfl)
    (he : starEach [e] X.env = (false, eval e X.env) :: starEach [] X.env := by rfl) (hpl : (backTo pos (starEach [] X.env)).any (·.1) = false := by rfl) :
    PE X (.Call (.Name "Heap" p) [e] [] pos) (tHeap K C te) := by
  subst hK
  exact pe_heap1 M hr hg ha he hpl
end
/-- a method that may be called, all its arguments given -/
structure MCal (P : Program) (w : World) (K : PySem.W.Frag) (mg : Str → Option Value) (base : Heap) (k : Nat) (C : Addr) (x : Str) (f : Addr) (fd : FuncData) (ps : List Str) (sp : Sp) : Prop where
  ok : FnOk P w K mg base CX0 k f fd ps sp
  m : Meth K C x f
  b : Binds K fd ps []
theorem HeapAt.no {K : PySem.W.Frag} {C : Addr} {H : Hp} {p : Addr} {L : List PRow} (h : HeapAt K C H p L) {m : Str} (hm : ¬ m = "held") : ∃ dx fs, H p = some (.ins C dx fs) ∧ fs.lookup m = none := by
  obtain ⟨dx, t, h1, _⟩ := h
  exact ⟨dx, _, h1, hf_no t hm⟩
end PK
/-! Drawn rows; sums by taking the least one by one; rows parted in two. -/
namespace PK
open PySem PySem.Spec PyProof.Rows L2
theorem word_ok {y : Str} (h : Word y) : PyData.strOk y = true := by
  unfold PyData.strOk
  rw [Array.all_eq_true_iff_forall_mem]
  intro c hc
  have := (h.low c (by simpa using hc)).2
  exact decide_eq_true (by omega)
theorem pk_eqv (a b : PKey) : PyData.eqv (pkD a) (pkD b) = decide (a = b) := by
  by_cases e : a = b
  · subst e
    rw [decide_eq_true rfl]
    exact eqv_refl _ (flat_pk a)
  · rw [decide_eq_false e]
    exact eqv_false (pkD_alike a b) fun z => e (pkD_inj z)
/-- the rows of one part -/
def ofPart (L : List PRow) (k : PKey) : List Int := (L.filter fun r => decide (pk r = k)).map fun r => r.2.2
theorem ofPart_sum (k : PKey) : ∀ L : List PRow, (ofPart L k).sum = cnt L k
  | [] => rfl
  | r :: L => by
    have ih := ofPart_sum k L
    unfold ofPart at ih ⊢
    rw [cnt_cons]
    by_cases e : pk r = k
    · rw [List.filter_cons_of_pos (by simpa using e), List.map_cons, List.sum_cons, ih, if_pos e]
    · rw [List.filter_cons_of_neg (by simpa using e), ih, if_neg e]
      omega
theorem pk_alikeAll (ks : List PKey) : PySem.W.AlikeAll (ks.map pkD) := ⟨pk_allAlike ks, fun x hx => by
  obtain ⟨k, _, rfl⟩ := List.mem_map.mp hx
  intro z
  cases z⟩
/-- the least of keys -/
theorem least_key {k : PKey} {ks : List PKey} : ∃ m, m ∈ k :: ks ∧ PySem.W.minD (pkD k) (ks.map pkD) = pkD m ∧ ∀ q ∈ k :: ks, q ≠ m → dlt (pkD m) (pkD q) = true := by
  obtain ⟨h1, h2, h3⟩ := minD_at (ks.map pkD) (pkD k)
  have hm : ∃ m, m ∈ k :: ks ∧ PySem.W.minD (pkD k) (ks.map pkD) = pkD m := by
    rcases h1 with h1 | h1
    · exact ⟨k, List.mem_cons_self, h1⟩
    · obtain ⟨m, hm, e⟩ := List.mem_map.mp h1
      exact ⟨m, List.mem_cons_of_mem _ hm, e.symm⟩
  obtain ⟨m, hm, e⟩ := hm
  refine ⟨m, hm, e, fun q hq hne => ?_⟩
  rw [e] at h2 h3
  have hf : dlt (pkD q) (pkD m) = false := by
    rcases List.mem_cons.mp hq with rfl | hq
    · exact h2
    · exact h3 _ (List.mem_map.mpr ⟨q, hq, rfl⟩)
  rcases dlt_tot (pkD_alike m q) (fun z => hne (pkD_inj z).symm) with z | z
  · exact z
  · rw [z] at hf
    cases hf
/-- what has been found, what is left -/
structure Least (L M : List PRow) (ks : List PKey) : Prop where
  up : Rises (M.map fun r => pkD (pk r))
  ahead : ∀ r ∈ M, ∀ q ∈ ks, dlt (pkD (pk r)) (pkD q) = true
  all : ∀ k, k ∈ L.map pk ↔ k ∈ M.map pk ∨ k ∈ ks
  many : ∀ r ∈ M, r.2.2 = cnt L (pk r)
theorem Least.start (L : List PRow) : Least L [] (L.map pk) := ⟨List.Pairwise.nil, fun _ h => (nomatch h), fun k => ⟨Or.inr, fun h => h.resolve_left (fun z => nomatch z)⟩, fun _ h => (nomatch h)⟩
theorem Least.done {L M : List PRow} (h : Least L M []) : M = sumR L := sumR_of h.up (fun k => ⟨fun z => (h.all k).mpr (Or.inl z), fun z => ((h.all k).mp z).resolve_right (fun z => nomatch z)⟩) h.many
theorem Least.next {L M : List PRow} {ks : List PKey} {m : PKey} (h : Least L M ks) (hm : m ∈ ks) (hl : ∀ q ∈ ks, q ≠ m → dlt (pkD m) (pkD q) = true) :
    Least L (M ++ [(m.1, m.2, cnt L m)]) (ks.filter fun q => decide (q ≠ m)) := by
  refine ⟨?_, fun r hr q hq => ?_, fun k => ?_, fun r hr => ?_⟩
  · unfold Rises
    rw [List.map_append]
    refine List.pairwise_append.mpr ⟨h.up, List.pairwise_singleton _ _, fun d hd e he => ?_⟩
    obtain ⟨r, hr, rfl⟩ := List.mem_map.mp hd
    have : e = pkD m := List.mem_singleton.mp he
    rw [this]
    exact h.ahead r hr m hm
  · obtain ⟨q1, q2⟩ := List.mem_filter.mp hq
    rcases List.mem_append.mp hr with hr | hr
    · exact h.ahead r hr q q1
    · rw [List.mem_singleton.mp hr]
      exact hl q q1 (of_decide_eq_true q2)
  · rw [h.all k, List.map_append, List.mem_append, List.mem_filter]
    show _ ↔ (k ∈ M.map pk ∨ k ∈ [m]) ∨ _
    rw [List.mem_singleton, decide_eq_true_eq]
    by_cases e : k = m
    · subst e
      simp [hm]
    · simp [e]
  · rcases List.mem_append.mp hr with hr | hr
    · exact h.many r hr
    · rw [List.mem_singleton.mp hr]
      rfl
/-! ### rows parted in two -/
def parted1 (r : PRow) : List PRow := (if 1 < r.2.2 then [(r.1, r.2.1, r.2.2 / 2)] else []) ++ [(r.1, r.2.1, r.2.2 - r.2.2 / 2)]
def parted (L : List PRow) : List PRow := L.flatMap parted1
end PK
/-! An own error whose __init__ says super().__init__(text), its families over ValueError. -/
namespace PK
open PySem PySem.Spec PyProof.Rows L2
/-! ### the bound built-in __init__, called -/
section
variable {prog : Program} {w : World} {A : Around} {E : Value → Shared → Prop} {h : Heap} {g : Array GenState} {d : Drawn} {t : Nat} {os : OsState}
variable {nm q : Str} {C N : Addr} {bs bm : List Value} {hdct : Bool} {sn : List Str} {sub : List Value} {ab : Bool} {col : Option Bool} {dd : Option Addr} {k0 k1 k2 k3 k5 : Option Value}
theorem call_mw {u e t0 : Addr} {rest : List Value} {Q : Value → Shared → Prop}
    (hC : h.get? C = some (excClassObj nm q C N bs bm hdct sn sub ab col dd k0 k1 k2 k3 k5 "ValueError.__new__")) (he : h.get? e = some (HandSPX.excO C t0)) (hu : h.get? u = some (PySem.W.kxs_mw "ValueError.__init__" e)) (hrest : rest.length ≤ sizeLine)
    (hq : ∀ h' t1, (∀ b o, b ≠ e → h.get? b = some o → h'.get? b = some o) → h'.get? e = some (HandSPX.excO C t1) → Q .none ⟨h', g, d, t, os⟩) :
    wpAny (model prog w) A (call (.ref u) rest) Q E ⟨h, g, d, t, os⟩ := by
  have kind : (Value.type "method-wrapper" == Value.type "method" || Value.type "method-wrapper" == Value.type "builtin_function_or_method" || Value.type "method-wrapper" == Value.type "method-wrapper") = true := by decide
  refine wpAny_call (codeAny_of_tree ?_)
  show wpAny _ A.in1 (callAny (.ref u) ⟨rest, []⟩) _ _ _
  simp only [callAny]
  refine wpAny_bind (wpAny_load hu ?_)
  simp only [PySem.W.kxs_mw, kind, if_true]
  refine W.KFB.if_so (by decide) (wpAny_bind (PySem.ESX.check_bound F.excBase_ValueError hC he rfl (wpAny_bind (wpAny_pure (wpAny_pure ⟨Code.quiet_builtin _ (by decide +kernel), codeAny_builtin F.excBase_ValueError.initEntry ?_⟩)))))
  rw [Around.under_plainId F.excBase_ValueError.init.plain]
  wp_walk
  have hp : (h.push { cls := .type "tuple", data := .seq rest.toArray }).get? e = some (HandSPX.excO C t0) := Heap.get?_push_of_some _ he
  refine hq _ h.objs.size (fun b o hb ho => ?_) ?_
  · exact (Heap.get?_update_other _ _ hb.symm).trans (Heap.get?_push_of_some _ ho)
  · rw [Heap.get?_update_self _ hp rfl]
    rfl
end
/-! ### a def that says super() -/
/-- the def of the text, within the class at D -/
structure FunS (P : Program) (K : PySem.W.Frag) (x qual : Str) (st : Stmt) (D f : Addr) (fd : FuncData) : Prop where
  ex : ∃ (oc : Value) (od : Option Addr) (osl : Array (Option Value)) (kV doc pm : Value) (an : Option Addr) (cda : Addr) (ct : Value) (cc : Addr) (ccl : Value) (cdd : Option Addr) (vs : Array Value) (ccs : Array (Option Value)) (file : Str) (tf : Tok) (cl : Value) (cld : Option Addr) (csl : Array (Option Value)),
    fd = PySem.W.fnX x qual (defArgs st) (defBody st) (defScope st) [("__class__", cc)] .none kV doc pm an (.ref cda) ct ∧ K.lookup f = some ⟨oc, od, .func fd, osl⟩ ∧ PySem.W.codeIn K (.ref cda) qual = true ∧
    K.lookup cda = some ⟨ccl, cdd, .fields vs, ccs⟩ ∧ vs[2]? = some (.str file tf) ∧ ((P.main.file : Str) == file) = true ∧ K.lookup cc = some ⟨cl, cld, .cell (some (.ref D)), csl⟩
  top : (P.main.scope.names.lookup ("super" : Str)).isSome = false
/-- the class of the error, with its line of classes over ValueError -/
structure SupC (K : PySem.W.Frag) (mg : Str → Option Value) (C : Addr) : Prop where
  ex : OexC K C
  cls : ∃ cd, PySem.W.clsIn K C = some cd
  self : PySem.W.mroIn K C (.ref C) = some true
  ve : PySem.W.mroIn K C (.type "ValueError") = some true
  up : PySem.W.ks_superIn K C C "__init__" = some (some (.builtin "ValueError.__init__"))
  third : PySem.W.nsIn K cStatics "thirdparty.any" = some none
  sup : mg "super" = none
structure SScope (N ps : List Str) (sc : Scope) : Prop where
  kind : sc.kind = .function
  co : sc.isCoroutine = false
  gen : sc.isGenerator = false
  nd : N.Nodup
  pre : N.take ps.length = ps
  par : ∀ x ∈ ps, sc.names.lookup x = some .local
  nocell : ∀ y ∈ sc.names, y.2 ≠ .cell
  fr : ∀ y ∈ sc.names, y.2 = .free → y.1 = "__class__"
  ksup : sc.names.lookup ("super" : Str) = some .globalImplicit
  kcls : sc.names.lookup ("__class__" : Str) = some .free
def cxS (P : Program) (w : World) (K : PySem.W.Frag) (mg : Str → Option Value) (base : Heap) (N : List Str) (qual : Str) (scope : Scope) (f : Addr) (cd : Value) (cc : Addr) (A : Around) (outer : List Env) (s : Shared) (H : Hp) : Cx where
  prog := P
  w := w
  K := K
  mg := mg
  base := base
  A := A.deeper (PySem.W.envX qual scope s.heap.objs.size f cd [("__class__", cc)])
  N := N
  s_0 := s
  H_0 := H
  env := PySem.W.envX qual scope s.heap.objs.size f cd [("__class__", cc)]
  outer := outer
  stack := PySem.W.envX qual scope s.heap.objs.size f cd [("__class__", cc)] :: outer
  ex := []
  calm := true
  fn := fun _ => false
  pn := []
  xe := fun _ _ => False
theorem lookup_rev_zip : ∀ {ps : List Str} {us : List Value} {i : Nat} {y : Str} {u : Value}, ps.Nodup → ps.length = us.length → ps[i]? = some y → us[i]? = some u → (ps.zip us).reverse.lookup y = some u := by
  intro ps us i y u nd hl hp hu
  have hm : (y, u) ∈ ps.zip us := by
    have e : (ps.zip us)[i]? = some (y, u) := by rw [List.getElem?_zip_eq_some]; exact ⟨hp, hu⟩
    exact List.mem_of_getElem? e
  have nd2 : ((ps.zip us).reverse.map (·.1)).Nodup := by
    rw [List.map_reverse, List.map_fst_zip (by omega)]
    exact (List.reverse_perm ps).nodup_iff.mpr nd
  have hm2 : (y, u) ∈ (ps.zip us).reverse := List.mem_reverse.mpr hm
  generalize (ps.zip us).reverse = l at nd2 hm2
  induction l with
  | nil => cases hm2
  | cons p l ih =>
    rw [List.map_cons] at nd2
    obtain ⟨n1, n2⟩ := List.nodup_cons.mp nd2
    rcases List.mem_cons.mp hm2 with e | e
    · subst e
      simp [List.lookup_cons]
    · have hne : (y == p.1) = false := by
        refine beq_eq_false_iff_ne.mpr fun z => n1 ?_
        rw [← z]
        exact List.mem_map.mpr ⟨_, e, rfl⟩
      obtain ⟨p1, p2⟩ := p
      rw [List.lookup_cons, hne]
      exact ih n2 e
/-- a slot that holds something at the start holds an argument -/
theorem slot0 {N : List Str} {vs : List V} {i : Nat} {v : V} (h : (L2.start N vs)[i]? = some (some v)) : vs[i]? = some v := by
  unfold L2.start at h
  rcases Nat.lt_or_ge i (vs.map some).length with z | z
  · rw [List.getElem?_append_left z, List.getElem?_map] at h
    obtain ⟨y, hy, e⟩ := Option.map_eq_some_iff.mp h
    cases e
    exact hy
  · rw [List.getElem?_append_right z] at h
    have := List.mem_of_getElem? h
    rw [List.mem_replicate] at this
    cases this.2
theorem one_cell {cc c : Addr} {x : Str} (h : ([("__class__", cc)] : List (Str × Addr)).lookup x = some c) : x = "__class__" ∧ c = cc := by
  rw [List.lookup_cons] at h
  split at h
  · rename_i z
    exact ⟨beq_iff_eq.mp z, (Option.some.inj h).symm⟩
  · cases h
theorem inv_startS {P : Program} {w : World} {K : PySem.W.Frag} {mg : Str → Option Value} {base : Heap} {N ps : List Str} {qual : Str} {scope : Scope} {f cc : Addr} {cd : Value} {A : Around} {outer : List Env} {s : Shared} {h₁ : Heap} {tk : Nat} {H : Hp} {us : List Value} {vs : List V}
    {oc : Obj} {vc : Option Value} (S : SScope N ps scope) (hd : A.handled = none) (e0 : Env0 P w K mg base A outer s H) (hl : vs.length = ps.length) (r : Vals vs us) (hcc : K.lookup cc = some oc) (hcd : oc.data = .cell vc)
    (hns : h₁.Ns s.heap.objs.size (fun x => (ps.zip us).reverse.lookup x)) (hk : ∀ b o, s.heap.get? b = some o → h₁.get? b = some o) :
    Inv (cxS P w K mg base N qual scope f cd cc A outer s H) [] (L2.start N vs) H { s with heap := h₁, toks := tk } := by
  have cb := e0.bs _ _ (e0.mod.kin _ _ hcc)
  have lps : ps.length ≤ N.length := by
    have e := congrArg List.length S.pre
    rw [List.length_take] at e
    omega
  have okX : (cxS P w K mg base N qual scope f cd cc A outer s H).Ok :=
    { mod := e0.mod, kind := S.kind, glob := rfl, blt := rfl, above := Nat.le_refl _
      inj := fun y z c h1 h2 => by rw [(one_cell h1).1, (one_cell h2).1]
      has := fun y hy => by
        rcases (show scope.names.lookup y = some .cell ∨ scope.names.lookup y = some .free from hy) with q | q
        · exact absurd rfl (S.nocell _ (PySem.mem_of_lookup q))
        · refine ⟨cc, ?_⟩
          show ([("__class__", cc)] : List (Str × Addr)).lookup y = some cc
          rw [show y = "__class__" from S.fr _ (PySem.mem_of_lookup q) rfl]
          simp [List.lookup_cons]
      cab := fun y c hf => nomatch (show false = true from hf)
      hd := fun _ => hd, frames := Around.frames_deeper e0.frames, stk := Or.inr ⟨rfl, rfl⟩
      exf := fun b hb => nomatch hb
      bs := e0.bs, bsz := e0.bsz
      noex := fun b o _ hb => nomatch hb
      exfs := fun b hb => nomatch hb
      funs := e0.funs, frf := e0.frf }
  exact
    { ok := okX, os := rfl, bare := e0.bare, base := Un.kept hk
      loc := ⟨_, hns, fun i y v h1 h2 _ => by
        have hv := slot0 h2
        obtain ⟨u, hu, rv⟩ := r.get hv
        have hi := (List.getElem?_eq_some_iff.mp hv).1
        have hp : ps[i]? = some y := by
          rw [← S.pre, List.getElem?_take, if_pos (by omega)]
          exact h1
        have ndp : ps.Nodup := S.pre ▸ S.nd.sublist (List.take_sublist _ _)
        exact ⟨u, rv, Or.inl ⟨S.par y (List.mem_of_getElem? hp), lookup_rev_zip ndp (hl.symm.trans r.length) hp hu⟩⟩⟩
      cell := fun y c h => by
        obtain ⟨_, rfl⟩ := one_cell h
        exact ⟨vc, oc, hk _ _ cb.1, hcd⟩
      free := e0.hok.fresh (Nat.le_refl _)
      freeC := fun y c h => by
        obtain ⟨_, rfl⟩ := one_cell h
        exact cb.2
      pin := fun p hp => nomatch hp
      hok := e0.hok.kept hk
      len := by
        unfold L2.start
        show _ = N.length
        simp
        omega }
theorem fn_super {P : Program} {w : World} {K : PySem.W.Frag} {mg : Str → Option Value} {base : Heap} {k : Nat} {f C : Addr} {fd : FuncData} {x qual : Str} {st : Stmt} {N ps : List Str} {sp : Sp}
    {e : Expr} {p0 p1 p2 p3 p4 : Pos} {rest : List Stmt} {ar : Arg}
    (F : FunS P K x qual st C f fd) (U : SupC K mg C) (S : SScope N ps (defScope st)) (hb0 : defBody st = .Expr (.Call (.Attribute (.Call (.Name "super" p0) [] [] p1) "__init__" p2) [e] [] p3) p4 :: rest)
    (har : ((defArgs st).posonlyargs ++ (defArgs st).args).head? = some ar) (hps : ps[0]? = some ar.arg)
    (hse : ∀ env : Env, starEach [e] env = (false, eval e env) :: starEach [] env)
    (hev : ∀ env : Env, ∃ pl : Sem Bool, eval (.Call (.Attribute (.Call (.Name "super" p0) [] [] p1) "__init__" p2) [e] [] p3) env = (do
      let ov ← attributeBase (.Call (.Name "super" p0) [] [] p1) "__init__" env (eval (.Call (.Name "super" p0) [] [] p1) env)
      standAt p2.atName
      let (f, first) ← holding [ov] (getMethod ov "__init__" pl)
      callWith p3 f first (backTo p3 (starEach [e] env)) []))
    (hsw : ∀ env : Env, swapsWith (.Call (.Attribute (.Call (.Name "super" p0) [] [] p1) "__init__" p2) [e] [] p3) none p4.line env = pure false)
    (len : ∀ vs H Q E, sp vs H Q E → vs.length = ps.length)
    (hbody : ∀ (cdv : Value) (cc : Addr) (A : Around) (outer : List Env) (s : Shared) (H : Hp) (vs : List V) (Q : VK) (E : XK), Room k (A.deeper (PySem.W.envX qual (defScope st) s.heap.objs.size f cdv [("__class__", cc)])) → sp vs H Q E →
      ∃ (a : Addr) (ta : TA) (t : TS), vs[0]? = some (.ref a) ∧ H a = some (exo a C none) ∧ PA (cxS P w K mg base N qual (defScope st) f cdv cc A outer s H) [e] ta ∧ PSs (cxS P w K mg base N qual (defScope st) f cdv cc A outer s H) rest t ∧
        ta (L2.start N vs) H fun ws H1 => ws.length ≤ 1000 ∧ H1 a = some (exo a C none) ∧ t { nx := fun _ H' => Q .non H', rt := Q } (L2.start N vs) H1) :
    FnOk P w K mg base CX0 (k + 1) f fd ps sp := by
  obtain ⟨oc, od, osl, kV, doc, pm, an, cda, ct, cc, ccl, cdd, fvs, ccs, file, tf, cl, cld, csl, rfl, lk, hcd, lcd, hvs, hfile, lcc⟩ := F.ex
  refine ⟨len, fun A outer s H args us vs Q E hr e0 hb r hsp => ?_⟩
  have hl := len _ _ _ _ hsp
  have kept : ∀ b o, base.get? b = some o → s.heap.get? b = some o := fun b o e => (e0.bs b o e).1
  have KX : K.In s.heap := e0.mod.kin.keeps kept
  have lim : s.heap.NoLimit := e0.mod.nolimit.keeps kept
  refine ks_codeAny_call_defAt (fd := PySem.W.fnX x qual (defArgs st) (defBody st) (defScope st) [("__class__", cc)] .none kV doc pm an (.ref cda) ct) (body := defBody st) (binds := ps.zip us) hr.depth (KX _ _ lk) rfl lim (PySem.W.codeRec_of KX hcd) rfl hb S.nocell
    (fun y hy => S.par y.1 (List.of_mem_zip (show (y.1, y.2) ∈ ps.zip us from hy)).1) (fun h₁ hns hk => ?_) S.co S.gen S.kind
  obtain ⟨a, ta, t, hv0, ha, pa, pr, hq⟩ := hbody (.ref cda) cc A outer s H vs Q E (hr.deeper _) hsp
  have I : Inv (cxS P w K mg base N qual (defScope st) f (.ref cda) cc A outer s H) [] (L2.start N vs) H { s with heap := h₁, toks := s.toks + (ps.zip us).length } := inv_startS S hr.hd e0 hl r lcc rfl hns hk
  show _root_.PySem.wpAt (model P w) (A.deeper (PySem.W.envX qual (defScope st) s.heap.objs.size f (.ref cda) [("__class__", cc)])) (.func (defBody st) (PySem.W.envX qual (defScope st) s.heap.objs.size f (.ref cda) [("__class__", cc)]))
    (execs (defBody st) (PySem.W.envX qual (defScope st) s.heap.objs.size f (.ref cda) [("__class__", cc)])) _ _ _
  rw [hb0]
  obtain ⟨pl, hev⟩ := hev (PySem.W.envX qual (defScope st) s.heap.objs.size f (.ref cda) [("__class__", cc)])
  refine ks_wpAt_execs_cons (ks_wpAt_Expr_any (ks_wpAt_MethodCall (pl := pl) ?_ hev) (by unfold interactive; simp [S.kind]) (hsw _))
  have X1 : K.In h₁ := KX.keeps hk
  have hmem : ar.arg ∈ ps := List.mem_of_getElem? hps
  refine ks_wpAt_super_base (env := PySem.W.envX qual (defScope st) s.heap.objs.size f (.ref cda) [("__class__", cc)]) (cc := cda) S.ksup S.kcls (by decide) rfl (X1 _ _ lk) rfl har rfl (X1 _ _ lcd) rfl hvs hfile F.top ?_
  obtain ⟨mb, b1, b2⟩ := I.ok.mod.blt
  refine PySem.W.ks_loadName_global S.kind S.ksup (PySem.Calls.loadGlobal_builtin (env := PySem.W.envX qual (defScope st) s.heap.objs.size f (.ref cda) [("__class__", cc)]) (I.ok.mod.glob.keeps I.bk) U.sup (b1.keeps I.bk) ((b2 _ (by decide +kernel)).trans (show bootBuiltins "super" = some (.type "super") by decide +kernel)) ⟨rfl, ?_⟩)
  refine wpAny_loadName_free S.kind S.kcls rfl ⟨_, X1 _ _ lcc, rfl⟩ ?_
  obtain ⟨u0, hu0, ru0⟩ := r.get hv0
  cases ru0
  have ndP : ps.Nodup := by rw [← S.pre]; exact S.nd.sublist (List.take_sublist _ _)
  refine wpAny_loadName_local S.kind (S.par _ hmem) hns (lookup_rev_zip ndP (hl.symm.trans r.length) hps hu0) ?_
  obtain ⟨cd, hcd'⟩ := U.cls
  obtain ⟨oD, hD1, hD2⟩ : ∃ oD, h₁.get? C = some oD ∧ oD.data = .cls cd := by
    have hD := hcd'
    unfold PySem.W.clsIn at hD
    split at hD
    · rename_i c d cd' sl ho
      cases hD
      exact ⟨_, X1 _ _ ho, rfl⟩
    · cases hD
  obtain ⟨t1, hx⟩ := exo_at I.hok ha
  have hx : h₁.get? a = some (HandSPX.excO C t1) := hx
  refine ks_wpAny_isType_cls hD1 hD2 ⟨rfl, ?_⟩
  refine ks_wpAny_call_super hD1 hD2 hx rfl (fun c z => by cases z) (PySem.W.looks_mroIn X1 U.self) (fun h2 e2 k2 => ?_)
  have X2 : K.In h2 := X1.keeps k2
  have IA : PySem.W.InstAt h2 a (HandSPX.excO C t1) C none := ⟨k2 _ _ hx, rfl, rfl, trivial⟩
  have hup := U.up
  unfold PySem.W.ks_superIn at hup
  rw [hcd', Option.bind_some] at hup
  refine PySem.W.kxs_getMethod PySem.W.kxs_ValueError e2 (PySem.W.looks_opaque X2 U.third) (l₀ := cd.mro) ?_ rfl X2 hup (IA.type.andThen (PySem.W.looks_mroIn X2 U.ve)) (PySem.W.ks_ne X2 IA hcd') (by decide) ?_
  · exact (PySem.W.looks_clsIn X2 hcd').andThen .now
  -- the call
  have k3 : ∀ b o, h2.get? b = some o → (h2.push (PySem.W.kxs_mw "ValueError.__init__" a)).get? b = some o := fun b o z => Heap.get?_push_of_some _ z
  have I2 : Inv (cxS P w K mg base N qual (defScope st) f (.ref cda) cc A outer s H) [] (L2.start N vs) H { s with heap := h2, toks := s.toks + (ps.zip us).length } := I.kept k2
  have I3 : Inv (cxS P w K mg base N qual (defScope st) f (.ref cda) cc A outer s H) [] (L2.start N vs) H { s with heap := h2.push (PySem.W.kxs_mw "ValueError.__init__" a), toks := s.toks + (ps.zip us).length + 1 } := I2.kept k3
  have I3 : Inv (cxS P w K mg base N qual (defScope st) f (.ref cda) cc A outer s H) [(h2.objs.size, PySem.W.kxs_mw "ValueError.__init__" a)] (L2.start N vs) H { s with heap := h2.push (PySem.W.kxs_mw "ValueError.__init__" a), toks := s.toks + (ps.zip us).length + 1 } :=
    I3.pins_of fun p hp => by
      rw [List.mem_singleton.mp hp]
      exact ⟨Heap.get?_push_size _ rfl, I2.hok.fresh (Nat.le_refl _), fun z => Nat.lt_irrefl _ (z ▸ I2.lt), I2.nofs (Nat.le_refl _), fun v z => by cases z⟩
  show wpAny _ _ (callWith p3 (.ref h2.objs.size) [] (backTo p3 (starEach [e] (PySem.W.envX qual (defScope st) s.heap.objs.size f (.ref cda) [("__class__", cc)]))) []) _ _ _
  have prun := pa.run p3 _ _ _ _ _ I3 hq
  rw [show (cxS P w K mg base N qual (defScope st) f (.ref cda) cc A outer s H).env = PySem.W.envX qual (defScope st) s.heap.objs.size f (.ref cda) [("__class__", cc)] from rfl] at prun
  rw [hse] at prun ⊢
  refine PySem.W.kxs_callWith (i := "ValueError.__init__") (x := a) rfl (PySem.Calls.evalArgs_plain (wpAny_mono prun (fun ws s4 hws => ?_) fun _ _ z => z.elim))
  obtain ⟨zs, H1, I4, r4, hz, ha1, ht⟩ := hws
  have pin := I4.pin (h2.objs.size, PySem.W.kxs_mw "ValueError.__init__" a) (by simp)
  refine ⟨pin.1, ?_⟩
  obtain ⟨nm, q, N', bs, bm, sn, sub, ab, col, dd, k0, k1, k2', k3', k5, hC, hbm⟩ := U.ex.cls
  obtain ⟨t4, hx4⟩ := exo_at I4.hok ha1
  obtain ⟨hp4, g4, d4, tk4, os4⟩ := s4
  refine call_mw (I4.kIn _ _ hC) hx4 pin.1 (by show ws.length ≤ sizeLine; rw [← r4.length, sizeLine_eq]; omega) fun h5 t5 k5' hx5 => ?_
  have J := I4.write (t' := tk4) (x := a) (e := a) (o := exo a C none) (by rw [ha1]; exact True.intro) (.inl rfl) k5' ⟨_, hx5⟩ (exo_ok hx5)
  have eu : upd H1 a (exo a C none) = H1 := by
    funext b
    by_cases hb : b = a
    · rw [hb, upd_same, ha1]
    · rw [upd_ne hb]
  rw [eu] at J
  have J0 := J.pins_of (pins' := []) fun p hp => (nomatch hp)
  refine wpAt_of_wpAny (wpAny_mono (pr.run [] _ _ _ _ J0 ht) (fun fl s' hs => ?_) fun _ _ z => z.elim)
  cases fl with
  | ret u =>
    obtain ⟨v, σ', H', J', rv, q'⟩ := hs
    exact ⟨v, H', J'.os, J'.bare, J'.base, J'.hok, rv, q'⟩
  | next =>
    obtain ⟨σ', H', J', q'⟩ := hs
    exact ⟨V.non, H', J'.os, J'.bare, J'.base, J'.hok, rfl, q'⟩
  | brk => exact hs.elim fun _ h => h.elim fun _ h => h.2.elim
  | cont => exact hs.elim fun _ h => h.elim fun _ h => h.2.elim
end PK
/-! Heaps together, what is above, what lacks. -/
namespace PK
open PySem PySem.Spec PyProof.Rows L2
/-- of this form, and of this shade where one is told -/
def sel (f : Str) (o : Option Str) (r : PRow) : Bool := decide (r.1 = f) && match o with
  | none => true
  | some t => decide (r.2.1 = t)
def selL (L : List PRow) (f : Str) (o : Option Str) : List Int := (L.filter (sel f o)).map fun r => r.2.2
def manyR (L : List PRow) (f : Str) (o : Option Str) : Int := (selL L f o).sum
theorem selL_snoc {L : List PRow} {i : Nat} {r : PRow} (h : L[i]? = some r) (f : Str) (o : Option Str) : selL (L.take (i + 1)) f o = selL (L.take i) f o ++ if sel f o r = true then [r.2.2] else [] := by
  unfold selL
  rw [take_snoc h, List.filter_append, List.map_append]
  congr 1
  by_cases e : sel f o r = true
  · rw [if_pos e, List.filter_cons_of_pos e]
    rfl
  · rw [if_neg e, List.filter_cons_of_neg e]
    rfl
theorem selL_len (L : List PRow) (f : Str) (o : Option Str) : (selL L f o).length ≤ L.length := by
  unfold selL
  rw [List.length_map]
  exact List.length_filter_le _ _
theorem manyR_cnt (L : List PRow) (k : PKey) : manyR L k.1 (some k.2) = cnt L k := by
  rw [← ofPart_sum k L]
  unfold manyR selL ofPart
  congr 2
  refine List.filter_congr fun r _ => ?_
  show (decide (r.1 = k.1) && decide (r.2.1 = k.2)) = decide (pk r = k)
  by_cases e1 : r.1 = k.1
  · by_cases e2 : r.2.1 = k.2
    · have : pk r = k := Prod.ext e1 e2
      simp [e1, e2, this]
    · have : ¬ pk r = k := fun z => e2 (congrArg Prod.snd z)
      simp [e2, this]
  · have : ¬ pk r = k := fun z => e1 (congrArg Prod.fst z)
    simp [e1, this]
/-- what the one has more than the other -/
def above1 (M : List PRow) (r : PRow) : Option PRow := if 0 < r.2.2 - cnt M (pk r) then some (r.1, r.2.1, r.2.2 - cnt M (pk r)) else none
def aboveR (L M : List PRow) : List PRow := L.filterMap (above1 M)
theorem aboveR_snoc {L M : List PRow} {i : Nat} {r : PRow} (h : L[i]? = some r) : aboveR (L.take (i + 1)) M = aboveR (L.take i) M ++ if 0 < r.2.2 - cnt M (pk r) then [(r.1, r.2.1, r.2.2 - cnt M (pk r))] else [] := by
  unfold aboveR
  rw [take_snoc h, List.filterMap_append]
  congr 1
  rw [List.filterMap_cons]
  unfold above1
  by_cases e : 0 < r.2.2 - cnt M (pk r)
  · rw [if_pos e, if_pos e]
    rfl
  · rw [if_neg e, if_neg e]
    rfl
theorem aboveR_len (L M : List PRow) : (aboveR L M).length ≤ L.length := List.length_filterMap_le _ _
theorem aboveR_mem {L M : List PRow} {q : PRow} (h : q ∈ aboveR L M) : ∃ r ∈ L, pk q = pk r ∧ q.2.2 = r.2.2 - cnt M (pk r) ∧ 0 < q.2.2 := by
  obtain ⟨r, hr, e⟩ := List.mem_filterMap.mp h
  unfold above1 at e
  split at e
  · rename_i z
    cases e
    exact ⟨r, hr, rfl, rfl, z⟩
  · cases e
theorem aboveR_ok {n m : Nat} {b c : Int} {L M : List PRow} (hL : RowsOk n b L) (hM : RowsOk m c M) : RowsOk n b (aboveR L M) := by
  refine ⟨Nat.le_trans (aboveR_len L M) hL.len, fun q hq => ?_⟩
  obtain ⟨r, hr, e1, e2, h0⟩ := aboveR_mem hq
  have okr := hL.each r hr
  have hn := cnt_nn hM (pk r)
  have hi := okr.hi
  have f1 : q.1 = r.1 := congrArg (fun k : PKey => k.1) e1
  have f2 : q.2.1 = r.2.1 := congrArg (fun k : PKey => k.2) e1
  exact ⟨by rw [f1]; exact okr.f, by rw [f2]; exact okr.s, by omega, by omega⟩
theorem rises_above {L M : List PRow} (h : Rises (L.map fun r => pkD (pk r))) : Rises ((aboveR L M).map fun r => pkD (pk r)) := by
  unfold Rises at h ⊢
  rw [List.pairwise_map] at h ⊢
  unfold aboveR
  refine List.pairwise_filterMap.mpr (h.imp fun {a b} z a' ha b' hb => ?_)
  unfold above1 at ha hb
  split at ha
  · split at hb
    · cases ha
      cases hb
      exact z
    · cases hb
  · cases ha
/-- rising rows are their own sums -/
theorem sumR_id {M : List PRow} (h : Rises (M.map fun r => pkD (pk r))) : sumR M = M := by
  symm
  refine sumR_of h (fun k => Iff.rfl) fun r hr => ?_
  have nd : (M.map pk).Nodup := by
    unfold Rises at h
    rw [List.pairwise_map] at h
    unfold List.Nodup
    rw [List.pairwise_map]
    refine h.imp fun {a b} z e => ?_
    rw [e, dlt_irr] at z
    cases z
  clear h
  induction M with
  | nil => cases hr
  | cons q M ih =>
    rw [List.map_cons] at nd
    obtain ⟨n1, n2⟩ := List.nodup_cons.mp nd
    rw [cnt_cons]
    rcases List.mem_cons.mp hr with e | e
    · subst e
      rw [if_pos rfl, cnt_none n1]
      omega
    · have hne : ¬ pk q = pk r := fun z => n1 (by rw [z]; exact List.mem_map.mpr ⟨r, e, rfl⟩)
      rw [if_neg hne, ← ih e n2]
      omega
theorem sumR_rises (L : List PRow) : Rises ((sumR L).map fun r => pkD (pk r)) := by
  have e : ((sumR L).map fun r => pkD (pk r)) = ((sumR L).map pk).map pkD := by rw [List.map_map]; rfl
  rw [e, sumR_keys]
  exact skeys_rises L
/-! ### what the methods promise -/
def spManyM (K : PySem.W.Frag) (C : Addr) : Sp := fun vs H Q _ => ∃ (p : Addr) (f : Str) (x : V) (o : Option Str) (L : List PRow), vs = [.ref p, .str f, x] ∧ HeapAt K C H p L ∧ L.length ≤ 900 ∧
  ((x = .non ∧ o = none) ∨ ∃ t, x = .str t ∧ o = some t) ∧ ∀ H' : Hp, Same H H' → Q (.int (manyR L f o)) H'
def spAbove (K : PySem.W.Frag) (C : Addr) : Sp := fun vs H Q _ => ∃ (p q : Addr) (L M : List PRow), vs = [.ref p, .ref q] ∧ HeapAt K C H p L ∧ HeapAt K C H q M ∧ L.length ≤ 900 ∧ M.length ≤ 900 ∧
  ∀ (v : V) (H' : Hp), Same H H' → Dp K H' v (rowsD (aboveR L M)) → Q v H'
def spPlus (K : PySem.W.Frag) (C : Addr) : Sp := fun vs H Q _ => ∃ (p q : Addr) (L M : List PRow), vs = [.ref p, .ref q] ∧ HeapAt K C H p L ∧ HeapAt K C H q M ∧ L.length + M.length ≤ 900 ∧
  ∀ (r : Addr) (H' : Hp), H r = none → Same H H' → HeapAt K C H' r (sumR (L ++ M)) → Q (.ref r) H'
def spHolds (K : PySem.W.Frag) (C : Addr) : Sp := fun vs H Q _ => ∃ (p q : Addr) (L M : List PRow) (n : Nat) (b : Int), vs = [.ref p, .ref q] ∧ HeapAt K C H p L ∧ HeapAt K C H q M ∧ RowsOk n b L ∧ RowsOk n b M ∧ n ≤ 900 ∧
  ∀ H' : Hp, Same H H' → Q (.bl (decide (aboveR M L = []))) H'
/-- an error with the one field -/
def spErr1 (C : Addr) (f : Str) : Sp := fun vs H Q _ => ∃ (a : Addr) (v : V), vs = [.ref a, v] ∧ H a = some (exo a C none) ∧
  ∀ (dx : Addr), H dx = none → dx ≠ a → Q .non (upd (upd H dx (exd dx [(f, v)])) a (exo a C (some dx)))
def spLess (K : PySem.W.Frag) (C CN : Addr) : Sp := fun vs H Q E => ∃ (p q : Addr) (L M : List PRow) (n : Nat) (b : Int), vs = [.ref p, .ref q] ∧ HeapAt K C H p L ∧ HeapAt K C H q M ∧ RowsOk n b L ∧ RowsOk n b M ∧ n ≤ 900 ∧
  Rises (L.map fun r => pkD (pk r)) ∧ Rises (M.map fun r => pkD (pk r)) ∧
  (aboveR M L = [] → ∀ (r : Addr) (H' : Hp), H r = none → Same H H' → HeapAt K C H' r (aboveR L M) → Q (.ref r) H') ∧
  (aboveR M L ≠ [] → ∀ (r d : Addr) (H' : Hp), H d = none → H r = none → Same H H' → HeapAt K C H' r (aboveR M L) → H' d = some (.xd [("lacking", .ref r)]) → E (.ref CN) (some d) H')
/-- rows == (), rows != () -/
theorem rows_shaped {n : Nat} {b : Int} {L : List PRow} (h : RowsOk n b L) : SeqAt.shaped (rowsD L) = true := by
  have hc : PyData.canLayAll0 (L.map prowD) = true := by
    have all := h.each
    clear h
    induction L with
    | nil => rfl
    | cons r L ih =>
      rw [List.map_cons]
      show (PyData.canLay0 (prowD r) && PyData.canLayAll0 (L.map prowD)) = true
      rw [ih fun q hq => all q (List.mem_cons_of_mem _ hq)]
      have okr := all r List.mem_cons_self
      simp [prowD, PyData.canLay0, PyData.canLayAll0, word_ok okr.f, word_ok okr.s]
  have hd : (rowsD L).depth ≤ 64 := by
    have : PyData.depthAll (L.map prowD) ≤ 63 := depthAll_le fun d hd => by
      obtain ⟨r, _, rfl⟩ := List.mem_map.mp hd
      show 1 ≤ 63
      decide
    show PyData.depthAll (L.map prowD) + 1 ≤ 64
    omega
  unfold SeqAt.shaped
  rw [show (rowsD L).canLay0 = true from by simpa [rowsD, PyData.canLay0] using hc, decide_eq_true hd]
  rfl
theorem rows_alike (L M : List PRow) : PySem.W.alike (rowsD L) (rowsD M) = true := by
  show PySem.W.alikeAll (L.map prowD) (M.map prowD) = true
  induction L generalizing M with
  | nil => simp [PySem.W.alikeAll]
  | cons r L ih =>
    cases M with
    | nil => simp [PySem.W.alikeAll]
    | cons q M =>
      rw [List.map_cons, List.map_cons, PySem.W.alikeAll, ih]
      simp [prowD, PySem.W.alike, PySem.W.alikeAll]
theorem prowD_inj {a b : PRow} (h : prowD a = prowD b) : a = b := by
  unfold prowD at h
  injection h with h
  injection h with h1 h
  injection h with h2 h
  injection h with h3 _
  injection h1 with h1
  injection h2 with h2
  injection h3 with h3
  exact Prod.ext h1 (Prod.ext h2 h3)
theorem rowsD_inj {L M : List PRow} (h : rowsD L = rowsD M) : L = M := by
  unfold rowsD at h
  injection h with h
  exact (List.map_inj_right fun a b => prowD_inj).mp h
theorem rows_eqv (L M : List PRow) : PyData.eqv (rowsD L) (rowsD M) = decide (L = M) := by
  by_cases e : L = M
  · subst e
    rw [decide_eq_true rfl]
    exact eqv_refl _ (flat_rows L)
  · rw [decide_eq_false e]
    exact eqv_false (rows_alike L M) fun z => e (rowsD_inj z)
end PK
/-! Sets of texts: made by a comprehension, sorted. -/
namespace PK
open PySem PySem.Spec PyProof.Rows L2
/-- the set at a holds just the texts l, each once -/
def SetTx (P : Program) (w : World) (h : Heap) (a : Addr) (l : List Str) : Prop := ∃ D : Froz.SD, h.get? a = some (Froz.sObj "set" D) ∧ Froz.TxOk P w D l ∧ Ris D.2.2.place.toList ∧ (w.params.followText "set-order" = true ∨ D.2.2.led = true)
def SetTO (P : Program) (w : World) (a : Addr) (l : List Str) : HO := .ext fun h => SetTx P w h a l
/-- one more -/
def ins (k : Str) (l : List Str) : List Str := if k ∈ l then l else k :: l
section
variable {P : Program} {w : World} {A : Around} {E : Value → Shared → Prop} {s : Shared}
end
/-! ### members -/
/-- texts in order -/
def sortS (l : List Str) : List Str := srt false PyData.str l
theorem str_alike (a b : Str) : PySem.W.alike (PyData.str a) (PyData.str b) = true := by simp [PySem.W.alike]
/-! ### sorted -/
section
variable {X : Cx}
end
end PK
/-! {text for target in iter}. -/
namespace PK
open PySem PySem.Spec PyProof.Rows L2
section
variable {X : Cx} {pins : List (Addr × Obj)} {σ : L2.St} {H : Hp} {s : Shared}
end
end PK
/-! The forms of a heap. -/
namespace PK
open PySem PySem.Spec PyProof.Rows L2
def formL (L : List PRow) : List Str := L.foldl (fun l r => ins r.1 l) []
def formsR (L : List PRow) : List Str := sortS (formL L)
end PK
/-! Drawn names are unlike. -/
namespace PK
open PySem PySem.Spec PyProof.Rows L2
theorem cps_app (x y : Str) : (x ++ y).cps.toList = x.cps.toList ++ y.cps.toList := by
  show (x.cps ++ y.cps).toList = _
  exact Array.toList_append ..
def hd1 (y : Str) : Option Nat := y.cps.toList.head?
def letterOf (j : Int) : Nat := 97 + (j % 26).toNat
theorem abc_at2 {i : Int} (h0 : 0 ≤ i) (h1 : i < 26) {x : Nat} (h : atI abc.cps.toList i = some x) : x = 97 + i.toNat := by
  rw [abc_list] at h
  obtain ⟨n, rfl⟩ := Int.eq_ofNat_of_zero_le h0
  have e : atI (List.range' 97 26) (n : Int) = some (97 + n) := by
    refine atI_nat ?_
    rw [List.getElem?_range' (by omega), Nat.one_mul]
  rw [e] at h
  rw [Int.toNat_natCast]
  exact (Option.some.inj h).symm
structure NmOk (a0 z : Int) (ws : List Str) : Prop where
  nd : ws.Nodup
  lo : a0 ≤ z
  few : z - a0 ≤ ws.length
  hd : ∀ y ∈ ws, ∃ j, a0 < j ∧ j ≤ z ∧ hd1 y = some (letterOf j)
  last : ∀ h : ws ≠ [], hd1 (ws.getLast h) = some (letterOf z) ∧ ∀ y ∈ ws, hd1 y = some (letterOf z) → y.length ≤ (ws.getLast h).length
theorem NmOk.nil (a0 : Int) : NmOk a0 a0 [] := ⟨List.nodup_nil, Int.le_refl _, by simp, fun _ h => (nomatch h), fun h => absurd rfl h⟩
theorem last_snoc {ws : List Str} {y : Str} (h : ws ++ [y] ≠ []) : (ws ++ [y]).getLast h = y := by simp
/-- one with another letter behind the last one -/
theorem NmOk.more {a0 z : Int} {ws : List Str} {c : Nat} (n : NmOk a0 z ws) (h : ws ≠ []) (h1 : 1 ≤ (ws.getLast h).length) : NmOk a0 z (ws ++ [ws.getLast h ++ ⟨#[c]⟩]) := by
  obtain ⟨e1, e2⟩ := n.last h
  have lm := List.getLast_mem h
  have hz := n.hd _ lm
  have hh : hd1 (ws.getLast h ++ ⟨#[c]⟩) = some (letterOf z) := by
    rw [← e1]
    unfold hd1
    generalize ws.getLast h = y at h1
    have e : (y ++ (⟨#[c]⟩ : Str)).cps.toList = y.cps.toList ++ [c] := cps_app _ _
    rw [e]
    have : y.cps.toList ≠ [] := fun q => by
      have : y.length = 0 := by
        show y.cps.size = 0
        rw [← Array.length_toList, q]
        rfl
      omega
    cases q : y.cps.toList with
    | nil => exact absurd q this
    | cons a l => rfl
  have ll : (ws.getLast h ++ (⟨#[c]⟩ : Str)).length = (ws.getLast h).length + 1 := by rw [strLen_append, len_one]
  refine ⟨?_, n.lo, ?_, fun y hy => ?_, fun h' => ?_⟩
  · refine List.nodup_append.mpr ⟨n.nd, List.nodup_cons.mpr ⟨by simp, List.nodup_nil⟩, fun a ha b hb e => ?_⟩
    rw [List.mem_singleton.mp hb] at e
    have := e2 a ha (by rw [e]; exact hh)
    rw [e, ll] at this
    omega
  · rw [List.length_append, List.length_singleton]
    have := n.few
    omega
  · rcases List.mem_append.mp hy with q | q
    · exact n.hd y q
    · rw [List.mem_singleton.mp q, hh]
      obtain ⟨j, j1, j2, _⟩ := hz
      exact ⟨z, by omega, Int.le_refl _, rfl⟩
  · rw [last_snoc]
    refine ⟨hh, fun y hy q => ?_⟩
    rcases List.mem_append.mp hy with z1 | z1
    · have := e2 y z1 q
      omega
    · rw [List.mem_singleton.mp z1]
      exact Nat.le_refl _
/-- one with the next letter ahead -/
theorem NmOk.next {a0 z : Int} {ws : List Str} {y : Str} (n : NmOk a0 z ws) (h8 : ws.length ≤ 20) (hy : hd1 y = some (letterOf (z + 1))) : NmOk a0 (z + 1) (ws ++ [y]) := by
  have few := n.few
  have lo := n.lo
  have ne : ∀ v ∈ ws, hd1 v ≠ some (letterOf (z + 1)) := fun v hv q => by
    obtain ⟨j, j1, j2, e⟩ := n.hd v hv
    rw [e] at q
    have q := Option.some.inj q
    unfold letterOf at q
    have a1 := Int.emod_nonneg j (show (26 : Int) ≠ 0 by decide)
    have a2 := Int.emod_nonneg (z + 1) (show (26 : Int) ≠ 0 by decide)
    omega
  refine ⟨?_, by omega, ?_, fun v hv => ?_, fun h' => ?_⟩
  · refine List.nodup_append.mpr ⟨n.nd, List.nodup_cons.mpr ⟨by simp, List.nodup_nil⟩, fun a ha b hb e => ?_⟩
    rw [List.mem_singleton.mp hb] at e
    exact ne a ha (by rw [e]; exact hy)
  · rw [List.length_append, List.length_singleton]
    omega
  · rcases List.mem_append.mp hv with q | q
    · obtain ⟨j, j1, j2, e⟩ := n.hd v q
      exact ⟨j, j1, by omega, e⟩
    · rw [List.mem_singleton.mp q]
      exact ⟨z + 1, by omega, Int.le_refl _, hy⟩
  · rw [last_snoc]
    refine ⟨hy, fun v hv q => ?_⟩
    rcases List.mem_append.mp hv with z1 | z1
    · exact absurd q (ne v z1)
    · rw [List.mem_singleton.mp z1]
      exact Nat.le_refl _
theorem hd_cons {x : Nat} {y : Str} : hd1 (⟨#[x]⟩ ++ y) = some x := by
  unfold hd1
  have e : ((⟨#[x]⟩ : Str) ++ y).cps.toList = x :: y.cps.toList := cps_app _ _
  rw [e]
  rfl
end PK
/-! Words near a word; how many of a form; methods called with keywords. -/
namespace PK
open PySem PySem.Spec PyProof.Rows L2
/-! ### o.m(.., k = v, ..) -/
abbrev viaMeth (env : Env) (o : Expr) (m : Str) (pl : Sem Bool) (apos pos : Pos) (args : List Expr) (kws : List Keyword) : Sem Value := do
  let x ← eval o env; standAt apos.atName; let (g, fst) ← holding [x] (getMethod x m pl); callWith pos g fst (backTo pos (starEach args env)) (backToKw pos (keywordEach kws env))
section
variable {X : Cx} {CX : CXT} {k n : Nat} {C f : Addr} {fd : FuncData} {ps ks : List Str} {sp : Sp} {E : XK} {m : Str} {apos pos : Pos} {o e : Expr} {es : List Expr} {kws : List Keyword} {ta : TE} {t tk : TA} {gV : List V → List V → List V}
end
/-! ### texts in a list of texts -/
/-! ### words near a word -/
def w7 (y : Str) : Str := Txt.slice y none (some 7) ++ "a"
def w1 (y : Str) : Str := Txt.slice y none (some 1)
def wz (y : Str) : Str := Txt.slice y none (some (-1)) ++ "z"
def near (y : Str) : List Str := [w7 y, w1 y, wz y]
/-! ### sorted(l), l of unlike texts -/
/-! ### places in the text -/
/-! ### how many of a form -/
/-! ### what the law holds a heap against -/
theorem HeapAt.lst {K : PySem.W.Frag} {C : Addr} {H : Hp} {p d : Addr} {L : List PRow} {xs : List V} {o : HO} (h : HeapAt K C H p L) (hd : H d = some (.lst xs)) : HeapAt K C (upd H d o) p L := by
  obtain ⟨dx, t, h1, h2⟩ := h
  refine ⟨dx, t, ?_, Dp.keepT (TKeep.lst hd) (flat_rows L) h2⟩
  rw [upd_ne (ne_of h1 hd (by intro z; cases z))]
  exact h1
structure MMn (P : Program) (w : World) (K : PySem.W.Frag) (mg : Str → Option Value) (base : Heap) (k : Nat) (C f : Addr) (fd : FuncData) : Prop where
  ok : FnOk P w K mg base CX0 k f fd ["self", "form", "shade"] (spManyM K C)
  m : Meth K C "many" f
  k2 : KB K fd ["self", "form", "shade"] 2 [] (fun vs _ => vs ++ [.non])
  k3 : KB K fd ["self", "form", "shade"] 3 [] (fun vs _ => vs)
  kf : KB K fd ["self", "form", "shade"] 1 ["form"] (fun vs zs => vs ++ (zs ++ [.non]))
  ks : KB K fd ["self", "form", "shade"] 2 ["shade"] (fun vs zs => vs ++ zs)
  ksf : KB K fd ["self", "form", "shade"] 1 ["shade", "form"] (fun vs zs => vs ++ zs.reverse)
end PK
/-! Heaps by ==, != and len: own methods that built-in ones call; methods that raise, within a try. -/
namespace PK
open PySem PySem.Spec PyProof.Rows L2
section
variable {prog : Program} {w : World} {A : Around} {E : Value → Shared → Prop} {s : Shared} {K : PySem.W.Frag} {x C f : Addr} {ox : Obj} {od : Option Obj}
end
section
variable {X : Cx} {pins : List (Addr × Obj)} {σ : L2.St} {H : Hp} {s : Shared} {k : Nat} {f C : Addr} {fd : FuncData} {ps : List Str} {sp : Sp}
end
theorem k_isi {X : Cx} (K : PySem.W.Frag) (hK : X.K = K := by rfl) : CallR X (.builtin "isinstance") (rIsi K) := by subst hK; exact call_isi
/-! ### two heaps -/
/-- what is told of the class beside -/
structure HIs (K : PySem.W.Frag) (C : Addr) : Prop where
  ca : PySem.W.findIn K (.ref C) "__class__" = some (some (.builtin "object.__class__"))
  cg : PySem.W.specialIn K (.builtin "object.__class__") "__get__" = some (some (.builtin "getset_descriptor.__get__"))
  ct : PySem.W.takesIn K (.builtin "object.__class__") = some true
  cm : PySem.W.mroIn K C (.type "object") = some true
theorem kit_self (K : PySem.W.Frag) (C : Addr) : PySem.W.kitOne K (.ref C) (.ref C) = some true := by
  unfold PySem.W.kitOne
  rw [if_pos (beq_self_eq_true _)]
theorem HeapAt.ty {K : PySem.W.Frag} {mg : Str → Option Value} {C p : Addr} {H : Hp} {L : List PRow} (h : HeapAt K C H p L) (T : HCls K mg C) (U : HIs K C) : TyX K H (.ref p) (.ref C) := by
  obtain ⟨dx, t, h1, _⟩ := h
  exact .base (.ins h1 T.cl U.ca U.cg U.ct U.cm)
/-- an own method with its class's name for it -/
structure HSp (P : Program) (w : World) (K : PySem.W.Frag) (mg : Str → Option Value) (base : Heap) (k : Nat) (C : Addr) (x : Str) (f : Addr) (fd : FuncData) (ps : List Str) (sp : Sp) : Prop where
  ok : FnOk P w K mg base CX0 k f fd ps sp
  fi : PySem.W.findIn K (.ref C) x = some (some (.ref f))
  fn : PySem.W.isFn K (.ref f) = true
  b : Binds K fd ps []
section
variable {X : Cx} {k : Nat} {C f : Addr} {fd : FuncData}
end
/-! ### a method that may raise, within a try -/
section
variable {X : Cx} {CX : CXT} {k : Nat} {f C : Addr} {fd : FuncData} {ps : List Str} {sp : Sp} {E : L2.St → XK} {m : Str} {pos apos : Pos} {e o : Expr} {es : List Expr} {ta : TE} {t : TA}
def tMethX (C : Addr) (m : Str) (sp : Sp) (E : L2.St → XK) (ta : TE) (t : TA) : TE := fun σ H Q => ta σ H fun x H1 => ∃ a dx fs, x = .ref a ∧ H1 a = some (.ins C dx fs) ∧ fs.lookup m = none ∧ t σ H1 fun vs H2 => sp (x :: vs) H2 Q (E σ)
theorem pe_methX {pl : Sem Bool} (he : PE X o ta) (c : Cls X.K C) (hm : Meth X.K C m f) (F : FnOk X.prog X.w X.K X.mg X.base CX k f fd ps sp) (hr : Room k X.A) (hb : Binds X.K fd ps []) (hx : ∀ σ, PassesAt CX X σ (E σ)) (ha : PA X (e :: es) t)
    (hst : starEach (e :: es) X.env = (false, eval e X.env) :: starEach es X.env := by rfl) (hpl : (backTo pos (starEach es X.env)).any (·.1) = false := by rfl)
    (ht : eval (.Call (.Attribute o m apos) (e :: es) [] pos) X.env = viaMeth X.env o m pl apos pos (e :: es) [] := by rfl) :
    PE X (.Call (.Attribute o m apos) (e :: es) [] pos) (tMethX C m sp E ta t) := by
  refine ⟨fun pins s σ H Q I h => PySem.W.methodCall_KW (pl := pl) (thn (he.run pins s σ H _ I h) ?_) ht⟩
  rintro u s1 ⟨x, H1, I1, rx, a, dx, fs, rfl, ea, l, q⟩
  obtain rfl : u = Value.ref a := rx
  refine getmeth_ok I1 ea c hm l (PySem.W.callWith_K (first := [.ref a]) (h₀ := X.base) I.ok.mod.kin hm.kp (thn (ha.run pos pins s1 σ H1 _ I1 q) ?_) hst hpl)
  rintro us s2 ⟨vs, H2, I2, r, q2⟩
  exact ⟨I2.kIn, run_fnSD (us := .ref a :: us) (vs := .ref a :: vs) (dvs := []) (ds := []) F hr hb .nil (hx σ) I2 (.cons rfl r) (by rw [List.append_nil]; exact q2)⟩
end
end PK
/-! Things of any kind: what stays, how long they are shown, what they are. -/
namespace PK
open PySem PySem.Spec PyProof.Rows L2
/-! ### what stays: tuples and lists -/
def Lk : HO → Prop
  | .tup _ => True
  | .frz _ _ => True
  | .lst _ => True
  | _ => False
def LKeep (H H' : Hp) : Prop := ∀ b u, Lk u → H b = some u → H' b = some u
theorem LKeep.refl (H : Hp) : LKeep H H := fun _ _ _ h => h
theorem LKeep.trans {H H1 H2 : Hp} (x : LKeep H H1) (y : LKeep H1 H2) : LKeep H H2 := fun b u t h => y b u t (x b u t h)
theorem LKeep.of {H H' : Hp} (x : Same H H') : LKeep H H' := fun b u _ h => x b u h
theorem LKeep.feed {H H' : Hp} {a c : Addr} (f : IsFeed H a c) (x : Ext a H H') : LKeep H H' := fun b u t h => by
  obtain ⟨cs, i, l, n, f⟩ := f
  exact x b u h (ne_of h f.d (by rintro rfl; exact t))
theorem LKeep.sqT {K : PySem.W.Frag} {H H' : Hp} {b : Addr} {xs : List V} (x : LKeep H H') (h : SqT K H b xs) : SqT K H' b xs := by
  rcases h with (h | ⟨o, h⟩) | h
  · exact Or.inl (Or.inl (x _ _ trivial h))
  · exact Or.inl (Or.inr ⟨o, x _ _ trivial h⟩)
  · exact Or.inr h
theorem LKeep.sqL {K : PySem.W.Frag} {H H' : Hp} {b : Addr} {xs : List V} (x : LKeep H H') (h : SqL K H b xs) : SqL K H' b xs := by
  rcases h with (h | ⟨o, h⟩) | h
  · exact Or.inl (Or.inl (x _ _ trivial h))
  · exact Or.inl (Or.inr ⟨o, x _ _ trivial h⟩)
  · exact Or.inr h
mutual
theorem Dp.keepL {K : PySem.W.Frag} {H H' : Hp} (x : LKeep H H') : ∀ {d : PyData} {v : V}, Dp K H v d → Dp K H' v d
  | .none, _, .non => .non
  | .bool _, _, .bl b => .bl b
  | .int _, _, .int i => .int i
  | .str _, _, .str y => .str y
  | .list _, _, .lst hs ha => .lst (x.sqL hs) (DpAll.keepL x ha)
  | .tuple _, _, .tup hs ha => .tup (x.sqT hs) (DpAll.keepL x ha)
theorem DpAll.keepL {K : PySem.W.Frag} {H H' : Hp} (x : LKeep H H') : ∀ {ds : List PyData} {vs : List V}, DpAll K H vs ds → DpAll K H' vs ds
  | [], _, .nil => .nil
  | _ :: _, _, .cons h1 h2 => .cons (Dp.keepL x h1) (DpAll.keepL x h2)
end
/-- all but the object at d -/
def mask (H : Hp) (d : Addr) : Hp := fun b => if b = d then none else H b
/-! ### what can be laid, shown -/
structure Ok (d : PyData) : Prop where
  lay : d.canLay0 = true
  sh : d.showable = true
  nd : d.hasDict = false
theorem okAll {ds : List PyData} : (∀ d ∈ ds, Ok d) ↔ (PyData.canLayAll0 ds = true ∧ PyData.showableAll ds = true ∧ PyData.hasDictAll ds = false) := by
  induction ds with
  | nil => exact ⟨fun _ => ⟨rfl, rfl, rfl⟩, fun _ d h => (nomatch h)⟩
  | cons d ds ih =>
    constructor
    · intro h
      obtain ⟨h1, h2, h3⟩ := ih.mp fun e he => h e (List.mem_cons_of_mem _ he)
      have q := h d List.mem_cons_self
      refine ⟨?_, ?_, ?_⟩
      · show (d.canLay0 && PyData.canLayAll0 ds) = true
        rw [q.lay, h1]
        rfl
      · show (d.showable && PyData.showableAll ds) = true
        rw [q.sh, h2]
        rfl
      · show (d.hasDict || PyData.hasDictAll ds) = false
        rw [q.nd, h3]
        rfl
    · rintro ⟨h1, h2, h3⟩
      have h1 : (d.canLay0 && PyData.canLayAll0 ds) = true := h1
      have h2 : (d.showable && PyData.showableAll ds) = true := h2
      have h3 : (d.hasDict || PyData.hasDictAll ds) = false := h3
      rw [Bool.and_eq_true] at h1 h2
      rw [Bool.or_eq_false_iff] at h3
      intro e he
      rcases List.mem_cons.mp he with rfl | he
      · exact ⟨h1.1, h2.1, h3.1⟩
      · exact ih.mpr ⟨h1.2, h2.2, h3.2⟩ e he
theorem Ok.tuple {ds : List PyData} (h : ∀ d ∈ ds, Ok d) : Ok (.tuple ds) := by
  obtain ⟨h1, h2, h3⟩ := okAll.mp h
  exact ⟨by simpa [PyData.canLay0] using h1, by simpa [PyData.showable] using h2, by simpa [PyData.hasDict] using h3⟩
theorem Ok.list {ds : List PyData} (h : ∀ d ∈ ds, Ok d) : Ok (.list ds) := by
  obtain ⟨h1, h2, h3⟩ := okAll.mp h
  exact ⟨by simpa [PyData.canLay0] using h1, by simpa [PyData.showable] using h2, by simpa [PyData.hasDict] using h3⟩
theorem Ok.mem {ds : List PyData} (h : Ok (.tuple ds)) : ∀ d ∈ ds, Ok d := okAll.mpr ⟨by simpa [PyData.canLay0] using h.lay, by simpa [PyData.showable] using h.sh, by simpa [PyData.hasDict] using h.nd⟩
theorem Ok.memL {ds : List PyData} (h : Ok (.list ds)) : ∀ d ∈ ds, Ok d := okAll.mpr ⟨by simpa [PyData.canLay0] using h.lay, by simpa [PyData.showable] using h.sh, by simpa [PyData.hasDict] using h.nd⟩
/-! ### a bound of the length when shown -/
mutual
def wt : PyData → Nat
  | .none => 4
  | .bool _ => 5
  | .int i => i.natAbs.log2 + 2
  | .str y => 10 * y.length + 2
  | .tuple ds => wts ds + 3
  | .list ds => wts ds + 3
  | .dict _ => 0
def wts : List PyData → Nat
  | [] => 0
  | d :: ds => wt d + 2 + wts ds
end
theorem wts_app : ∀ a b : List PyData, wts (a ++ b) = wts a + wts b
  | [], b => by rw [List.nil_append]; show _ = 0 + _; omega
  | d :: a, b => by
    show wt d + 2 + wts (a ++ b) = wt d + 2 + wts a + wts b
    rw [wts_app a b]
    omega
theorem wts_take (n : Nat) : ∀ ds : List PyData, wts (ds.take n) ≤ wts ds := by
  intro ds
  have := wts_app (ds.take n) (ds.drop n)
  rw [List.take_append_drop] at this
  omega
theorem wts_drop (n : Nat) (ds : List PyData) : wts (ds.drop n) ≤ wts ds := by
  have := wts_app (ds.take n) (ds.drop n)
  rw [List.take_append_drop] at this
  omega
theorem wts_len {n : Nat} : ∀ {ds : List PyData}, wts ds ≤ 2 * n → ds.length ≤ n
  | [], _ => Nat.zero_le _
  | d :: ds, h => by
    have h : wt d + 2 + wts ds ≤ 2 * n := h
    have := wts_len (n := n - 1) (ds := ds) (by omega)
    rw [List.length_cons]
    omega
theorem cps_small {y : Str} (h : PyData.strOk y = true) : ∀ c ∈ y.cps.toList, c < 16 ^ 8 := fun c hc => by
  unfold PyData.strOk at h
  rw [Array.all_eq_true_iff_forall_mem] at h
  have := of_decide_eq_true (h c (by simpa using hc))
  omega
mutual
theorem shown_wt : ∀ d : PyData, Ok d → d.shown.length ≤ wt d
  | .none, _ => by decide +kernel
  | .bool b, _ => by cases b <;> decide +kernel
  | .int i, _ => by
    have e : (PyData.shown (.int i)) = Str.ofString (toString i) := by simp only [PyData.shown]
    rw [e, PySem.ofString_length]
    exact int_text_length_le (k := i.natAbs.log2 + 1) (by omega) (by omega)
  | .str y, h => by
    have e : (PyData.shown (.str y)) = reprText y := by simp only [PyData.shown]
    rw [e]
    exact StrLaws.reprText_len y (cps_small (by simpa [PyData.canLay0] using h.lay))
  | .tuple ds, h => by
    have e : (PyData.shown (.tuple ds)) = tupleText (PyData.shownAll ds) := by simp only [PyData.shown]
    rw [e]
    have l := tupleText_len_le (PyData.shownAll ds)
    have q := shownAll_wt ds h.mem
    show _ ≤ wts ds + 3
    omega
  | .list ds, h => by
    have e : (PyData.shown (.list ds)) = listText (PyData.shownAll ds) := by simp only [PyData.shown]
    rw [e]
    have l := listText_len_le (PyData.shownAll ds)
    have q := shownAll_wt ds h.memL
    show _ ≤ wts ds + 3
    omega
  | .dict _, h => by
    have := h.lay
    simp [PyData.canLay0] at this
theorem shownAll_wt : ∀ ds : List PyData, (∀ d ∈ ds, Ok d) → ((PyData.shownAll ds).map (·.length)).sum + 2 * (PyData.shownAll ds).length ≤ wts ds
  | [], _ => Nat.le_refl _
  | d :: ds, h => by
    have h1 := shown_wt d (h d List.mem_cons_self)
    have h2 := shownAll_wt ds fun e he => h e (List.mem_cons_of_mem _ he)
    show (d.shown.length :: ((PyData.shownAll ds).map (·.length))).sum + 2 * ((PyData.shownAll ds).length + 1) ≤ wt d + 2 + wts ds
    rw [List.sum_cons]
    omega
end
/-- a thing: how deep, how long -/
structure Tg (dp n : Nat) (d : PyData) : Prop where
  ok : Ok d
  dep : d.depth ≤ dp
  wt : wt d ≤ n
theorem Tg.sh {dp n : Nat} {d : PyData} (h : Tg dp n d) : Sh d dp n := ⟨h.ok.sh, h.ok.nd, h.dep, Nat.le_trans (shown_wt d h.ok) h.wt⟩
theorem Tg.mono {dp n dp' n' : Nat} {d : PyData} (h : Tg dp n d) (h1 : dp ≤ dp') (h2 : n ≤ n') : Tg dp' n' d := ⟨h.ok, Nat.le_trans h.dep h1, Nat.le_trans h.wt h2⟩
theorem Tg.shaped {dp n : Nat} {d : PyData} (h : Tg dp n d) (hd : dp ≤ 64) : SeqAt.shaped d = true := by
  unfold SeqAt.shaped
  rw [h.ok.lay, decide_eq_true (Nat.le_trans h.dep hd)]
  rfl
theorem depthAll_mem {d : PyData} : ∀ {ds : List PyData}, d ∈ ds → d.depth ≤ PyData.depthAll ds
  | e :: ds, h => by
    show _ ≤ max e.depth (PyData.depthAll ds)
    rcases List.mem_cons.mp h with rfl | h
    · exact Nat.le_max_left _ _
    · exact Nat.le_trans (depthAll_mem h) (Nat.le_max_right _ _)
theorem depth_tuple (ds : List PyData) : (PyData.tuple ds).depth = PyData.depthAll ds + 1 := by simp only [PyData.depth]
theorem depth_list (ds : List PyData) : (PyData.list ds).depth = PyData.depthAll ds + 1 := by simp only [PyData.depth]
theorem Tg.tuple {dp n : Nat} {ds : List PyData} (h : ∀ d ∈ ds, Ok d ∧ d.depth ≤ dp) (hn : wts ds + 3 ≤ n) : Tg (dp + 1) n (.tuple ds) := by
  refine ⟨Ok.tuple fun d hd => (h d hd).1, ?_, hn⟩
  rw [depth_tuple]
  exact Nat.succ_le_succ (depthAll_le fun d hd => (h d hd).2)
theorem Tg.list {dp n : Nat} {ds : List PyData} (h : ∀ d ∈ ds, Ok d ∧ d.depth ≤ dp) (hn : wts ds + 3 ≤ n) : Tg (dp + 1) n (.list ds) := by
  refine ⟨Ok.list fun d hd => (h d hd).1, ?_, hn⟩
  rw [depth_list]
  exact Nat.succ_le_succ (depthAll_le fun d hd => (h d hd).2)
theorem Tg.each {dp n : Nat} {ds : List PyData} (h : Tg (dp + 1) n (.tuple ds)) : ∀ d ∈ ds, Ok d ∧ d.depth ≤ dp := fun d hd => by
  refine ⟨h.ok.mem d hd, ?_⟩
  have h1 := h.dep
  rw [depth_tuple] at h1
  have := depthAll_mem hd
  omega
theorem Ok.non : Ok .none := ⟨rfl, rfl, rfl⟩
theorem Ok.bl (b : Bool) : Ok (.bool b) := ⟨rfl, rfl, rfl⟩
theorem Ok.int {i : Int} (h : i.natAbs.log2 < 1920) : Ok (.int i) := ⟨rfl, decide_eq_true h, rfl⟩
theorem Ok.str {y : Str} (h : PyData.strOk y = true) : Ok (.str y) := ⟨h, rfl, rfl⟩
/-! ### the kinds -/
def tyD : PyData → String
  | .none => "NoneType"
  | .bool _ => "bool"
  | .int _ => "int"
  | .str _ => "str"
  | .tuple _ => "tuple"
  | .list _ => "list"
  | .dict _ => "dict"
theorem Dp.ty {K : PySem.W.Frag} {H : Hp} {v : V} {d : PyData} (h : Dp K H v d) : TyX K H v (.type (tyD d)) := by
  cases h with
  | non => exact .base .non
  | bl b => exact .base (.bl b)
  | int i => exact .base (.int i)
  | str y => exact .base (.str y)
  | lst hs _ =>
    rcases hs with (h | ⟨o, h⟩) | ⟨o, its, n, hk, hc, _⟩
    · exact .base (.lst h)
    · exact .base (.frz h)
    · exact .kList hk hc
  | tup hs _ =>
    rcases hs with (h | ⟨o, h⟩) | ⟨o, its, n, hk, hc, _⟩
    · exact .base (.tup h)
    · exact .fTuple h
    · exact .kTuple hk hc
theorem DpAll.three {K : PySem.W.Frag} {H : Hp} {xs : List V} {ds : List PyData} (h : DpAll K H xs ds) (hl : xs.length = 3) : ∃ d0 d1 d2 x0 x1 x2, ds = [d0, d1, d2] ∧ xs = [x0, x1, x2] ∧ Dp K H x0 d0 ∧ Dp K H x1 d1 ∧ Dp K H x2 d2 := by
  cases h with
  | nil => cases hl
  | cons h0 h =>
    cases h with
    | nil => cases hl
    | cons h1 h =>
      cases h with
      | nil => cases hl
      | cons h2 h =>
        cases h with
        | nil => exact ⟨_, _, _, _, _, _, rfl, rfl, h0, h1, h2⟩
        | cons _ _ => simp at hl
/-! ### names that are the built-in ones -/
def NoB (mg : Str → Option Value) (l : List Str) : Prop := ∀ x ∈ l, mg x = none
abbrev BL : List Str := ["isinstance", "int", "bool", "str", "tuple", "list", "len", "range", "repr", "all", "ord", "sorted", "set", "sum", "min", "zip", "max", "enumerate", "dict"]
/-- the program's own letters -/
structure Abc (mg : Str → Option Value) : Prop where
  le : ∃ u, mg "LETTERS" = some u ∧ RelV (.str abc) u
  lo : ∃ u, mg "LONGEST_WORD" = some u ∧ RelV (.int 8) u
/-! ### looks -/
end PK
/-! All but some lists that grow. -/
namespace PK
open PySem PySem.Spec PyProof.Rows L2
def ms (S : List Addr) (H : Hp) : Hp := fun b => if b ∈ S then none else H b
section
variable {K : PySem.W.Frag} {S : List Addr} {H H' : Hp} {a c o p D : Addr} {x u : HO}
theorem ms_at (h : H p = some u) (n : p ∉ S) : ms S H p = some u := by
  unfold ms
  rw [if_neg n]
  exact h
theorem ms_some (h : ms S H p = some u) : H p = some u ∧ p ∉ S := by
  unfold ms at h
  split at h
  · cases h
  · rename_i z
    exact ⟨h, z⟩
theorem ms_sub : Same (ms S H) H := fun b o h => (ms_some h).1
theorem ms_upd (h : o ∈ S) : ms S (upd H o x) = ms S H := by
  funext b
  unfold ms
  split
  · rfl
  · rename_i z
    exact upd_ne (fun e => z (by rw [e]; exact h))
end
theorem Dp.full {K : PySem.W.Frag} {S : List Addr} {H : Hp} {v : V} {d : PyData} (h : Dp K (ms S H) v d) : Dp K H v d := Dp.same ms_sub h
/-- these are lists -/
def Ls (S : List Addr) (H : Hp) : Prop := ∀ q ∈ S, ∃ l, H q = some (.lst l)
theorem Ls.keep {S : List Addr} {H H' : Hp} (h : Ls S H) (k : LKeep H H') : Ls S H' := fun q hq => by
  obtain ⟨l, e⟩ := h q hq
  exact ⟨l, k _ _ trivial e⟩
theorem Ls.same {S : List Addr} {H H' : Hp} (h : Ls S H) (k : Same H H') : Ls S H' := h.keep (LKeep.of k)
theorem Ls.out {S : List Addr} {H : Hp} {p : Addr} (h : Ls S H) (n : H p = none) : p ∉ S := fun z => by
  obtain ⟨l, e⟩ := h p z
  rw [n] at e
  cases e
theorem Ls.cons {S : List Addr} {H : Hp} {p : Addr} {l : List V} (e : H p = some (.lst l)) (h : Ls S H) : Ls (p :: S) H := fun q hq => by
  rcases List.mem_cons.mp hq with rfl | z
  · exact ⟨l, e⟩
  · exact h q z
theorem Ls.set {S : List Addr} {H : Hp} {t : Addr} {l : List V} (h : Ls S H) : Ls S (upd H t (.lst l)) := fun q hq => by
  by_cases z : q = t
  · rw [z]
    exact ⟨l, upd_same⟩
  · rw [upd_ne z]
    exact h q hq
theorem Ls.nil (H : Hp) : Ls [] H := fun _ h => (nomatch h)
end PK
/-! Things bent at some place. -/
namespace PK
open PySem PySem.Spec PyProof.Rows L2
/-! ### how great the numbers are -/
mutual
def mx : PyData → Nat
  | .int i => i.natAbs.log2
  | .tuple ds => mxs ds
  | .list ds => mxs ds
  | _ => 0
def mxs : List PyData → Nat
  | [] => 0
  | d :: ds => max (mx d) (mxs ds)
end
theorem mxs_le {m : Nat} : ∀ {ds : List PyData}, mxs ds ≤ m ↔ ∀ d ∈ ds, mx d ≤ m
  | [] => ⟨fun _ _ h => (nomatch h), fun _ => Nat.zero_le _⟩
  | d :: ds => by
    show max (mx d) (mxs ds) ≤ m ↔ _
    rw [Nat.max_le, mxs_le (ds := ds)]
    constructor
    · rintro ⟨h1, h2⟩ e he
      rcases List.mem_cons.mp he with rfl | he
      · exact h1
      · exact h2 e he
    · exact fun h => ⟨h d List.mem_cons_self, fun e he => h e (List.mem_cons_of_mem _ he)⟩
/-- what is known of a thing: texts, numbers, depth -/
structure Bd (m dp : Nat) (d : PyData) : Prop where
  lay : d.canLay0 = true
  mx : mx d ≤ m
  dep : d.depth ≤ dp
theorem canLay_all {ds : List PyData} : PyData.canLayAll0 ds = true ↔ ∀ d ∈ ds, d.canLay0 = true := by
  induction ds with
  | nil => exact ⟨fun _ _ h => (nomatch h), fun _ => rfl⟩
  | cons d ds ih =>
    show (d.canLay0 && PyData.canLayAll0 ds) = true ↔ _
    rw [Bool.and_eq_true, ih]
    constructor
    · rintro ⟨h1, h2⟩ e he
      rcases List.mem_cons.mp he with rfl | he
      · exact h1
      · exact h2 e he
    · exact fun h => ⟨h d List.mem_cons_self, fun e he => h e (List.mem_cons_of_mem _ he)⟩
mutual
theorem ok_of : ∀ {d : PyData} {m : Nat}, d.canLay0 = true → mx d ≤ m → m < 1920 → Ok d
  | .none, _, _, _, _ => Ok.non
  | .bool b, _, _, _, _ => Ok.bl b
  | .int i, _, _, h, hm => Ok.int (Nat.lt_of_le_of_lt h hm)
  | .str y, _, h, _, _ => Ok.str h
  | .tuple ds, _, h, h2, hm => Ok.tuple (oks_of (by simpa [PyData.canLay0] using h) h2 hm)
  | .list ds, _, h, h2, hm => Ok.list (oks_of (by simpa [PyData.canLay0] using h) h2 hm)
  | .dict _, _, h, _, _ => by simp [PyData.canLay0] at h
theorem oks_of : ∀ {ds : List PyData} {m : Nat}, PyData.canLayAll0 ds = true → mxs ds ≤ m → m < 1920 → ∀ d ∈ ds, Ok d
  | [], _, _, _, _, _, h => (nomatch h)
  | e :: ds, m, h, h2, hm, d, hd => by
    have h : (e.canLay0 && PyData.canLayAll0 ds) = true := h
    have h2 : max (mx e) (mxs ds) ≤ m := h2
    rw [Bool.and_eq_true] at h
    rw [Nat.max_le] at h2
    rcases List.mem_cons.mp hd with z | z
    · rw [z]
      exact ok_of h.1 h2.1 hm
    · exact oks_of h.2 h2.2 hm d z
end
theorem Bd.ok {m dp : Nat} {d : PyData} (h : Bd m dp d) (hm : m < 1920) : Ok d := ok_of h.lay h.mx hm
theorem Bd.mono {m dp m' dp' : Nat} {d : PyData} (h : Bd m dp d) (h1 : m ≤ m') (h2 : dp ≤ dp') : Bd m' dp' d := ⟨h.lay, Nat.le_trans h.mx h1, Nat.le_trans h.dep h2⟩
theorem Bd.tuple {m dp : Nat} {ds : List PyData} (h : ∀ d ∈ ds, Bd m dp d) : Bd m (dp + 1) (.tuple ds) := by
  refine ⟨?_, mxs_le.mpr fun d hd => (h d hd).mx, ?_⟩
  · have := canLay_all.mpr fun d hd => (h d hd).lay
    simpa [PyData.canLay0] using this
  · rw [depth_tuple]
    exact Nat.succ_le_succ (depthAll_le fun d hd => (h d hd).dep)
theorem Bd.list {m dp : Nat} {ds : List PyData} (h : ∀ d ∈ ds, Bd m dp d) : Bd m (dp + 1) (.list ds) := by
  refine ⟨?_, mxs_le.mpr fun d hd => (h d hd).mx, ?_⟩
  · have := canLay_all.mpr fun d hd => (h d hd).lay
    simpa [PyData.canLay0] using this
  · rw [depth_list]
    exact Nat.succ_le_succ (depthAll_le fun d hd => (h d hd).dep)
theorem Bd.mem {m dp : Nat} {ds : List PyData} (h : Bd m (dp + 1) (.tuple ds)) : ∀ d ∈ ds, Bd m dp d := fun d hd => by
  refine ⟨canLay_all.mp (by simpa [PyData.canLay0] using h.lay) d hd, mxs_le.mp h.mx d hd, ?_⟩
  have h1 := h.dep
  rw [depth_tuple] at h1
  have := depthAll_mem hd
  omega
theorem Bd.non {m dp : Nat} : Bd m dp .none := ⟨rfl, Nat.zero_le _, Nat.zero_le _⟩
theorem Bd.bl {m dp : Nat} (b : Bool) : Bd m dp (.bool b) := ⟨rfl, Nat.zero_le _, Nat.zero_le _⟩
theorem Bd.int {m dp : Nat} {i : Int} (h : i.natAbs.log2 ≤ m) : Bd m dp (.int i) := ⟨rfl, h, Nat.zero_le _⟩
theorem Bd.str {m dp : Nat} {y : Str} (h : PyData.strOk y = true) : Bd m dp (.str y) := ⟨h, Nat.zero_le _, Nat.zero_le _⟩
/-! ### slices of data -/
theorem DpAll.drop {K : PySem.W.Frag} {H : Hp} : ∀ (n : Nat) {vs : List V} {ds : List PyData}, DpAll K H vs ds → DpAll K H (vs.drop n) (ds.drop n)
  | 0, _, _, h => h
  | _ + 1, _, _, .nil => .nil
  | n + 1, _, _, .cons _ h2 => DpAll.drop n h2
/-- what is cut out of them -/
theorem DpAll.cut {K : PySem.W.Frag} {H : Hp} {vs : List V} {ds : List PyData} (h : DpAll K H vs ds) (lo hi : Option Int) : ∃ es, DpAll K H (cutV vs lo hi) es ∧ (∀ e ∈ es, e ∈ ds) ∧ wts es ≤ wts ds := by
  unfold cutV
  refine ⟨_, DpAll.take _ (DpAll.drop _ h), fun e he => List.mem_of_mem_drop (List.mem_of_mem_take he), ?_⟩
  exact Nat.le_trans (wts_take _ _) (wts_drop _ _)
/-- a slice of a tuple -/
theorem rd_sl {K : PySem.W.Frag} {H : Hp} {b : Addr} {xs : List V} {lo hi : Option Int} {Q : VK} (hb : SqT K H b xs) (q : ∀ c H', Same H H' → SqT K H' c (cutV xs lo hi) → Q (.ref c) H') :
    (HT.sIx xs.length 0 lo = 0 ∧ HT.sIx xs.length xs.length hi = xs.length → Q (.ref b) H) ∧ (¬ (HT.sIx xs.length 0 lo = 0 ∧ HT.sIx xs.length xs.length hi = xs.length) → ∀ p, H p = none → Q (.ref p) (upd H p (.tup (cutV xs lo hi)))) := by
  refine ⟨fun hw => ?_, fun _ p np => q p _ (same_new (Same.refl H) np) (SqT.of upd_same)⟩
  have e : cutV xs lo hi = xs := by
    unfold cutV
    rw [hw.1, hw.2]
    simp
  have := q b H (Same.refl H)
  rw [e] at this
  exact this hb
/-! ### sums with a truth -/
def asI : V → Option Int
  | .int i => some i
  | .bl b => some (b2i b)
  | _ => none
section
variable {X : Cx}
theorem op_addW : OpR X (binaryOp .Add) (fun x y H Q => ∃ i j, asI x = some i ∧ y = .int j ∧ Q (.int (i + j)) H) := by
  intro pins s σ H x y v u Q I rx ry h
  obtain ⟨i, j, hx, rfl, q⟩ := h
  obtain ⟨t, rfl⟩ := ry
  cases x with
  | int n =>
    cases hx
    exact op_add pins s σ H (.int i) (.int j) v _ Q I rx ⟨t, rfl⟩ ⟨_, _, rfl, rfl, q⟩
  | bl b =>
    cases hx
    cases rx
    exact PySem.IntBool.add_bool_int ⟨.int _, H, I.tok _, ⟨_, rfl⟩, q⟩
  | _ => cases hx
theorem op_subW : OpR X (binaryOp .Sub) (fun x y H Q => ∃ i j, asI x = some i ∧ y = .int j ∧ Q (.int (i - j)) H) := by
  intro pins s σ H x y v u Q I rx ry h
  obtain ⟨i, j, hx, rfl, q⟩ := h
  obtain ⟨t, rfl⟩ := ry
  cases x with
  | int n =>
    cases hx
    exact op_sub pins s σ H (.int i) (.int j) v _ Q I rx ⟨t, rfl⟩ ⟨_, _, rfl, rfl, q⟩
  | bl b =>
    cases hx
    cases rx
    exact PySem.IntBool.sub_bool_int ⟨.int _, H, I.tok _, ⟨_, rfl⟩, q⟩
  | _ => cases hx
end
end PK
namespace PK
open PySem PySem.Spec PyProof.Rows L2
end PK
namespace PK
open PySem PySem.Spec PyProof.Rows L2
end PK
namespace PK
open PySem PySem.Spec PyProof.Rows L2
/-! ### slices and sums of tuples, wherever the answer lies -/
def rSlB (K : PySem.W.Frag) : V → Option Int → Option Int → Hp → VK → Prop := fun x lo hi H Q => ∃ a xs, x = .ref a ∧ SqT K H a xs ∧ ∀ c H', Same H H' → SqT K H' c (cutV xs lo hi) → Q (.ref c) H'
def rCatB (K : PySem.W.Frag) : R2 := fun x y H Q => ∃ a b xs ys, x = .ref a ∧ y = .ref b ∧ SqT K H a xs ∧ SqT K H b ys ∧ xs.length + ys.length ≤ sizeLine ∧ ∀ c H', Same H H' → SqT K H' c (xs ++ ys) → Q (.ref c) H'
theorem ks_tupB {X : Cx} (K : PySem.W.Frag) (hK : X.K = K := by rfl) : SlR X (rSlB K) := by
  intro pins s σ H x v vl vu lo hi sl Q I rx hs pl pu h
  obtain ⟨a, xs, e, hx, q⟩ := h
  exact ks_tup K hK pins s σ H x v vl vu lo hi sl Q I rx hs pl pu ⟨a, xs, e, hx, rd_sl hx q⟩
theorem ko_catB {X : Cx} (K : PySem.W.Frag) (hK : X.K = K := by rfl) : OpR X (binaryOp .Add) (rCatB K) := by
  intro pins s σ H x y v u Q I rx ry h
  obtain ⟨a, b, xs, ys, e1, e2, ha, hb, hz, q⟩ := h
  refine ko_catA K hK pins s σ H x y v u Q I rx ry ⟨a, b, xs, ys, e1, e2, ha, hb, hz, fun z => ?_, fun _ z => ?_, fun _ _ c nc => q c _ (same_new (Same.refl H) nc) (SqT.of upd_same)⟩
  · subst z
    exact q b H (Same.refl H) hb
  · subst z
    rw [List.append_nil] at q
    exact q a H (Same.refl H) ha
end PK
namespace PK
open PySem PySem.Spec PyProof.Rows L2
end PK
/-! Texts of drawn signs. -/
namespace PK
open PySem PySem.Spec PyProof.Rows L2
end PK
namespace PK
open PySem PySem.Spec PyProof.Rows L2
end PK
/-! Things that are kept in lists that grow: all but these lists. -/
namespace PK
open PySem PySem.Spec PyProof.Rows L2
end PK
/-! Shades, wants and ways: what they are. -/
namespace PK
open PySem PySem.Spec PyProof.Rows L2
end PK
/-! set(t) of texts. -/
namespace PK
open PySem PySem.Spec PyProof.Rows L2
section
variable {P : Program} {w : World} {A : Around} {E : Value → Shared → Prop} {s : Shared}
theorem SetTx.at {h h' : Heap} {a : Addr} {l : List Str} (R : SetTx P w h a l) (k : ∀ o, h.get? a = some o → h'.get? a = some o) : SetTx P w h' a l := by
  obtain ⟨D, hD, r⟩ := R
  exact ⟨D, k _ hD, r⟩
end
section
variable {X : Cx}
end
end PK
/-! Shades in order: told by neighbours, or by sorting the set. -/
namespace PK
open PySem PySem.Spec PyProof.Rows L2
end PK
namespace PK
open PySem PySem.Spec PyProof.Rows L2
end PK
/-! Things by value: a def's body as a computation over plain things, apart from the memory. -/
namespace LP
open PySem PySem.Spec PyProof.Rows L2 PK
/-! ### plain things -/
inductive D where
  | non
  | bl (b : Bool)
  | int (i : Int)
  | str (s : Str)
  | tup (l : List D)
  | lst (l : List D)
  | dct (ks vs : List D)
  | set (l : List Str)
  | txt (s : Str)
  | obj (c : Nat) (l : List D)
  | tok (n : Nat)
deriving Inhabited
/-- what may be raised: which class, its fields -/
structure Ex where
  c : Nat
  l : List D
/-! ### computations: what is wanted of the answer, of what is raised -/
structure W (α : Type) where
  wp : (α → Prop) → (Ex → Prop) → Prop
  mono : ∀ {Q Q' : α → Prop} {E E' : Ex → Prop}, (∀ a, Q a → Q' a) → (∀ e, E e → E' e) → wp Q E → wp Q' E'
namespace W
variable {α β γ : Type}
def ret (a : α) : W α := ⟨fun Q _ => Q a, fun h _ q => h _ q⟩
def bind (m : W α) (f : α → W β) : W β := ⟨fun Q E => m.wp (fun a => (f a).wp Q E) E, fun h1 h2 q => m.mono (fun a => (f a).mono h1 h2) h2 q⟩
def want (p : Prop) : W Unit := ⟨fun Q _ => p ∧ Q (), fun h _ q => ⟨q.1, h _ q.2⟩⟩
def fail : W α := ⟨fun _ _ => False, fun _ _ q => q⟩
def raise (e : Ex) : W α := ⟨fun _ E => E e, fun _ h q => h _ q⟩
def any (P : α → Prop) : W α := ⟨fun Q _ => ∀ a, P a → Q a, fun h _ q a p => h _ (q a p)⟩
/-- nothing is raised -/
def calm (m : W α) : W α := ⟨fun Q _ => m.wp Q fun _ => False, fun h _ q => m.mono h (fun _ z => z) q⟩
/-- what is raised is caught -/
def catch_ (m : W α) (f : Ex → W α) : W α := ⟨fun Q E => m.wp Q fun e => (f e).wp Q E, fun h1 h2 q => m.mono h1 (fun e => (f e).mono h1 h2) q⟩
def ite (b : Bool) (x y : W α) : W α := match b with | true => x | false => y
instance : Monad W where
  pure := ret
  bind := bind
theorem ret_wp {a : α} {Q : α → Prop} {E : Ex → Prop} : (ret a).wp Q E ↔ Q a := Iff.rfl
theorem bind_wp {m : W α} {f : α → W β} {Q : β → Prop} {E : Ex → Prop} : (bind m f).wp Q E ↔ m.wp (fun a => (f a).wp Q E) E := Iff.rfl
theorem want_wp {p : Prop} {Q : Unit → Prop} {E : Ex → Prop} : (want p).wp Q E ↔ p ∧ Q () := Iff.rfl
theorem any_wp {P : α → Prop} {Q : α → Prop} {E : Ex → Prop} : (any P).wp Q E ↔ ∀ a, P a → Q a := Iff.rfl
@[ext] theorem ext {a b : W α} (h : a.wp = b.wp) : a = b := by
  cases a
  cases b
  cases h
  rfl
theorem ret_bind {a : α} {f : α → W β} : bind (ret a) f = f a := rfl
end W
/-! ### where one stands -/
/-- what is not a tuple: it may change -/
def Mt : HO → Prop
  | .tup _ => False
  | .frz _ (.tup _) => False
  | _ => True
/-- the program, its classes, the kind of feed -/
structure Sig where
  P : Program
  w : World
  K : PySem.W.Frag
  cl : Nat → Option Addr
  fl : Nat → List Str
  fk : Hp → Addr → Addr → Prop
  fks : ∀ H H' a c, fk H a c → H' a = H a → H' c = H c → fk H' a c
  fkm : ∀ H a c, fk H a c → (∃ o, H a = some o ∧ Mt o) ∧ ∃ o, H c = some o ∧ Mt o
/-- what stands beside: nothing; the feed, which may change; things of a store, which don't -/
inductive Fd where
  | none
  | some (p : Addr × Addr)
  | al (l : List Addr)
/-- .., and the feed: what may change beside -/
structure Ctx where
  Γ : Sig
  fd : Fd
namespace Ctx
abbrev P (Ξ : Ctx) : Program := Ξ.Γ.P
abbrev w (Ξ : Ctx) : World := Ξ.Γ.w
abbrev K (Ξ : Ctx) : PySem.W.Frag := Ξ.Γ.K
abbrev cl (Ξ : Ctx) : Nat → Option Addr := Ξ.Γ.cl
abbrev fl (Ξ : Ctx) : Nat → List Str := Ξ.Γ.fl
def ff (Ξ : Ctx) : List Addr := match Ξ.fd with
  | .none => []
  | .some (a, c) => [a, c]
  | .al _ => []
def FI (Ξ : Ctx) (H : Hp) : Prop := match Ξ.fd with
  | .none => True
  | .some (a, c) => Ξ.Γ.fk H a c
  | .al _ => True
def tk (Ξ : Ctx) (n : Nat) : Option V := match Ξ.fd with
  | .none => none
  | .some (a, _) => if n = 0 then some (.ref a) else none
  | .al l => match n with
    | 0 => none
    | n + 1 => l[n]?.map V.ref
theorem fst (Ξ : Ctx) (H H' : Hp) (h : ∀ b ∈ Ξ.ff, H' b = H b) (f : Ξ.FI H) : Ξ.FI H' := by
  unfold FI ff at *
  split at f
  · rename_i e
    trivial
  · rename_i a c e
    rw [e] at h
    exact Ξ.Γ.fks H H' a c f (h a List.mem_cons_self) (h c (List.mem_cons_of_mem _ List.mem_cons_self))
  · trivial
theorem fex (Ξ : Ctx) (H : Hp) (f : Ξ.FI H) : ∀ b ∈ Ξ.ff, ∃ o, H b = some o ∧ Mt o := by
  unfold FI at f
  unfold ff
  split at f
  · exact fun b hb => (nomatch hb)
  · rename_i a c e
    intro b hb
    rcases List.mem_cons.mp hb with rfl | hb
    · exact (Ξ.Γ.fkm H _ _ f).1
    · rw [List.mem_singleton.mp hb]
      exact (Ξ.Γ.fkm H _ _ f).2
  · exact fun b hb => (nomatch hb)
end Ctx
mutual
inductive Rp (Ξ : Ctx) (H : Hp) : V → D → Prop
  | non : Rp Ξ H .non .non
  | bl (b : Bool) : Rp Ξ H (.bl b) (.bl b)
  | int (i : Int) : Rp Ξ H (.int i) (.int i)
  | str (y : Str) : PyData.strOk y = true → Rp Ξ H (.str y) (.str y)
  | tup {a : Addr} {xs : List V} {ds : List D} : SqT Ξ.K H a xs → RpAll Ξ H xs ds → Rp Ξ H (.ref a) (.tup ds)
  | lst {a : Addr} {xs : List V} {ds : List D} : H a = some (.lst xs) → RpAll Ξ H xs ds → Rp Ξ H (.ref a) (.lst ds)
  | obj {a C dx : Addr} {c : Nat} {xs : List V} {ds : List D} : H a = some (.ins C dx ((Ξ.fl c).zip xs)) → Ξ.cl c = some C → RpAll Ξ H xs ds → Rp Ξ H (.ref a) (.obj c ds)
  | tok {v : V} {n : Nat} : Ξ.tk n = some v → Rp Ξ H v (.tok n)
  | set {a : Addr} {l : List Str} : H a = some (SetTO Ξ.P Ξ.w a l) → l.Nodup → (∀ y ∈ l, PyData.strOk y = true) → Rp Ξ H (.ref a) (.set l)
  | txt (s : Str) : Rp Ξ H (.str s) (.txt s)
  | dct {a : Addr} {ks vs : List D} {ps : List (Str × Str)} : H a = some (.dK (ps.map fun p => (Sum.inr p.1, V.str p.2))) → (∀ p ∈ ps, PyData.strOk p.1 = true ∧ PyData.strOk p.2 = true) → ks = ps.map (fun p => D.str p.1) → vs = ps.map (fun p => D.str p.2) → Rp Ξ H (.ref a) (.dct ks vs)
inductive RpAll (Ξ : Ctx) (H : Hp) : List V → List D → Prop
  | nil : RpAll Ξ H [] []
  | cons {v : V} {vs : List V} {d : D} {ds : List D} : Rp Ξ H v d → RpAll Ξ H vs ds → RpAll Ξ H (v :: vs) (d :: ds)
end
theorem sqT_same {K : PySem.W.Frag} {H H' : Hp} {b : Addr} {xs : List V} (x : Same H H') (h : SqT K H b xs) : SqT K H' b xs := (LKeep.of x).sqT h
section
variable {Ξ : Ctx} {H H' : Hp}
mutual
theorem Rp.same (x : Same H H') : ∀ {d : D} {v : V}, Rp Ξ H v d → Rp Ξ H' v d
  | .non, _, .non => .non
  | .bl _, _, .bl b => .bl b
  | .int _, _, .int i => .int i
  | .str _, _, .str y h => .str y h
  | .tup _, _, .tup hs ha => .tup (sqT_same x hs) (RpAll.same x ha)
  | .lst _, _, .lst hs ha => .lst (x _ _ hs) (RpAll.same x ha)
  | .obj _ _, _, .obj h1 h2 ha => .obj (x _ _ h1) h2 (RpAll.same x ha)
  | .tok _, _, .tok h => .tok h
  | .set _, _, .set h n o => .set (x _ _ h) n o
  | .txt _, _, .txt s => .txt s
  | .dct _ _, _, .dct h o e1 e2 => .dct (x _ _ h) o e1 e2
theorem RpAll.same (x : Same H H') : ∀ {ds : List D} {vs : List V}, RpAll Ξ H vs ds → RpAll Ξ H' vs ds
  | [], _, .nil => .nil
  | _ :: _, _, .cons h1 h2 => .cons (Rp.same x h1) (RpAll.same x h2)
end
theorem RpAll.len : ∀ {vs : List V} {ds : List D}, RpAll Ξ H vs ds → vs.length = ds.length
  | _, _, .nil => rfl
  | _, _, .cons _ h => congrArg (· + 1) (RpAll.len h)
theorem RpAll.app : ∀ {vs us : List V} {ds es : List D}, RpAll Ξ H vs ds → RpAll Ξ H us es → RpAll Ξ H (vs ++ us) (ds ++ es)
  | _, _, _, _, .nil, h => h
  | _, _, _, _, .cons h1 h2, h => .cons h1 (RpAll.app h2 h)
theorem RpAll.snoc {v : V} {d : D} {vs : List V} {ds : List D} (h : Rp Ξ H v d) (h2 : RpAll Ξ H vs ds) : RpAll Ξ H (vs ++ [v]) (ds ++ [d]) := h2.app (.cons h .nil)
theorem RpAll.get : ∀ {vs : List V} {ds : List D} {i : Nat} {d : D}, RpAll Ξ H vs ds → ds[i]? = some d → ∃ v, vs[i]? = some v ∧ Rp Ξ H v d
  | _, _, _, _, .nil, h => by simp at h
  | _, _, 0, _, .cons h1 _, h => ⟨_, rfl, by simp at h; subst h; exact h1⟩
  | _, _, i + 1, _, .cons _ h2, h => RpAll.get (i := i) h2 (by simpa using h)
theorem RpAll.getV : ∀ {vs : List V} {ds : List D} {i : Nat} {v : V}, RpAll Ξ H vs ds → vs[i]? = some v → ∃ d, ds[i]? = some d ∧ Rp Ξ H v d
  | _, _, _, _, .nil, h => by simp at h
  | _, _, 0, _, .cons h1 _, h => ⟨_, rfl, by simp at h; subst h; exact h1⟩
  | _, _, i + 1, _, .cons _ h2, h => RpAll.getV (i := i) h2 (by simpa using h)
theorem RpAll.take : ∀ (n : Nat) {vs : List V} {ds : List D}, RpAll Ξ H vs ds → RpAll Ξ H (vs.take n) (ds.take n)
  | 0, _, _, _ => .nil
  | _ + 1, _, _, .nil => .nil
  | n + 1, _, _, .cons h1 h2 => .cons h1 (RpAll.take n h2)
theorem RpAll.drop : ∀ (n : Nat) {vs : List V} {ds : List D}, RpAll Ξ H vs ds → RpAll Ξ H (vs.drop n) (ds.drop n)
  | 0, _, _, h => h
  | _ + 1, _, _, .nil => .nil
  | n + 1, _, _, .cons _ h2 => RpAll.drop n h2
theorem RpAll.rev : ∀ {vs : List V} {ds : List D}, RpAll Ξ H vs ds → RpAll Ξ H vs.reverse ds.reverse
  | _, _, .nil => .nil
  | _, _, .cons h1 h2 => by
    rw [List.reverse_cons, List.reverse_cons]
    exact (RpAll.rev h2).app (.cons h1 .nil)
theorem RpAll.set {v : V} {d : D} (h : Rp Ξ H v d) : ∀ (n : Nat) {vs : List V} {ds : List D}, RpAll Ξ H vs ds → RpAll Ξ H (vs.set n v) (ds.set n d)
  | _, _, _, .nil => .nil
  | 0, _, _, .cons _ h2 => .cons h h2
  | n + 1, _, _, .cons h1 h2 => .cons h1 (RpAll.set h n h2)
theorem RpAll.strs_ok : ∀ {ys : List Str} {vs : List V}, RpAll Ξ H vs (ys.map D.str) → ∀ y ∈ ys, PyData.strOk y = true
  | [], _, _, _, h => (nomatch h)
  | _ :: _, _, .cons h1 h2, y, h => by
    rcases List.mem_cons.mp h with rfl | h
    · cases h1
      assumption
    · exact RpAll.strs_ok h2 y h
theorem RpAll.ints : ∀ ys : List Int, RpAll Ξ H (ys.map V.int) (ys.map D.int)
  | [] => .nil
  | y :: ys => .cons (.int y) (RpAll.ints ys)
theorem RpAll.of_strs : ∀ {ys : List Str} {vs : List V}, RpAll Ξ H vs (ys.map D.str) → vs = ys.map V.str
  | [], _, .nil => rfl
  | _ :: _, _, .cons h1 h2 => by
    cases h1
    rw [RpAll.of_strs h2]
    rfl
theorem RpAll.of_ints : ∀ {ys : List Int} {vs : List V}, RpAll Ξ H vs (ys.map D.int) → vs = ys.map V.int
  | [], _, .nil => rfl
  | _ :: _, _, .cons h1 h2 => by
    cases h1
    rw [RpAll.of_ints h2]
    rfl
theorem Rp.tupE {v : V} {ds : List D} (h : Rp Ξ H v (.tup ds)) : ∃ b xs, v = .ref b ∧ SqT Ξ.K H b xs ∧ RpAll Ξ H xs ds := by
  cases h with
  | tup hs ha => exact ⟨_, _, rfl, hs, ha⟩
theorem Rp.lstE {v : V} {ds : List D} (h : Rp Ξ H v (.lst ds)) : ∃ b xs, v = .ref b ∧ H b = some (.lst xs) ∧ RpAll Ξ H xs ds := by
  cases h with
  | lst hs ha => exact ⟨_, _, rfl, hs, ha⟩
end
/-! ### data -/
mutual
def D.toP : D → PyData
  | .non => .none
  | .bl b => .bool b
  | .int i => .int i
  | .str y => .str y
  | .tup l => .tuple (D.toPs l)
  | .lst l => .list (D.toPs l)
  | .dct _ _ => .none
  | .set _ => .none
  | .txt _ => .none
  | .obj _ _ => .none
  | .tok _ => .none
def D.toPs : List D → List PyData
  | [] => []
  | d :: l => d.toP :: D.toPs l
end
mutual
/-- no objects in it -/
def D.plain : D → Bool
  | .non => true
  | .bl _ => true
  | .int _ => true
  | .str _ => true
  | .tup l => D.plains l
  | .lst l => D.plains l
  | .dct _ _ => false
  | .set _ => false
  | .txt _ => false
  | .obj _ _ => false
  | .tok _ => false
def D.plains : List D → Bool
  | [] => true
  | d :: l => d.plain && D.plains l
end
theorem toPs_map : ∀ l : List D, D.toPs l = l.map D.toP
  | [] => rfl
  | d :: l => by
    show d.toP :: D.toPs l = _
    rw [toPs_map l]
    rfl
theorem plains_all : ∀ l : List D, D.plains l = l.all D.plain
  | [] => rfl
  | d :: l => by
    show (d.plain && D.plains l) = _
    rw [plains_all l]
    rfl
section
variable {Ξ : Ctx} {H : Hp}
mutual
theorem Rp.dp : ∀ {d : D} {v : V}, d.plain = true → Rp Ξ H v d → Dp Ξ.K H v d.toP
  | .non, _, _, .non => .non
  | .bl _, _, _, .bl b => .bl b
  | .int _, _, _, .int i => .int i
  | .str _, _, _, .str y _ => .str y
  | .tup l, _, h, .tup hs ha => .tup hs (RpAll.dp h ha)
  | .lst l, _, h, .lst hs ha => .lst (SqL.of hs) (RpAll.dp h ha)
  | .dct _ _, _, h, _ => by cases h
  | .set _, _, h, _ => by cases h
  | .txt _, _, h, _ => by cases h
  | .obj _ _, _, h, _ => by cases h
  | .tok _, _, h, _ => by cases h
theorem RpAll.dp : ∀ {ds : List D} {vs : List V}, D.plains ds = true → RpAll Ξ H vs ds → DpAll Ξ.K H vs (D.toPs ds)
  | [], _, _, .nil => .nil
  | d :: ds, _, h, .cons h1 h2 => by
    have h : (d.plain && D.plains ds) = true := h
    rw [Bool.and_eq_true] at h
    exact .cons (Rp.dp h.1 h1) (RpAll.dp h.2 h2)
end
mutual
theorem Rp.lay : ∀ {d : D} {v : V}, d.plain = true → Rp Ξ H v d → d.toP.canLay0 = true
  | .non, _, _, .non => rfl
  | .bl _, _, _, .bl b => rfl
  | .int _, _, _, .int i => rfl
  | .str _, _, _, .str y h => h
  | .tup l, _, h, .tup hs ha => by
    have := RpAll.lay h ha
    simpa [D.toP, PyData.canLay0] using this
  | .lst l, _, h, .lst hs ha => by
    have := RpAll.lay h ha
    simpa [D.toP, PyData.canLay0] using this
  | .dct _ _, _, h, _ => by cases h
  | .set _, _, h, _ => by cases h
  | .txt _, _, h, _ => by cases h
  | .obj _ _, _, h, _ => by cases h
  | .tok _, _, h, _ => by cases h
theorem RpAll.lay : ∀ {ds : List D} {vs : List V}, D.plains ds = true → RpAll Ξ H vs ds → PyData.canLayAll0 (D.toPs ds) = true
  | [], _, _, .nil => rfl
  | d :: ds, _, h, .cons h1 h2 => by
    have h : (d.plain && D.plains ds) = true := h
    rw [Bool.and_eq_true] at h
    show (d.toP.canLay0 && PyData.canLayAll0 (D.toPs ds)) = true
    rw [Rp.lay h.1 h1, RpAll.lay h.2 h2]
    rfl
end
end
end LP
namespace LP
open PySem PySem.Spec PyProof.Rows L2 PK
/-! ### growing -/
/-- all that was there, but the feed, is as it was -/
def Gr (Ξ : Ctx) (H H' : Hp) : Prop := ∀ b o, b ∉ Ξ.ff → H b = some o → H' b = some o
section
variable {Ξ : Ctx} {H H1 H2 : Hp} {S : List Addr} {p : Addr} {o : HO}
theorem Gr.refl (H : Hp) : Gr Ξ H H := fun _ _ _ h => h
theorem Gr.trans (x : Gr Ξ H H1) (y : Gr Ξ H1 H2) : Gr Ξ H H2 := fun b o n h => y b o n (x b o n h)
theorem Gr.of (x : Same H H1) : Gr Ξ H H1 := fun b o _ h => x b o h
/-- masked: what is not in S stays -/
theorem Gr.ms (x : Gr Ξ H H1) (h : ∀ b ∈ Ξ.ff, b ∈ S) : Same (ms S H) (ms S H1) := fun b o e => by
  obtain ⟨h1, h2⟩ := ms_some e
  exact ms_at (x b o (fun z => h2 (h b z)) h1) h2
theorem ms_mono {S T : List Addr} (h : ∀ b ∈ T, b ∈ S) : Same (ms S H) (ms T H) := fun b o e => by
  obtain ⟨h1, h2⟩ := ms_some e
  exact ms_at h1 fun z => h2 (h b z)
def Mu (S : List Addr) (H : Hp) : Prop := ∀ q ∈ S, ∃ o, H q = some o ∧ Mt o
theorem Mu.out {S : List Addr} (h : Mu S H) (n : H p = none) : p ∉ S := fun z => by
  obtain ⟨o, e, _⟩ := h p z
  rw [n] at e
  cases e
theorem Mu.same {S : List Addr} (h : Mu S H) (s : Same H H1) : Mu S H1 := fun q hq => by
  obtain ⟨o, e, m⟩ := h q hq
  exact ⟨o, s _ _ e, m⟩
theorem Mu.gr {S : List Addr} (h : Mu S H) (s : Gr Ξ H H1) (f : Ξ.FI H1) : Mu S H1 := fun q hq => by
  by_cases z : q ∈ Ξ.ff
  · exact Ξ.fex H1 f q z
  · obtain ⟨o, e, m⟩ := h q hq
    exact ⟨o, s _ _ z e, m⟩
theorem Mu.upd {S : List Addr} (h : Mu S H) (m : Mt o) : Mu S (upd H p o) := fun q hq => by
  by_cases z : q = p
  · rw [z]
    exact ⟨o, upd_same, m⟩
  · rw [upd_ne z]
    exact h q hq
theorem Mu.cons {S : List Addr} (h : Mu S H) (e : H p = some o) (m : Mt o) : Mu (p :: S) H := fun q hq => by
  rcases List.mem_cons.mp hq with rfl | z
  · exact ⟨o, e, m⟩
  · exact h q z
theorem sqT_mu {K : PySem.W.Frag} {S : List Addr} {c : Addr} {xs : List V} (h : SqT K H c xs) (k : Mu S H) : SqT K (ms S H) c xs := by
  rcases h with (h | ⟨o, h⟩) | h
  · exact .inl (.inl (ms_at h fun z => by
      obtain ⟨l, h1, m⟩ := k c z
      rw [h] at h1
      cases h1
      exact m))
  · refine .inl (.inr ⟨o, ms_at h fun z => ?_⟩)
    obtain ⟨l, h1, m⟩ := k c z
    rw [h] at h1
    cases h1
    exact m
  · exact .inr h
theorem FI_same (f : Ξ.FI H) (s : Same H H1) : Ξ.FI H1 := Ξ.fst H H1 (fun b hb => by
  obtain ⟨o, e, _⟩ := Ξ.fex H f b hb
  rw [e, s _ _ e]) f
theorem FI_upd (f : Ξ.FI H) (n : p ∉ Ξ.ff) : Ξ.FI (upd H p o) := Ξ.fst _ _ (fun b hb => upd_ne fun z => n (z ▸ hb)) f
theorem ff_out (f : Ξ.FI H) (n : H p = none) : p ∉ Ξ.ff := fun z => by
  obtain ⟨o, e, _⟩ := Ξ.fex H f p z
  rw [n] at e
  cases e
end
/-! ### the names -/
abbrev Env := List (Option D)
/-- what stands at an owned place -/
inductive Ow (Ξ : Ctx) (Hm : Hp) : Option HO → D → Prop
  | lst {us : List V} {ds : List D} : RpAll Ξ Hm us ds → Ow Ξ Hm (some (.lst us)) (.lst ds)
theorem Ow.same {Ξ : Ctx} {H H' : Hp} {o : Option HO} {d : D} (s : Same H H') (h : Ow Ξ H o d) : Ow Ξ H' o d := by
  cases h with
  | lst h => exact .lst (h.same s)
structure Rel (Ξ : Ctx) (H0 : Hp) (S : List Addr) (A : List (Nat × Addr)) (G : List (V × D)) (σ : L2.St) (H : Hp) (env : Env) : Prop where
  len : σ.length = env.length
  fr : ∀ i d, env[i]? = some (some d) → (∀ a, (i, a) ∉ A) → ∃ v, σ[i]? = some (some v) ∧ Rp Ξ (ms (S ++ A.map (·.2)) H) v d
  ow : ∀ i a, (i, a) ∈ A → ∃ d, env[i]? = some (some d) ∧ σ[i]? = some (some (.ref a)) ∧ Ow Ξ (ms (S ++ A.map (·.2)) H) (H a) d
  old : ∀ i a, (i, a) ∈ A → H0 a = none ∧ a ∉ S
  nd : (A.map (·.2)).Nodup
  ndk : (A.map (·.1)).Nodup
  gh : ∀ x ∈ G, Rp Ξ (ms (S ++ A.map (·.2)) H) x.1 x.2
  mu : Mu S H
  fi : Ξ.FI H
  ffs : ∀ b ∈ Ξ.ff, b ∈ S
  gr : Gr Ξ H0 H
section
variable {Ξ : Ctx} {H0 H H1 : Hp} {S : List Addr} {A : List (Nat × Addr)} {G : List (V × D)} {σ : L2.St} {env : Env}
theorem Rel.ffM (r : Rel Ξ H0 S A G σ H env) : ∀ b ∈ Ξ.ff, b ∈ S ++ A.map (·.2) := fun b hb => List.mem_append_left _ (r.ffs b hb)
theorem Rel.outA (r : Rel Ξ H0 S A G σ H env) {i : Nat} {a : Addr} (h : (i, a) ∈ A) : a ∉ Ξ.ff := fun z => (r.old i a h).2 (r.ffs a z)
theorem Rel.muA (r : Rel Ξ H0 S A G σ H env) : Mu (S ++ A.map (·.2)) H := fun q hq => by
  rcases List.mem_append.mp hq with h | h
  · exact r.mu q h
  · obtain ⟨⟨i, a⟩, hm, rfl⟩ := List.mem_map.mp h
    obtain ⟨d, _, _, ho⟩ := r.ow i a hm
    show ∃ o, H a = some o ∧ Mt o
    generalize H a = o at ho
    cases ho with
    | lst _ => exact ⟨_, rfl, trivial⟩
theorem Rel.grow (r : Rel Ξ H0 S A G σ H env) (g : Gr Ξ H H1) (f : Ξ.FI H1) : Rel Ξ H0 S A G σ H1 env := by
  have s := g.ms r.ffM
  refine ⟨r.len, fun i d h n => ?_, fun i a h => ?_, r.old, r.nd, r.ndk, fun x hx => (r.gh x hx).same s, r.mu.gr g f, f, r.ffs, r.gr.trans g⟩
  · obtain ⟨v, h1, h2⟩ := r.fr i d h n
    exact ⟨v, h1, h2.same s⟩
  · obtain ⟨d, h1, h2, h3⟩ := r.ow i a h
    refine ⟨d, h1, h2, ?_⟩
    have h4 := h3.same s
    have e : H1 a = H a := by
      generalize ho : H a = o at h3
      cases h3 with
      | lst _ => exact g a _ (r.outA h) ho
    rw [e]
    exact h4
theorem Rel.same (r : Rel Ξ H0 S A G σ H env) (s : Same H H1) : Rel Ξ H0 S A G σ H1 env := r.grow (Gr.of s) (FI_same r.fi s)
/-- one more object is kept out -/
theorem Rel.mask (r : Rel Ξ H0 S A G σ H env) {p : Addr} {o : HO} (np : H p = none) (m : Mt o) : Rel Ξ H0 (p :: S) A G σ (upd H p o) env := by
  have hA : ∀ i a, (i, a) ∈ A → a ≠ p := fun i a h z => by
    have := r.muA.out np
    exact this (List.mem_append_right _ (List.mem_map.mpr ⟨(i, a), h, z⟩))
  have s : Same (ms (S ++ A.map (·.2)) H) (ms ((p :: S) ++ A.map (·.2)) (upd H p o)) := fun b u e => by
    obtain ⟨h1, h2⟩ := ms_some e
    have n := ne_of_none h1 np
    exact ms_at (by rw [upd_ne n]; exact h1) fun z => (List.mem_cons.mp z).elim n h2
  refine ⟨r.len, fun i d h n => ?_, fun i a h => ?_, fun i a h => ?_, r.nd, r.ndk, fun x hx => (r.gh x hx).same s, ?_, ?_, fun b hb => List.mem_cons_of_mem _ (r.ffs b hb), fun b u n e => ?_⟩
  · obtain ⟨v, h1, h2⟩ := r.fr i d h n
    exact ⟨v, h1, h2.same s⟩
  · obtain ⟨d, h1, h2, h3⟩ := r.ow i a h
    refine ⟨d, h1, h2, ?_⟩
    rw [upd_ne (hA i a h)]
    exact h3.same s
  · refine ⟨(r.old i a h).1, fun z => ?_⟩
    rcases List.mem_cons.mp z with z | z
    · exact hA i a h z
    · exact (r.old i a h).2 z
  · exact (r.mu.same (same_new (Same.refl H) np)).cons upd_same m
  · exact FI_upd r.fi (ff_out r.fi np)
  · have h1 := r.gr b u n e
    rw [upd_ne (ne_of_none h1 np)]
    exact h1
end
/-- read: frozen, or an owned list with frozen things in it -/
inductive Bp (Ξ : Ctx) (M : List Addr) (H : Hp) : V → D → Prop
  | rp {v : V} {d : D} : Rp Ξ (ms M H) v d → Bp Ξ M H v d
  | lst {a : Addr} {us : List V} {ds : List D} : a ∉ Ξ.ff → H a = some (.lst us) → RpAll Ξ (ms M H) us ds → Bp Ξ M H (.ref a) (.lst ds)
section
variable {Ξ : Ctx} {H H1 : Hp} {M : List Addr} {v : V}
theorem Bp.gr {d : D} (h : Bp Ξ M H v d) (g : Gr Ξ H H1) (hf : ∀ b ∈ Ξ.ff, b ∈ M) : Bp Ξ M H1 v d := by
  cases h with
  | rp h => exact .rp (h.same (g.ms hf))
  | lst n h1 h2 => exact .lst n (g _ _ n h1) (h2.same (g.ms hf))
theorem Bp.full {d : D} (h : Bp Ξ M H v d) : Rp Ξ H v d := by
  cases h with
  | rp h => exact h.same ms_sub
  | lst _ h1 h2 => exact .lst h1 (h2.same ms_sub)
theorem Bp.lstE {ds : List D} (h : Bp Ξ M H v (.lst ds)) : ∃ b xs, v = .ref b ∧ H b = some (.lst xs) ∧ RpAll Ξ (ms M H) xs ds := by
  cases h with
  | rp h =>
    obtain ⟨b, xs, e, h1, h2⟩ := h.lstE
    exact ⟨b, xs, e, ms_sub _ _ h1, h2⟩
  | lst _ h1 h2 => exact ⟨_, _, rfl, h1, h2⟩
theorem Bp.tupE {ds : List D} (h : Bp Ξ M H v (.tup ds)) : ∃ b xs, v = .ref b ∧ SqT Ξ.K H b xs ∧ RpAll Ξ (ms M H) xs ds := by
  cases h with
  | rp h =>
    obtain ⟨b, xs, e, h1, h2⟩ := h.tupE
    exact ⟨b, xs, e, sqT_same ms_sub h1, h2⟩
end
/-! ### the readings by value -/
section
variable (Ξ : Ctx) (H0 : Hp) (O : List Nat)
def liE (p : Env → W D) : TE := fun σ H Q => ∃ S A G env E, A.map (·.1) = O ∧ Rel Ξ H0 S A G σ H env ∧
  (p env).wp (fun d => ∀ v H', Gr Ξ H H' → Rel Ξ H0 S A G σ H' env → Rp Ξ (ms (S ++ A.map (·.2)) H') v d → Q v H') E
/-- an owned name may be read -/
def liB (p : Env → W D) : TE := fun σ H Q => ∃ S A G env E, A.map (·.1) = O ∧ Rel Ξ H0 S A G σ H env ∧
  (p env).wp (fun d => ∀ v H', Gr Ξ H H' → Rel Ξ H0 S A G σ H' env → Bp Ξ (S ++ A.map (·.2)) H' v d → Q v H') E
def liA (p : Env → W (List D)) : TA := fun σ H Q => ∃ S A G env E, A.map (·.1) = O ∧ Rel Ξ H0 S A G σ H env ∧
  (p env).wp (fun ds => ∀ vs H', Gr Ξ H H' → Rel Ξ H0 S A G σ H' env → RpAll Ξ (ms (S ++ A.map (·.2)) H') vs ds → Q vs H') E
/-- arguments that are read -/
inductive BpAll (M : List Addr) (H : Hp) : List V → List D → Prop
  | nil : BpAll M H [] []
  | cons {v : V} {vs : List V} {d : D} {ds : List D} : Bp Ξ M H v d → BpAll M H vs ds → BpAll M H (v :: vs) (d :: ds)
def liAB (p : Env → W (List D)) : TA := fun σ H Q => ∃ S A G env E, A.map (·.1) = O ∧ Rel Ξ H0 S A G σ H env ∧
  (p env).wp (fun ds => ∀ vs H', Gr Ξ H H' → Rel Ξ H0 S A G σ H' env → BpAll Ξ (S ++ A.map (·.2)) H' vs ds → Q vs H') E
def liT (p : Env → W Bool) : TT := fun σ H Q => ∃ S A G env E, A.map (·.1) = O ∧ Rel Ξ H0 S A G σ H env ∧
  (p env).wp (fun b => ∀ H', Gr Ξ H H' → Rel Ξ H0 S A G σ H' env → Q b H') E
end
end LP
namespace LP
open PySem PySem.Spec PyProof.Rows L2 PK
section
variable {X : Cx}
theorem wkE {e : Expr} {t t' : TE} (h : PE X e t) (w : ∀ σ H Q, t' σ H Q → t σ H Q) : PE X e t' := ⟨fun pins s σ H Q I q => h.run pins s σ H Q I (w σ H Q q)⟩
theorem wkT {e : Expr} {t t' : TT} (h : PT X e t) (w : ∀ σ H Q, t' σ H Q → t σ H Q) : PT X e t' := ⟨fun pins s σ H Q I q => h.run pins s σ H Q I (w σ H Q q)⟩
theorem wkW {e : Expr} {t t' : TT} (h : PW X e t) (w : ∀ σ H Q, t' σ H Q → t σ H Q) : PW X e t' := ⟨fun wh pins s σ H Q I q => h.run wh pins s σ H Q I (w σ H Q q)⟩
theorem wkA {es : List Expr} {t t' : TA} (h : PA X es t) (w : ∀ σ H Q, t' σ H Q → t σ H Q) : PA X es t' := ⟨fun pos pins s σ H Q I q => h.run pos pins s σ H Q I (w σ H Q q)⟩
theorem wkS {st : Stmt} {t t' : TS} (h : PS X st t) (w : ∀ D σ H, t' D σ H → t D σ H) : PS X st t' := ⟨fun pins s σ H D I q => h.run pins s σ H D I (w D σ H q)⟩
theorem wkSs {st : List Stmt} {t t' : TS} (h : PSs X st t) (w : ∀ D σ H, t' D σ H → t D σ H) : PSs X st t' := ⟨fun pins s σ H D I q => h.run pins s σ H D I (w D σ H q)⟩
end
def getW (env : Env) (i : Nat) : W D := match env[i]? with
  | some (some d) => W.ret d
  | _ => W.fail
def asB : D → W Bool
  | .bl b => W.ret b
  | _ => W.fail
theorem getW_wp {env : Env} {i : Nat} {Q : D → Prop} {E : Ex → Prop} (h : (getW env i).wp Q E) : ∃ d, env[i]? = some (some d) ∧ Q d := by
  unfold getW at h
  split at h
  · rename_i d e
    exact ⟨d, e, h⟩
  · exact h.elim
theorem asB_wp {d : D} {Q : Bool → Prop} {E : Ex → Prop} (h : (asB d).wp Q E) : ∃ b, d = .bl b ∧ Q b := by
  cases d with
  | bl b => exact ⟨b, rfl, h⟩
  | _ => exact h.elim
section
variable {X : Cx} {Ξ : Ctx} {H0 : Hp} {O : List Nat} {e a b c : Expr} {es : List Expr} {pos : Pos}
abbrev LE (Ξ : Ctx) (H0 : Hp) (O : List Nat) (X : Cx) (e : Expr) (p : Env → W D) : Prop := PE X e (liE Ξ H0 O p)
abbrev LB (Ξ : Ctx) (H0 : Hp) (O : List Nat) (X : Cx) (e : Expr) (p : Env → W D) : Prop := PE X e (liB Ξ H0 O p)
abbrev LT (Ξ : Ctx) (H0 : Hp) (O : List Nat) (X : Cx) (e : Expr) (p : Env → W Bool) : Prop := PT X e (liT Ξ H0 O p)
theorem lb {p : Env → W D} (h : LE Ξ H0 O X e p) : LB Ξ H0 O X e p := wkE h fun σ H Q ⟨S, A, G, env, E, hO, r, q⟩ =>
  ⟨S, A, G, env, E, hO, r, (p env).mono (fun d k v H' g r' h' => k v H' g r' (.rp h')) (fun _ z => z) q⟩
/-! ### names, constants -/
theorem le_var (i : Nat) (hO : i ∉ O) (h : PE X e (tVar i)) : LE Ξ H0 O X e fun env => getW env i := wkE h fun σ H Q ⟨S, A, G, env, E, hA, r, q⟩ => by
  obtain ⟨d, he, q⟩ := getW_wp q
  obtain ⟨v, h1, h2⟩ := r.fr i d he fun a ha => hO (hA ▸ List.mem_map.mpr ⟨(i, a), ha, rfl⟩)
  exact ⟨v, h1, q v H (Gr.refl H) r h2⟩
theorem lb_var (i : Nat) (h : PE X e (tVar i)) : LB Ξ H0 O X e fun env => getW env i := wkE h fun σ H Q ⟨S, A, G, env, E, hA, r, q⟩ => by
  obtain ⟨d, he, q⟩ := getW_wp q
  by_cases z : ∃ a, (i, a) ∈ A
  · obtain ⟨a, ha⟩ := z
    obtain ⟨d', h1, h2, h3⟩ := r.ow i a ha
    rw [he] at h1
    cases h1
    refine ⟨.ref a, h2, q _ H (Gr.refl H) r ?_⟩
    generalize ho : H a = o at h3
    cases h3 with
    | lst h3 => exact .lst (r.outA ha) ho h3
  · obtain ⟨v, h1, h2⟩ := r.fr i d he fun a ha => z ⟨a, ha⟩
    exact ⟨v, h1, q v H (Gr.refl H) r (.rp h2)⟩
theorem le_const {v : V} {d : D} (hd : ∀ H, Rp Ξ H v d) (h : PE X e (tC v)) : LE Ξ H0 O X e fun _ => W.ret d := wkE h fun σ H Q ⟨S, A, G, env, E, hA, r, q⟩ => q v H (Gr.refl H) r (hd _)
theorem le_int {i : Int} {j} : LE Ξ H0 O X (.Constant (.int i) j pos) fun _ => W.ret (.int i) := le_const (fun _ => .int i) pe_int
theorem le_str {x : Str} {j} (hs : PyData.strOk x = true := by decide +kernel) : LE Ξ H0 O X (.Constant (.str x) j pos) fun _ => W.ret (.str x) := le_const (fun _ => .str x hs) pe_str
theorem le_bl {x : Bool} {j} : LE Ξ H0 O X (.Constant (.bool x) j pos) fun _ => W.ret (.bl x) := le_const (fun _ => .bl x) pe_bl
theorem le_non {j} : LE Ξ H0 O X (.Constant .none j pos) fun _ => W.ret .non := le_const (fun _ => .non) pe_non
/-! ### two parts, one behind the other -/
/-- an operator of values is kept by f -/
def OpOk (Ξ : Ctx) (r : R2) (f : D → D → W D) : Prop := ∀ (M : List Addr) (H : Hp) (x y : V) (d1 d2 : D) (Q : VK) (E : Ex → Prop), Mu M H → (∀ b ∈ Ξ.ff, b ∈ M) →
  Bp Ξ M H x d1 → Bp Ξ M H y d2 → (f d1 d2).wp (fun d => ∀ v H', Same H H' → Rp Ξ (ms M H') v d → Q v H') E → r x y H Q
/-- .. of values that are read only: the answer is told at once -/
theorem two {pa pb : Env → W D} {ta tb : TE} {f : D → D → W D} {r : R2} (hf : OpOk Ξ r f) (ha : ∀ σ H Q, liB Ξ H0 O pa σ H Q → ta σ H Q) (hb : ∀ σ H Q, liB Ξ H0 O pb σ H Q → tb σ H Q) :
    ∀ σ H Q, liE Ξ H0 O (fun env => (pa env).bind fun x => (pb env).bind fun y => f x y) σ H Q → ta σ H fun x H1 => tb σ H1 fun y H2 => r x y H2 Q := by
  rintro σ H Q ⟨S, A, G, env, E, hA, rl, q⟩
  refine ha σ H _ ⟨S, A, G, env, E, hA, rl, (pa env).mono (fun d1 k x H1 g1 r1 b1 => ?_) (fun _ z => z) q⟩
  refine hb σ H1 _ ⟨S, A, G, env, E, hA, r1, (pb env).mono (fun d2 k y H2 g2 r2 b2 => ?_) (fun _ z => z) k⟩
  refine hf _ H2 x y d1 d2 Q E r2.muA r2.ffM (b1.gr g2 r1.ffM) b2 ((f d1 d2).mono (fun d k v H3 s3 rv => ?_) (fun _ z => z) k)
  exact k v H3 ((g1.trans g2).trans (Gr.of s3)) (r2.same s3) rv
theorem le_op {op : Operator} {r : R2} {f : D → D → W D} {pa pb : Env → W D} (ho : OpR X (binaryOp op) r) (hf : OpOk Ξ r f) (ha : LB Ξ H0 O X a pa) (hb : LB Ξ H0 O X b pb) :
    LE Ξ H0 O X (.BinOp a op b pos) fun env => (pa env).bind fun x => (pb env).bind fun y => f x y :=
  wkE (pe_op ho ha hb) (two hf (fun _ _ _ h => h) fun _ _ _ h => h)
theorem le_cmp {op : CmpOp} {r : R2} {f : D → D → W D} {pa pb : Env → W D} (ho : OpR X (compareOp op) r) (hf : OpOk Ξ r f) (hm : behindInMarks op b = false) (ha : LB Ξ H0 O X a pa) (hb : LB Ξ H0 O X b pb) :
    LE Ξ H0 O X (.Compare a [op] [b] pos) fun env => (pa env).bind fun x => (pb env).bind fun y => f x y :=
  wkE (pe_cmpR ho ha hb hm) (two hf (fun _ _ _ h => h) fun _ _ _ h => h)
theorem le_ix {r : R2} {f : D → D → W D} {pa pb : Env → W D} (ho : IxR X r) (hf : OpOk Ξ r f) (hs : PlainIx b) (ha : LB Ξ H0 O X a pa) (hb : LB Ξ H0 O X b pb) :
    LE Ξ H0 O X (.Subscript a b pos) fun env => (pa env).bind fun x => (pb env).bind fun y => f x y :=
  wkE (pe_ix ho ha hb hs) (two hf (fun _ _ _ h => h) fun _ _ _ h => h)
/-! ### tests -/
theorem lt_cmp {op : CmpOp} {r : R2} {f : D → D → W D} {pa pb : Env → W D} (ho : OpR X (compareOp op) r) (hf : OpOk Ξ r f) (hm : behindInMarks op b = false) (ha : LB Ξ H0 O X a pa) (hb : LB Ξ H0 O X b pb) :
    LT Ξ H0 O X (.Compare a [op] [b] pos) fun env => ((pa env).bind fun x => (pb env).bind fun y => f x y).bind asB := by
  refine wkT (pt_cmpR ho ha hb hm) fun σ H Q h => ?_
  have key : liE Ξ H0 O (fun env => (pa env).bind fun x => (pb env).bind fun y => f x y) σ H (fun v H' => ∃ k, v = .bl k ∧ Q k H') := by
    obtain ⟨S, A, G, env, E, hA, r', q⟩ := h
    refine ⟨S, A, G, env, E, hA, r', W.mono _ (fun d k v H' g r' hv => ?_) (fun _ z => z) q⟩
    obtain ⟨b, rfl, k⟩ := asB_wp k
    cases hv
    exact ⟨b, rfl, k H' g r'⟩
  exact two hf (fun _ _ _ h => h) (fun _ _ _ h => h) σ H _ key
abbrev LW (Ξ : Ctx) (H0 : Hp) (O : List Nat) (X : Cx) (e : Expr) (p : Env → W Bool) : Prop := PW X e (liT Ξ H0 O p)
variable {rest : List Expr} {p q : Env → W Bool}
theorem lw_and1 (h : LT Ξ H0 O X a p) : LW Ξ H0 O X (.BoolOp .And [a] pos) p := pw_and1 h
theorem lw_and (h : LT Ξ H0 O X a p) (h2 : LW Ξ H0 O X (.BoolOp .And (b :: rest) pos) q) : LW Ξ H0 O X (.BoolOp .And (a :: b :: rest) pos) fun env => (p env).bind fun k => W.ite k (q env) (W.ret false) :=
  wkW (pw_and h h2) fun σ H Q ⟨S, A, G, env, E, hA, r, z⟩ => ⟨S, A, G, env, E, hA, r, (p env).mono (fun k u H' g r' => by
    cases k with
    | true => exact iteT ⟨S, A, G, env, E, hA, r', (q env).mono (fun k u H2 g2 r2 => u H2 (g.trans g2) r2) (fun _ z => z) u⟩
    | false => exact iteF (u H' g r')) (fun _ z => z) z⟩
/-! ### and, or, not, if as values -/
variable {pa pb : Env → W D}
/-! ### arguments, displays -/
abbrev LA (Ξ : Ctx) (H0 : Hp) (O : List Nat) (X : Cx) (es : List Expr) (p : Env → W (List D)) : Prop := PA X es (liA Ξ H0 O p)
abbrev LAB (Ξ : Ctx) (H0 : Hp) (O : List Nat) (X : Cx) (es : List Expr) (p : Env → W (List D)) : Prop := PA X es (liAB Ξ H0 O p)
theorem la_nil : LA Ξ H0 O X [] fun _ => W.ret [] := wkA pa_nil fun σ H Q ⟨S, A, G, env, E, hA, r, z⟩ => z [] H (Gr.refl H) r .nil
theorem lab_nil : LAB Ξ H0 O X [] fun _ => W.ret [] := wkA pa_nil fun σ H Q ⟨S, A, G, env, E, hA, r, z⟩ => z [] H (Gr.refl H) r .nil
variable {ps : Env → W (List D)}
theorem la_cons (h : LE Ξ H0 O X e pa) (h2 : LA Ξ H0 O X es ps) (hs : starEach (e :: es) X.env = (false, eval e X.env) :: starEach es X.env := by rfl) : LA Ξ H0 O X (e :: es) fun env => (pa env).bind fun d => (ps env).bind fun ds => W.ret (d :: ds) :=
  wkA (pa_cons h h2 hs) fun σ H Q ⟨S, A, G, env, E, hA, r, z⟩ => ⟨S, A, G, env, E, hA, r, (pa env).mono (fun d u v H1 g1 r1 hv => ⟨S, A, G, env, E, hA, r1, (ps env).mono (fun ds u vs H2 g2 r2 hvs =>
    u (v :: vs) H2 (g1.trans g2) r2 (.cons (hv.same (g2.ms r1.ffM)) hvs)) (fun _ z => z) u⟩) (fun _ z => z) z⟩
theorem lab_cons (h : LB Ξ H0 O X e pa) (h2 : LAB Ξ H0 O X es ps) (hs : starEach (e :: es) X.env = (false, eval e X.env) :: starEach es X.env := by rfl) : LAB Ξ H0 O X (e :: es) fun env => (pa env).bind fun d => (ps env).bind fun ds => W.ret (d :: ds) :=
  wkA (pa_cons h h2 hs) fun σ H Q ⟨S, A, G, env, E, hA, r, z⟩ => ⟨S, A, G, env, E, hA, r, (pa env).mono (fun d u v H1 g1 r1 hv => ⟨S, A, G, env, E, hA, r1, (ps env).mono (fun ds u vs H2 g2 r2 hvs =>
    u (v :: vs) H2 (g1.trans g2) r2 (.cons (hv.gr g2 r1.ffM) hvs)) (fun _ z => z) u⟩) (fun _ z => z) z⟩
def tupW (ds : List D) : W D := (W.want (ds.length ≤ sizeLine)).bind fun _ => W.ret (.tup ds)
def lstW (ds : List D) : W D := (W.want (ds.length ≤ sizeLine)).bind fun _ => W.ret (.lst ds)
theorem le_tup {x1} (h : LA Ξ H0 O X es ps) : LE Ξ H0 O X (.Tuple es x1 pos) fun env => (ps env).bind tupW :=
  wkE (pe_tup h) fun σ H Q ⟨S, A, G, env, E, hA, r, z⟩ => ⟨S, A, G, env, E, hA, r, (ps env).mono (fun ds u vs H1 g1 r1 hv => ⟨by rw [hv.len]; exact u.1, fun p np => by
    have s : Same H1 (upd H1 p (.tup vs)) := same_new (Same.refl H1) np
    have r2 := r1.same s
    exact u.2 (.ref p) _ (g1.trans (Gr.of s)) r2 (.tup (sqT_mu (SqT.of upd_same) r2.muA) (hv.same ((Gr.of s : Gr Ξ _ _).ms r1.ffM)))⟩) (fun _ z => z) z⟩
theorem le_lst (h : LA Ξ H0 O X es ps) : LE Ξ H0 O X (.List es pos) fun env => (ps env).bind lstW :=
  wkE (pe_lst h) fun σ H Q ⟨S, A, G, env, E, hA, r, z⟩ => ⟨S, A, G, env, E, hA, r, (ps env).mono (fun ds u vs H1 g1 r1 hv => ⟨by rw [hv.len]; exact u.1, fun p np => by
    have s : Same H1 (upd H1 p (.lst vs)) := same_new (Same.refl H1) np
    have r2 := r1.same s
    exact u.2 (.ref p) _ (g1.trans (Gr.of s)) r2 (.lst (ms_at upd_same (r1.muA.out np)) (hv.same ((Gr.of s : Gr Ξ _ _).ms r1.ffM)))⟩) (fun _ z => z) z⟩
/-! ### built-in calls -/
def CallOk (Ξ : Ctx) (r : List V → Hp → VK → Prop) (f : List D → W D) : Prop := ∀ (M : List Addr) (H : Hp) (xs : List V) (ds : List D) (Q : VK) (E : Ex → Prop), Mu M H → (∀ b ∈ Ξ.ff, b ∈ M) →
  BpAll Ξ M H xs ds → (f ds).wp (fun d => ∀ v H', Same H H' → Rp Ξ (ms M H') v d → Q v H') E → r xs H Q
theorem le_args {r : List V → Hp → VK → Prop} {f : List D → W D} (hf : CallOk Ξ r f) : ∀ σ H Q, liE Ξ H0 O (fun env => (ps env).bind f) σ H Q → liAB Ξ H0 O ps σ H fun xs H1 => r xs H1 Q := by
  rintro σ H Q ⟨S, A, G, env, E, hA, rl, q⟩
  refine ⟨S, A, G, env, E, hA, rl, (ps env).mono (fun ds k xs H1 g1 r1 b1 => ?_) (fun _ z => z) q⟩
  refine hf _ H1 xs ds Q E r1.muA r1.ffM b1 ((f ds).mono (fun d k v H3 s3 rv => ?_) (fun _ z => z) k)
  exact k v H3 (g1.trans (Gr.of s3)) (r1.same s3) rv
end
end LP
namespace LP
open PySem PySem.Spec PyProof.Rows L2 PK
/-! ### what may be done to the names -/
theorem nodup_inj {α β : Type} {f : α → β} : ∀ {l : List α}, (l.map f).Nodup → ∀ {x y : α}, x ∈ l → y ∈ l → f x = f y → x = y
  | [], _, _, _, h, _, _ => (nomatch h)
  | z :: l, nd, x, y, hx, hy, e => by
    rw [List.map_cons, List.nodup_cons] at nd
    rcases List.mem_cons.mp hx with e1 | h1
    · rcases List.mem_cons.mp hy with e2 | h2
      · rw [e1, e2]
      · exact absurd (List.mem_map.mpr ⟨y, h2, by rw [← e, e1]⟩) nd.1
    · rcases List.mem_cons.mp hy with e2 | h2
      · exact absurd (List.mem_map.mpr ⟨x, h1, by rw [e, e2]⟩) nd.1
      · exact nodup_inj nd.2 h1 h2 e
section
variable {Ξ : Ctx} {H0 H H1 : Hp} {S : List Addr} {A : List (Nat × Addr)} {G : List (V × D)} {σ : L2.St} {env : Env}
/-- some owned names are owned no more -/
theorem Rel.sub (k : Nat → Bool) (r : Rel Ξ H0 S A G σ H env) : Rel Ξ H0 S (A.filter fun x => k x.1) G σ H env := by
  have hm : ∀ b ∈ S ++ (A.filter fun x => k x.1).map (·.2), b ∈ S ++ A.map (·.2) := fun b hb => by
    rcases List.mem_append.mp hb with h | h
    · exact List.mem_append_left _ h
    · obtain ⟨x, hx, rfl⟩ := List.mem_map.mp h
      exact List.mem_append_right _ (List.mem_map.mpr ⟨x, (List.mem_filter.mp hx).1, rfl⟩)
  have s : Same (ms (S ++ A.map (·.2)) H) (ms (S ++ (A.filter fun x => k x.1).map (·.2)) H) := ms_mono hm
  have nd2 : ((A.filter fun x => k x.1).map (·.2)).Nodup := List.Sublist.nodup (List.Sublist.map _ List.filter_sublist) r.nd
  have nd1 : ((A.filter fun x => k x.1).map (·.1)).Nodup := List.Sublist.nodup (List.Sublist.map _ List.filter_sublist) r.ndk
  refine ⟨r.len, fun i d h n => ?_, fun i a h => ?_, fun i a h => r.old i a (List.mem_filter.mp h).1, nd2, nd1, fun x hx => (r.gh x hx).same s, r.mu, r.fi, r.ffs, r.gr⟩
  · by_cases z : ∃ a, (i, a) ∈ A
    · obtain ⟨a, ha⟩ := z
      obtain ⟨d', h1, h2, h3⟩ := r.ow i a ha
      rw [h] at h1
      cases h1
      have na : a ∉ S ++ (A.filter fun x => k x.1).map (·.2) := fun hb => by
        rcases List.mem_append.mp hb with hb | hb
        · exact (r.old i a ha).2 hb
        · obtain ⟨⟨j, a'⟩, hx, e⟩ := List.mem_map.mp hb
          have e : a' = a := e
          subst e
          have hxA := (List.mem_filter.mp hx).1
          have : (j, a') = (i, a') := nodup_inj r.nd hxA ha rfl
          rw [this] at hx
          exact n a' hx
      refine ⟨.ref a, h2, ?_⟩
      generalize ho : H a = o at h3
      cases h3 with
      | lst h3 => exact .lst (ms_at ho na) (h3.same s)
    · obtain ⟨v, h1, h2⟩ := r.fr i d h fun a ha => z ⟨a, ha⟩
      exact ⟨v, h1, h2.same s⟩
  · obtain ⟨d, h1, h2, h3⟩ := r.ow i a (List.mem_filter.mp h).1
    exact ⟨d, h1, h2, h3.same s⟩
theorem Rel.set {v : V} {d : D} {i : Nat} (r : Rel Ξ H0 S A G σ H env) (n : ∀ a, (i, a) ∉ A) (hv : Rp Ξ (ms (S ++ A.map (·.2)) H) v d) : Rel Ξ H0 S A G (σ.set i (some v)) H (env.set i (some d)) := by
  refine ⟨by rw [List.length_set, List.length_set]; exact r.len, fun j e h nj => ?_, fun j a h => ?_, r.old, r.nd, r.ndk, r.gh, r.mu, r.fi, r.ffs, r.gr⟩
  · by_cases z : i = j
    · subst z
      have hl : i < env.length := by
        have := (List.getElem?_eq_some_iff.mp h).1
        rwa [List.length_set] at this
      rw [List.getElem?_set_self hl] at h
      cases h
      exact ⟨v, List.getElem?_set_self (by rw [r.len]; exact hl), hv⟩
    · rw [List.getElem?_set_ne z] at h
      obtain ⟨w, h1, h2⟩ := r.fr j e h nj
      exact ⟨w, by rw [List.getElem?_set_ne z]; exact h1, h2⟩
  · have z : i ≠ j := fun z => n a (z ▸ h)
    obtain ⟨e, h1, h2, h3⟩ := r.ow j a h
    exact ⟨e, by rw [List.getElem?_set_ne z]; exact h1, by rw [List.getElem?_set_ne z]; exact h2, h3⟩
/-- a new object comes to be owned -/
theorem Rel.own {p : Addr} {d : D} {i : Nat} (r : Rel Ξ H0 S A G σ H env) (n : ∀ a, (i, a) ∉ A) (hi : i < env.length) (np : H p = none) (g : Gr Ξ H H1) (f : Ξ.FI H1) (ho : Ow Ξ (ms (p :: (S ++ A.map (·.2))) H1) (H1 p) d) :
    Rel Ξ H0 S ((i, p) :: A) G (σ.set i (some (.ref p))) H1 (env.set i (some d)) := by
  have hM : ∀ b : Addr, b ∈ S ++ ((i, p) :: A).map (·.2) ↔ b ∈ p :: (S ++ A.map (·.2)) := fun b => by
    rw [List.map_cons, List.mem_append, List.mem_cons, List.mem_cons, List.mem_append]
    constructor
    · rintro (h | h | h)
      · exact .inr (.inl h)
      · exact .inl h
      · exact .inr (.inr h)
    · rintro (h | h | h)
      · exact .inr (.inl h)
      · exact .inl h
      · exact .inr (.inr h)
  have s : Same (ms (S ++ A.map (·.2)) H) (ms (S ++ ((i, p) :: A).map (·.2)) H1) := fun b u e => by
    obtain ⟨h1, h2⟩ := ms_some e
    refine ms_at (g b u (fun z => h2 (r.ffM b z)) h1) fun z => ?_
    rcases List.mem_cons.mp ((hM b).mp z) with z | z
    · exact ne_of_none h1 np z
    · exact h2 z
  have s2 : Same (ms (p :: (S ++ A.map (·.2))) H1) (ms (S ++ ((i, p) :: A).map (·.2)) H1) := ms_mono fun b hb => (hM b).mp hb
  have hp := r.muA.out np
  refine ⟨by rw [List.length_set, List.length_set]; exact r.len, fun j e h nj => ?_, fun j a h => ?_, fun j a h => ?_, ?_, ?_, fun x hx => (r.gh x hx).same s, r.mu.gr g f, f, r.ffs, r.gr.trans g⟩
  · have z : i ≠ j := fun z => nj p (z ▸ List.mem_cons_self)
    rw [List.getElem?_set_ne z] at h
    obtain ⟨w, h1, h2⟩ := r.fr j e h fun a ha => nj a (List.mem_cons_of_mem _ ha)
    exact ⟨w, by rw [List.getElem?_set_ne z]; exact h1, h2.same s⟩
  · rcases List.mem_cons.mp h with e | h
    · cases e
      exact ⟨d, List.getElem?_set_self hi, List.getElem?_set_self (by rw [r.len]; exact hi), ho.same s2⟩
    · have z : i ≠ j := fun z => n a (z ▸ h)
      obtain ⟨e, h1, h2, h3⟩ := r.ow j a h
      have ea : H1 a = H a := by
        generalize hq : H a = o at h3
        cases h3 with
        | lst _ => exact g a _ (r.outA h) hq
      refine ⟨e, by rw [List.getElem?_set_ne z]; exact h1, by rw [List.getElem?_set_ne z]; exact h2, ?_⟩
      rw [ea]
      exact h3.same s
  · rcases List.mem_cons.mp h with e | h
    · cases e
      refine ⟨?_, fun z => hp (List.mem_append_left _ z)⟩
      cases q : H0 p with
      | none => rfl
      | some o =>
        have := r.gr p o (fun z => hp (List.mem_append_left _ (r.ffs p z))) q
        rw [np] at this
        cases this
    · exact r.old j a h
  · rw [List.map_cons, List.nodup_cons]
    exact ⟨fun z => hp (List.mem_append_right _ z), r.nd⟩
  · rw [List.map_cons, List.nodup_cons]
    refine ⟨fun z => ?_, r.ndk⟩
    obtain ⟨⟨j, a⟩, hx, e⟩ := List.mem_map.mp z
    have e : j = i := e
    subst e
    exact n a hx
/-- an owned object changes -/
theorem Rel.put {a : Addr} {d : D} {i : Nat} {o : HO} (r : Rel Ξ H0 S A G σ H env) (h : (i, a) ∈ A) (ho : Ow Ξ (ms (S ++ A.map (·.2)) H) (some o) d) : Rel Ξ H0 S A G σ (upd H a o) (env.set i (some d)) := by
  have ha : a ∈ S ++ A.map (·.2) := List.mem_append_right _ (List.mem_map.mpr ⟨(i, a), h, rfl⟩)
  have em : ms (S ++ A.map (·.2)) (upd H a o) = ms (S ++ A.map (·.2)) H := ms_upd ha
  obtain ⟨d0, e1, e2, _⟩ := r.ow i a h
  have hi : i < env.length := (List.getElem?_eq_some_iff.mp e1).1
  have uniq : ∀ {j : Nat} {b : Addr}, (j, b) ∈ A → i ≠ j → b ≠ a := fun {j b} hj z e => by
    subst e
    exact z (congrArg Prod.fst (nodup_inj r.nd h hj rfl))
  have uniqk : ∀ {b : Addr}, (i, b) ∈ A → b = a := fun {b} hj => congrArg Prod.snd (nodup_inj r.ndk hj h rfl)
  have nS := (r.old i a h).2
  refine ⟨by rw [List.length_set]; exact r.len, fun j e hj nj => ?_, fun j b hj => ?_, r.old, r.nd, r.ndk, fun x hx => by rw [em]; exact r.gh x hx, fun q hq => ?_, FI_upd r.fi (r.outA h), r.ffs, fun b u n e => ?_⟩
  · have z : i ≠ j := fun z => nj a (z ▸ h)
    rw [List.getElem?_set_ne z] at hj
    rw [em]
    exact r.fr j e hj nj
  · by_cases z : i = j
    · subst z
      have := uniqk hj
      subst this
      refine ⟨d, List.getElem?_set_self hi, e2, ?_⟩
      rw [em, upd_same]
      exact ho
    · obtain ⟨e, h1, h2, h3⟩ := r.ow j b hj
      refine ⟨e, by rw [List.getElem?_set_ne z]; exact h1, h2, ?_⟩
      rw [em, upd_ne (uniq hj z)]
      exact h3
  · rw [upd_ne (fun z => nS (by rw [← z]; exact hq))]
    exact r.mu q hq
  · have h0 := (r.old i a h).1
    rw [upd_ne (ne_of_none e h0)]
    exact r.gr b u n e
theorem Rel.ghost {g : List (V × D)} (r : Rel Ξ H0 S A G σ H env) (h : ∀ x ∈ g, Rp Ξ (ms (S ++ A.map (·.2)) H) x.1 x.2) : Rel Ξ H0 S A (g ++ G) σ H env :=
  ⟨r.len, r.fr, r.ow, r.old, r.nd, r.ndk, fun x hx => (List.mem_append.mp hx).elim (h x) (r.gh x), r.mu, r.fi, r.ffs, r.gr⟩
theorem Rel.unghost {g : List (V × D)} (r : Rel Ξ H0 S A (g ++ G) σ H env) : Rel Ξ H0 S A G σ H env :=
  ⟨r.len, r.fr, r.ow, r.old, r.nd, r.ndk, fun x hx => r.gh x (List.mem_append_right _ hx), r.mu, r.fi, r.ffs, r.gr⟩
/-- a comprehension's own names hold nothing -/
def wipeE (env : Env) : List Nat → Env
  | [] => env
  | i :: vs => (wipeE env vs).set i none
theorem wipeE_len (env : Env) : ∀ vs : List Nat, (wipeE env vs).length = env.length
  | [] => rfl
  | i :: vs => by
    show ((wipeE env vs).set i none).length = _
    rw [List.length_set, wipeE_len env vs]
theorem wipeE_some {env : Env} {i : Nat} {d : D} : ∀ {vs : List Nat}, (wipeE env vs)[i]? = some (some d) → env[i]? = some (some d) ∧ i ∉ vs
  | [], h => ⟨h, fun z => (nomatch z)⟩
  | j :: vs, h => by
    have h : ((wipeE env vs).set j none)[i]? = some (some d) := h
    by_cases z : j = i
    · subst z
      have hl := (List.getElem?_eq_some_iff.mp h).1
      rw [List.length_set] at hl
      rw [List.getElem?_set_self hl] at h
      cases h
    · rw [List.getElem?_set_ne z] at h
      obtain ⟨h1, h2⟩ := wipeE_some h
      exact ⟨h1, fun q => (List.mem_cons.mp q).elim (fun q => z q.symm) h2⟩
theorem wipeE_out {env : Env} {i : Nat} : ∀ {vs : List Nat}, i ∉ vs → (wipeE env vs)[i]? = env[i]?
  | [], _ => rfl
  | j :: vs, h => by
    show ((wipeE env vs).set j none)[i]? = _
    rw [List.getElem?_set_ne (fun z => h (by rw [z]; exact List.mem_cons_self)), wipeE_out fun z => h (List.mem_cons_of_mem _ z)]
theorem Rel.wipe (r : Rel Ξ H0 S A G σ H env) {vs : List Nat} (hv : ∀ i ∈ vs, i ∉ A.map (·.1)) : Rel Ξ H0 S A G (wipe σ vs) H (wipeE env vs) := by
  refine ⟨by rw [wipe_length, wipeE_len]; exact r.len, fun i d h n => ?_, fun i a h => ?_, r.old, r.nd, r.ndk, r.gh, r.mu, r.fi, r.ffs, r.gr⟩
  · obtain ⟨h1, h2⟩ := wipeE_some h
    obtain ⟨v, h3, h4⟩ := r.fr i d h1 n
    exact ⟨v, by rw [wipe_out h2]; exact h3, h4⟩
  · obtain ⟨d, h1, h2, h3⟩ := r.ow i a h
    have ni : i ∉ vs := fun z => hv i z (List.mem_map.mpr ⟨(i, a), h, rfl⟩)
    exact ⟨d, by rw [wipeE_out ni]; exact h1, by rw [wipe_out ni]; exact h2, h3⟩
end
end LP
namespace LP
open PySem PySem.Spec PyProof.Rows L2 PK
/-! ### targets -/
def liG (Ξ : Ctx) (H0 : Hp) (O vs : List Nat) (g : D → Env → W Env) : TG := fun v σ H Q => ∃ S A G env d E, A.map (·.1) = O ∧ Rel Ξ H0 S A G σ H env ∧ Rp Ξ (ms (S ++ A.map (·.2)) H) v d ∧
  (g d env).wp (fun env' => ∀ σ', σ'.length = σ.length → (∀ j, j ∉ vs → σ'[j]? = σ[j]?) → Rel Ξ H0 S A G σ' H env' → Q σ' H) E
def liGs (Ξ : Ctx) (H0 : Hp) (O vs : List Nat) (g : List D → Env → W Env) : TGs := fun xs σ H Q => ∃ S A G env ds E, A.map (·.1) = O ∧ Rel Ξ H0 S A G σ H env ∧ RpAll Ξ (ms (S ++ A.map (·.2)) H) xs ds ∧
  (g ds env).wp (fun env' => ∀ σ', σ'.length = σ.length → (∀ j, j ∉ vs → σ'[j]? = σ[j]?) → Rel Ξ H0 S A G σ' H env' → Q σ' H) E
section
variable {X : Cx} {Ξ : Ctx} {H0 : Hp} {O vs : List Nat} {e : Expr} {es : List Expr} {pos : Pos}
theorem wkG {t t' : TG} (h : PG X e t) (w : ∀ v σ H Q, t' v σ H Q → t v σ H Q) : PG X e t' := ⟨fun pins s σ H x u Q I r q => h.run pins s σ H x u Q I r (w x σ H Q q)⟩
theorem wkGs {t t' : TGs} (h : PGs X es t) (w : ∀ v σ H Q, t' v σ H Q → t v σ H Q) : PGs X es t' := ⟨fun pins s σ H x u Q I r q => h.run pins s σ H x u Q I r (w x σ H Q q)⟩
abbrev LG (Ξ : Ctx) (H0 : Hp) (O vs : List Nat) (X : Cx) (e : Expr) (g : D → Env → W Env) : Prop := PG X e (liG Ξ H0 O vs g)
abbrev LGs (Ξ : Ctx) (H0 : Hp) (O vs : List Nat) (X : Cx) (es : List Expr) (g : List D → Env → W Env) : Prop := PGs X es (liGs Ξ H0 O vs g)
theorem lg_name (i : Nat) (hO : i ∉ O) (hv : i ∈ vs) (h : PG X e (gName i)) : LG Ξ H0 O vs X e fun d env => W.ret (env.set i (some d)) := wkG h fun v σ H Q ⟨S, A, G, env, d, E, hA, r, hd, q⟩ => by
  refine q _ (List.length_set) (fun j hj => List.getElem?_set_ne fun z => hj (by rw [← z]; exact hv)) (r.set (fun a ha => hO ?_) hd)
  rw [← hA]
  exact List.mem_map.mpr ⟨(i, a), ha, rfl⟩
theorem lgs_nil : LGs Ξ H0 O vs X [] fun ds env => match ds with | [] => W.ret env | _ => W.fail := wkGs pgs_nil fun xs σ H Q ⟨S, A, G, env, ds, E, hA, r, hd, q⟩ => by
  cases hd with
  | nil => exact ⟨rfl, q σ rfl (fun _ _ => rfl) r⟩
  | cons _ _ => exact q.elim
def gsW (g : D → Env → W Env) (gs : List D → Env → W Env) (ds : List D) (env : Env) : W Env := match ds with
  | [] => W.fail
  | d :: ds => (g d env).bind fun env' => gs ds env'
theorem lgs_cons {g : D → Env → W Env} {gs : List D → Env → W Env} (h1 : LG Ξ H0 O vs X e g) (h2 : LGs Ξ H0 O vs X es gs) (hs : (assignEach (e :: es) X.env).map (·.2) = assign e X.env :: (assignEach es X.env).map (·.2) := by rfl) :
    LGs Ξ H0 O vs X (e :: es) (gsW g gs) := wkGs (pgs_cons h1 h2 hs) fun xs σ H Q ⟨S, A, G, env, ds, E, hA, r, hd, q⟩ => by
  cases hd with
  | nil => exact q.elim
  | cons hv hvs =>
    refine ⟨_, _, rfl, S, A, G, env, _, E, hA, r, hv, W.mono _ (fun env' k σ' l1 k1 r1 => ?_) (fun _ z => z) q⟩
    exact ⟨S, A, G, env', _, E, hA, r1, hvs, W.mono _ (fun env2 k σ2 l2 k2 r2 => k σ2 (l2.trans l1) (fun j hj => (k2 j hj).trans (k1 j hj)) r2) (fun _ z => z) k⟩
def tupG (n : Nat) (gs : List D → Env → W Env) (d : D) (env : Env) : W Env := match d with
  | .tup ds => (W.want (ds.length = n)).bind fun _ => gs ds env
  | _ => W.fail
theorem lg_tup {k n : Nat} {gs : List D → Env → W Env} (hc : X.calm = true) (hK : X.K = Ξ.K) (h : LGs Ξ H0 O vs X es gs) (hn : (assignEach es X.env).length = n := by rfl) (hst : (assignEach es X.env).findIdx? (·.1) = none := by rfl) :
    LG Ξ H0 O vs X (.Tuple es k pos) (tupG n gs) := wkG (pg_tup hc h hn hst) fun v σ H Q ⟨S, A, G, env, d, E, hA, r, hd, q⟩ => by
  cases d with
  | tup ds =>
    obtain ⟨b, xs, rfl, h1, h2⟩ := hd.tupE
    rw [hK]
    exact ⟨b, xs, rfl, sqT_same ms_sub h1, by rw [h2.len]; exact q.1, S, A, G, env, ds, E, hA, r, h2, q.2⟩
  | _ => exact q.elim
end
/-! ### what is walked -/
/-- J walks ds, while the things of g stand -/
structure Wk (Ξ : Ctx) (J : It) (g : List (V × D)) (ds : List D) : Prop where
  goes : ∀ (M : List Addr) (H : Hp) (i : Nat), Mu M H → (∀ x ∈ g, Rp Ξ (ms M H) x.1 x.2) → i < ds.length → J.go i H
  stops : ∀ (M : List Addr) (H : Hp), Mu M H → (∀ x ∈ g, Rp Ξ (ms M H) x.1 x.2) → J.stop ds.length H
  yields : ∀ (M : List Addr) (H : Hp) (i : Nat) (x : V) (H' : Hp), Mu M H → (∀ x ∈ g, Rp Ξ (ms M H) x.1 x.2) → i < ds.length → J.yld i H x H' → Same H H' ∧ ∃ d, ds[i]? = some d ∧ Rp Ξ (ms M H') x d
def liI (Ξ : Ctx) (H0 : Hp) (O : List Nat) (p : Env → W (List D)) : TI := fun σ H R => ∃ S A G env E, A.map (·.1) = O ∧ Rel Ξ H0 S A G σ H env ∧
  (p env).wp (fun ds => ∀ J H' g, Gr Ξ H H' → Rel Ξ H0 S A G σ H' env → (∀ x ∈ g, Rp Ξ (ms (S ++ A.map (·.2)) H') x.1 x.2) → Wk Ξ J g ds → R J H') E
section
variable {X : Cx} {Ξ : Ctx} {H0 : Hp} {O : List Nat} {tg e : Expr} {pos : Pos}
theorem wkI {t t' : TI} (h : PI X tg e t) (w : ∀ σ H R, t' σ H R → t σ H R) : PI X tg e t' := ⟨fun pins s σ H R I q => h.run pins s σ H R I (w σ H R q)⟩
abbrev LI (Ξ : Ctx) (H0 : Hp) (O : List Nat) (X : Cx) (tg e : Expr) (p : Env → W (List D)) : Prop := PI X tg e (liI Ξ H0 O p)
theorem wk_list {K : PySem.W.Frag} {a : Addr} {ds : List D} (hK : K = Ξ.K) : Wk Ξ (Itl K a) [(.ref a, .lst ds)] ds := by
  subst hK
  have get : ∀ {M : List Addr} {H : Hp}, (∀ x ∈ [((V.ref a : V), D.lst ds)], Rp Ξ (ms M H) x.1 x.2) → ∃ xs, SqL Ξ.K H a xs ∧ RpAll Ξ (ms M H) xs ds := fun {M H} h => by
    obtain ⟨b, xs, e, h1, h2⟩ := (h _ List.mem_cons_self).lstE
    cases e
    exact ⟨xs, SqL.of (ms_sub _ _ h1), h2⟩
  refine ⟨fun M H i _ h hi => ?_, fun M H _ h => ?_, fun M H i x H' _ h hi y => ?_⟩
  · obtain ⟨xs, h1, h2⟩ := get h
    have hx : i < xs.length := by rw [h2.len]; exact hi
    exact ⟨xs, xs[i], h1, by simp [hx]⟩
  · obtain ⟨xs, h1, h2⟩ := get h
    exact ⟨xs, h1, by rw [h2.len]; exact Nat.le_refl _⟩
  · obtain ⟨xs, h1, h2⟩ := get h
    obtain ⟨e, y⟩ := y
    subst e
    exact ⟨Same.refl _, h2.getV (y xs h1)⟩
theorem wk_tup {K : PySem.W.Frag} {a : Addr} {ds : List D} (hK : K = Ξ.K) : Wk Ξ (Itt K a) [(.ref a, .tup ds)] ds := by
  subst hK
  have get : ∀ {M : List Addr} {H : Hp}, (∀ x ∈ [((V.ref a : V), D.tup ds)], Rp Ξ (ms M H) x.1 x.2) → ∃ xs, SqT Ξ.K H a xs ∧ RpAll Ξ (ms M H) xs ds := fun {M H} h => by
    obtain ⟨b, xs, e, h1, h2⟩ := (h _ List.mem_cons_self).tupE
    cases e
    exact ⟨xs, sqT_same ms_sub h1, h2⟩
  refine ⟨fun M H i _ h hi => ?_, fun M H _ h => ?_, fun M H i x H' _ h hi y => ?_⟩
  · obtain ⟨xs, h1, h2⟩ := get h
    have hx : i < xs.length := by rw [h2.len]; exact hi
    exact ⟨xs, xs[i], h1, by simp [hx]⟩
  · obtain ⟨xs, h1, h2⟩ := get h
    exact ⟨xs, h1, by rw [h2.len]; exact Nat.le_refl _⟩
  · obtain ⟨xs, h1, h2⟩ := get h
    obtain ⟨e, y⟩ := y
    subst e
    exact ⟨Same.refl _, h2.getV (y xs h1)⟩
def rangeD (lo : Int) (n : Nat) : List D := (List.range n).map fun (i : Nat) => D.int (lo + (i : Int))
theorem wk_range {lo : Int} {n : Nat} : Wk Ξ (Itr lo n) [] (rangeD lo n) := by
  have l : (rangeD lo n).length = n := by simp [rangeD]
  refine ⟨fun M H i _ _ hi => by rw [l] at hi; exact hi, fun M H _ _ => by rw [l]; exact Nat.le_refl _, fun M H i x H' _ _ hi y => ?_⟩
  rw [l] at hi
  obtain ⟨e, y⟩ := y
  subst e y
  exact ⟨Same.refl _, .int (lo + i), by simp [rangeD, hi], .int _⟩
/-- a list or a tuple, walked -/
def walkLW : D → W (List D)
  | .lst ds => W.ret ds
  | _ => W.fail
def walkTW : D → W (List D)
  | .tup ds => W.ret ds
  | _ => W.fail
theorem li_list {p : Env → W D} (h : LE Ξ H0 O X e p) (hK : X.K = Ξ.K) : LI Ξ H0 O X tg e fun env => (p env).bind walkLW :=
  wkI (pi_list h) fun σ H R ⟨S, A, G, env, E, hA, r, q⟩ => ⟨S, A, G, env, E, hA, r, (p env).mono (fun d k v H' g r' hv => by
    cases d with
    | lst ds =>
      have hv' := hv
      obtain ⟨b, xs, rfl, h1, h2⟩ := hv'.lstE
      exact ⟨b, rfl, ⟨xs, SqL.of (ms_sub _ _ h1)⟩, k _ H' [(.ref b, .lst ds)] g r' (fun x hx => by rw [List.mem_singleton.mp hx]; exact hv) (wk_list hK)⟩
    | _ => exact k.elim) (fun _ z => z) q⟩
theorem li_tup {p : Env → W D} (h : LE Ξ H0 O X e p) (hK : X.K = Ξ.K) : LI Ξ H0 O X tg e fun env => (p env).bind walkTW :=
  wkI (pi_tup h) fun σ H R ⟨S, A, G, env, E, hA, r, q⟩ => ⟨S, A, G, env, E, hA, r, (p env).mono (fun d k v H' g r' hv => by
    cases d with
    | tup ds =>
      have hv' := hv
      obtain ⟨b, xs, rfl, h1, h2⟩ := hv'.tupE
      exact ⟨b, rfl, ⟨xs, by rw [hK]; exact sqT_same ms_sub h1⟩, k _ H' [(.ref b, .tup ds)] g r' (fun x hx => by rw [List.mem_singleton.mp hx]; exact hv) (wk_tup hK)⟩
    | _ => exact k.elim) (fun _ z => z) q⟩
def range1W : List D → W (List D)
  | [.int n] => (W.want (-(2 ^ 62) ≤ n ∧ n < 2 ^ 62)).bind fun _ => W.ret (rangeD 0 n.toNat)
  | _ => W.fail
theorem li_range {a : Expr} {p : Env → W (List D)} {pp pos : Pos} (hg : Gl X "range") (hm : X.mg "range" = none) (ha : LA Ξ H0 O X [a] p) (hs : starEach [a] X.env = [(false, eval a X.env)] := by rfl) :
    LI Ξ H0 O X tg (.Call (.Name "range" pp) [a] [] pos) fun env => (p env).bind range1W :=
  wkI (pi_range1 hg hm ha hs) fun σ H R ⟨S, A, G, env, E, hA, r, q⟩ => ⟨S, A, G, env, E, hA, r, (p env).mono (fun ds k vs H' g r' hv => by
    match ds, k, hv with
    | [.int n], k, .cons (.int _) .nil => exact ⟨n, rfl, k.1.1, k.1.2, k.2 _ H' [] g r' (fun _ hx => (nomatch hx)) wk_range⟩) (fun _ z => z) q⟩
end
/-! ### comprehensions -/
def lcW (g : D → Env → W Env) (t : Env → W Bool) (el : Env → W D) (env : Env) : List D → List D → W (List D)
  | [], acc => W.ret acc
  | d :: ds, acc => (W.calm (g d env)).bind fun env' => (W.calm (t env')).bind fun b => W.ite b
    ((W.calm (el env')).bind fun y => (W.want (acc.length < sizeLine)).bind fun _ => lcW g t el env ds (acc ++ [y])) (lcW g t el env ds acc)
/-- the new list -/
def liN (Ξ : Ctx) (H0 : Hp) (O : List Nat) (p : Env → W D) : TE := fun σ H Q => ∃ S A G env E, A.map (·.1) = O ∧ Rel Ξ H0 S A G σ H env ∧
  (p env).wp (fun d => ∀ (l : Addr) H', Gr Ξ H H' → Ξ.FI H' → H l = none → Ow Ξ (ms (l :: (S ++ A.map (·.2))) H') (H' l) d → Q (.ref l) H') E
section
variable {X : Cx} {Ξ : Ctx} {H0 : Hp} {O : List Nat}
theorem wipe_eq {σ σ' : L2.St} : ∀ {vs : List Nat}, σ'.length = σ.length → (∀ j, j ∉ vs → σ'[j]? = σ[j]?) → wipe σ' vs = wipe σ vs := by
  intro vs hl h
  refine List.ext_getElem? fun j => ?_
  by_cases z : j ∈ vs
  · by_cases q : j < σ.length
    · have key : ∀ τ : L2.St, τ.length = σ.length → (wipe τ vs)[j]? = some none := fun τ ht => by
        cases e : (wipe τ vs)[j]? with
        | none =>
          have := List.getElem?_eq_none_iff.mp e
          rw [wipe_length] at this
          omega
        | some o =>
          cases o with
          | none => rfl
          | some x => exact absurd z (wipe_some e).2
      rw [key σ' hl, key σ rfl]
    · rw [List.getElem?_eq_none (by rw [wipe_length]; omega), List.getElem?_eq_none (by rw [wipe_length]; omega)]
  · rw [wipe_out z, wipe_out z]
    exact h j z
theorem wipe_wipe {σ : L2.St} {vs : List Nat} : wipe (wipe σ vs) vs = wipe σ vs := wipe_eq (wipe_length _ _) fun j hj => wipe_out hj
/-- frozen as it is made -/
theorem le_new {e : Expr} {p : Env → W D} (h : PE X e (liN Ξ H0 O p)) : LE Ξ H0 O X e p := wkE h fun σ H Q ⟨S, A, G, env, E, hA, r, q⟩ =>
  ⟨S, A, G, env, E, hA, r, (p env).mono (fun d k l H' g f nl ho => by
    refine k (.ref l) H' g (r.grow g f) ?_
    have nM := r.muA.out nl
    generalize hq : H' l = o at ho
    cases ho with
    | lst ho => exact .lst (ms_at hq nM) (ho.same (ms_mono fun b hb => List.mem_cons_of_mem _ hb))) (fun _ z => z) q⟩
theorem lc_reads {wi : TI} {g : TG} {tt : TT} {te : TE} {vs : List Nat} {p : Env → W (List D)} {gW : D → Env → W Env} {tW : Env → W Bool} {eW : Env → W D} (hvs : ∀ i ∈ vs, i ∉ O)
    (hi : ∀ σ H R, liI Ξ H0 O p σ H R → wi σ H R) (hg : ∀ v σ H Q, liG Ξ H0 O vs gW v σ H Q → g v σ H Q) (ht : ∀ σ H Q, liT Ξ H0 O tW σ H Q → tt σ H Q) (he : ∀ σ H Q, liE Ξ H0 O eW σ H Q → te σ H Q) :
    ∀ σ H Q, liN Ξ H0 O (fun env => (p env).bind fun ds => (lcW gW tW eW (wipeE env vs) ds []).bind fun l => W.ret (.lst l)) σ H Q → tLc wi g tt te vs σ H Q := by
  rintro σ H Q ⟨S, A, G, env, E, hA, r, q⟩
  refine hi σ H _ ⟨S, A, G, env, E, hA, r, (p env).mono (fun ds k J H1 gh g1 r1 hgh w D nD => ?_) (fun _ z => z) q⟩
  have nDM := r1.muA.out nD
  have nDf : D ∉ Ξ.ff := ff_out r1.fi nD
  have hwp : ∀ i ∈ vs, i ∉ A.map (·.1) := fun i hi => by rw [hA]; exact hvs i hi
  -- the state of the turns
  let Pv : Nat → Hp → Prop := fun i H2 => ∃ us acc, Gr Ξ H1 H2 ∧ Rel Ξ H0 (D :: S) A (gh ++ G) σ H2 env ∧ H2 D = some (.lst us) ∧ RpAll Ξ (ms ((D :: S) ++ A.map (·.2)) H2) us acc ∧
    (lcW gW tW eW (wipeE env vs) (ds.drop i) acc).wp (fun l => ∀ (l' : Addr) H', Gr Ξ H H' → Ξ.FI H' → H l' = none → Ow Ξ (ms (l' :: (S ++ A.map (·.2))) H') (H' l') (.lst l) → Q (.ref l') H') E
  have hcons : ∀ {H2 : Hp}, ms (D :: (S ++ A.map (·.2))) H2 = ms ((D :: S) ++ A.map (·.2)) H2 := rfl
  have nDH : H D = none := by
    cases q : H D with
    | none => rfl
    | some o =>
      have := g1 D o nDf q
      rw [nD] at this
      cases this
  refine ⟨fun i m H2 => m = ds.length - i ∧ i ≤ ds.length ∧ Pv i H2, ⟨ds.length, rfl, Nat.zero_le _, [], [], ?_⟩, ?_⟩
  · refine ⟨Gr.of (same_new (Same.refl H1) nD), (r1.ghost hgh).mask nD trivial, upd_same, .nil, k⟩
  · rintro i m H2 ⟨rfl, hi2, us, acc, g2, r2, eD, ha, k2⟩
    have gh2 : ∀ x ∈ gh, Rp Ξ (ms ((D :: S) ++ A.map (·.2)) H2) x.1 x.2 := fun x hx => r2.gh x (List.mem_append_left _ hx)
    by_cases hlt : i < ds.length
    · refine .inr ⟨w.goes _ H2 i r2.muA gh2 hlt, Pv (i + 1), fun H' p' => ⟨ds.length - (i + 1), by omega, rfl, hlt, p'⟩, fun x H3 y => ?_⟩
      obtain ⟨s3, d, hd, rx⟩ := w.yields _ H2 i x H3 r2.muA gh2 hlt y
      have r3 := r2.same s3
      have eD3 := s3 _ _ eD
      have ha3 := ha.same ((Gr.of s3 : Gr Ξ _ _).ms r2.ffM)
      rw [List.drop_eq_getElem_cons hlt] at k2
      have ed : ds[i] = d := by
        rw [List.getElem?_eq_getElem hlt] at hd
        exact Option.some.inj hd
      rw [ed] at k2
      refine hg x _ H3 _ ⟨D :: S, A, gh ++ G, wipeE env vs, d, fun _ => False, hA, r3.wipe hwp, rx, W.mono _ (fun env' k3 σ' l' k' r4 => ?_) (fun _ z => z) k2⟩
      refine ⟨(wipe_eq l' k').trans wipe_wipe, ht σ' H3 _ ⟨D :: S, A, gh ++ G, env', fun _ => False, hA, r4, W.mono _ (fun b k4 H4 g4 r5 => ?_) (fun _ z => z) k3⟩⟩
      have back : ∀ {H5 : Hp}, Rel Ξ H0 (D :: S) A (gh ++ G) σ' H5 env' → Gr Ξ H3 H5 → Rel Ξ H0 (D :: S) A (gh ++ G) σ H5 env := fun {H5} rr gg => r3.grow gg rr.fi
      have eD4 := g4 _ _ nDf eD3
      have ha4 := ha3.same (g4.ms r3.ffM)
      cases b with
      | false => exact iteF ⟨us, acc, (g2.trans (Gr.of s3)).trans g4, back r5 g4, eD4, ha4, k4⟩
      | true =>
        refine iteT (he σ' H4 _ ⟨D :: S, A, gh ++ G, env', fun _ => False, hA, r5, W.mono _ (fun y k5 v H5 g5 r6 hv => ?_) (fun _ z => z) k4⟩)
        have eD5 := g5 _ _ nDf eD4
        have ha5 := ha4.same (g5.ms r5.ffM)
        have r7 := back r6 (g4.trans g5)
        have hD : D ∈ (D :: S) ++ A.map (·.2) := List.mem_cons_self
        refine ⟨us, eD5, by rw [ha5.len]; exact k5.1, us ++ [v], acc ++ [y], fun b o n e => ?_, ?_, upd_same, ?_, k5.2⟩
        · rw [upd_ne (ne_of_none e nD)]
          exact ((g2.trans (Gr.of s3)).trans (g4.trans g5)) b o n e
        · refine ⟨r7.len, fun j z h n => ?_, fun j a h => ?_, r7.old, r7.nd, r7.ndk, fun x hx => ?_, r7.mu.upd trivial, FI_upd r7.fi nDf, r7.ffs, fun b o n e => ?_⟩
          · rw [ms_upd hD]
            exact r7.fr j z h n
          · have na : a ≠ D := fun z => (r7.old j a h).2 (by rw [z]; exact List.mem_cons_self)
            rw [ms_upd hD, upd_ne na]
            exact r7.ow j a h
          · rw [ms_upd hD]
            exact r7.gh x hx
          · have nb : b ≠ D := fun z => by
              rw [z] at e
              have := r1.gr D o (by rw [← z]; exact n) e
              rw [nD] at this
              cases this
            rw [upd_ne nb]
            exact r7.gr b o n e
        · rw [ms_upd hD]
          exact ha5.snoc hv
    · have e : i = ds.length := by omega
      subst e
      refine .inl ⟨w.stops _ H2 r2.muA gh2, ?_⟩
      rw [List.drop_length] at k2
      refine k2 D H2 (g1.trans g2) r2.fi nDH ?_
      rw [eD]
      exact .lst ha
end
end LP
namespace LP
open PySem PySem.Spec PyProof.Rows L2 PK
/-! ### statements -/
inductive Fl where
  | nx (e : Env)
  | rt (d : D)
  | bk (e : Env)
  | ct (e : Env)
/-- what is wanted behind -/
def FQ (Ξ : Ctx) (H0 : Hp) (S : List Addr) (G : List (V × D)) (O' Ob : List Nat) (De : Ends) : Fl → Prop
  | .nx env => ∀ A σ H, A.map (·.1) = O' → Rel Ξ H0 S A G σ H env → De.nx σ H
  | .rt d => ∀ v H, Gr Ξ H0 H → Ξ.FI H → (∀ x ∈ G, Rp Ξ (ms S H) x.1 x.2) → Rp Ξ (ms S H) v d → De.rt v H
  | .bk env => ∀ A σ H, A.map (·.1) = Ob → Rel Ξ H0 S A G σ H env → De.bk σ H
  | .ct env => ∀ A σ H, A.map (·.1) = Ob → Rel Ξ H0 S A G σ H env → De.ct σ H
def liS (Ξ : Ctx) (H0 : Hp) (O O' Ob : List Nat) (p : Env → W Fl) : TS := fun De σ H => ∃ S A G env E, A.map (·.1) = O ∧ Rel Ξ H0 S A G σ H env ∧ (p env).wp (FQ Ξ H0 S G O' Ob De) E
def thenW (m : W Fl) (q : Env → W Fl) : W Fl := m.bind fun f => match f with
  | .nx e => q e
  | f => W.ret f
section
variable {X : Cx} {Ξ : Ctx} {H0 : Hp} {O O1 O2 O' Ob : List Nat} {st : Stmt} {sts a b : List Stmt} {e c : Expr} {pos : Pos} {p q : Env → W Fl}
abbrev LS (Ξ : Ctx) (H0 : Hp) (O O' Ob : List Nat) (X : Cx) (st : Stmt) (p : Env → W Fl) : Prop := PS X st (liS Ξ H0 O O' Ob p)
abbrev LSs (Ξ : Ctx) (H0 : Hp) (O O' Ob : List Nat) (X : Cx) (st : List Stmt) (p : Env → W Fl) : Prop := PSs X st (liS Ξ H0 O O' Ob p)
theorem keys_filter {A : List (Nat × Addr)} {O1 O2 : List Nat} (h : A.map (·.1) = O1) (hs : O1.filter (fun i => decide (i ∈ O2)) = O2) : (A.filter fun x => decide (x.1 ∈ O2)).map (·.1) = O2 := by
  have e : (A.filter fun x => decide (x.1 ∈ O2)).map (·.1) = (A.map (·.1)).filter fun i => decide (i ∈ O2) := by
    rw [List.filter_map]
    rfl
  rw [e, h, hs]
theorem lss_nil : LSs Ξ H0 O O Ob X [] fun env => W.ret (.nx env) := wkSs pss_nil fun De σ H ⟨S, A, G, env, E, hA, r, k⟩ => k A σ H hA r
theorem lss_cons (h1 : LS Ξ H0 O O1 Ob X st p) (h2 : LSs Ξ H0 O2 O' Ob X sts q) (hs : O1.filter (fun i => decide (i ∈ O2)) = O2 := by decide) : LSs Ξ H0 O O' Ob X (st :: sts) fun env => thenW (p env) q :=
  wkSs (pss_cons h1 h2) fun De σ H ⟨S, A, G, env, E, hA, r, k⟩ => ⟨S, A, G, env, E, hA, r, (p env).mono (fun f k => by
    cases f with
    | nx env' => exact fun A' σ' H' hA' r' => ⟨S, _, G, env', E, keys_filter hA' hs, r'.sub fun i => decide (i ∈ O2), k⟩
    | rt d => exact k
    | bk env' => exact k
    | ct env' => exact k) (fun _ z => z) k⟩
theorem lss_one (h1 : LS Ξ H0 O O' Ob X st p) : LSs Ξ H0 O O' Ob X [st] p := pss_one h1
theorem ls_ret {pe : Env → W D} (h : LE Ξ H0 O X e pe) : LS Ξ H0 O O' Ob X (.Return (some e) pos) fun env => (pe env).bind fun d => W.ret (.rt d) :=
  wkS (ps_ret h) fun De σ H ⟨S, A, G, env, E, hA, r, k⟩ => ⟨S, A, G, env, E, hA, r, (pe env).mono (fun d k v H' g r' hv => k v H' r'.gr r'.fi (fun x hx => (r'.gh x hx).same (ms_mono fun b hb => List.mem_append_left _ hb)) (hv.same (ms_mono fun b hb => List.mem_append_left _ hb))) (fun _ z => z) k⟩
theorem ls_if {pt : Env → W Bool} (hc : LT Ξ H0 O X c pt) (ha : LSs Ξ H0 O O' Ob X a p) (hb : LSs Ξ H0 O O' Ob X b q) : LS Ξ H0 O O' Ob X (.If c a b pos) fun env => (pt env).bind fun k => W.ite k (p env) (q env) :=
  wkS (ps_if hc ha hb) fun De σ H ⟨S, A, G, env, E, hA, r, k⟩ => ⟨S, A, G, env, E, hA, r, (pt env).mono (fun b k H' g r' => by
    cases b with
    | true => exact iteT ⟨S, A, G, env, E, hA, r', k⟩
    | false => exact iteF ⟨S, A, G, env, E, hA, r', k⟩) (fun _ z => z) k⟩
/-- x = e -/
theorem asg_reads {te : TE} {pe : Env → W D} {i : Nat} (hO : O.filter (fun j => decide (j ∈ O')) = O') (hi : i ∉ O') (h : ∀ σ H Q, liE Ξ H0 O pe σ H Q → te σ H Q) :
    ∀ De σ H, liS Ξ H0 O O' Ob (fun env => (pe env).bind fun d => W.ret (.nx (env.set i (some d)))) De σ H → tAsg te (gName i) De σ H := by
  rintro De σ H ⟨S, A, G, env, E, hA, r, k⟩
  refine h σ H _ ⟨S, A, G, env, E, hA, r, (pe env).mono (fun d k v H' g r' hv => ?_) (fun _ z => z) k⟩
  refine k _ _ H' (keys_filter hA hO) ((r'.sub fun j => decide (j ∈ O')).set (fun a ha => hi ?_) (hv.same (ms_mono fun b hb => ?_)))
  · exact of_decide_eq_true (List.mem_filter.mp ha).2
  · rcases List.mem_append.mp hb with hb | hb
    · exact List.mem_append_left _ hb
    · obtain ⟨x, hx, rfl⟩ := List.mem_map.mp hb
      exact List.mem_append_right _ (List.mem_map.mpr ⟨x, (List.mem_filter.mp hx).1, rfl⟩)
theorem ls_set {pe : Env → W D} {i : Nat} {x : Str} {pos' : Pos} (hN : X.N.Nodup) (hi : X.N[i]? = some x) (hx : Loc X.env.scope x) (he : LE Ξ H0 O X e pe) (hO : O.filter (fun j => decide (j ∈ O')) = O' := by decide) (hi2 : i ∉ O' := by decide)
    (hs : swapsWith e (some (.Name x pos')) pos.line X.env = pure false := by rfl) (hf : X.fn x = true ∨ X.env.scope.names.lookup x = some .local := by first | exact .inl rfl | exact .inr rfl | assumption) :
    LS Ξ H0 O O' Ob X (.Assign [.Name x pos'] e pos) fun env => (pe env).bind fun d => W.ret (.nx (env.set i (some d))) :=
  wkS (ps_set hN hi hx he hs hf) (asg_reads hO hi2 fun _ _ _ h => h)
/-- x = a new list, owned -/
theorem own_reads {te : TE} {pe : Env → W D} {i : Nat} (hO : O.filter (fun j => decide (j ∈ O')) = O') (hi : i ∉ O') (h : ∀ σ H Q, liN Ξ H0 O pe σ H Q → te σ H Q) :
    ∀ De σ H, liS Ξ H0 O (i :: O') Ob (fun env => (pe env).bind fun d => (W.want (i < env.length)).bind fun _ => W.ret (.nx (env.set i (some d)))) De σ H → tAsg te (gName i) De σ H := by
  rintro De σ H ⟨S, A, G, env, E, hA, r, k⟩
  refine h σ H _ ⟨S, A, G, env, E, hA, r, (pe env).mono (fun d k l H' g f nl ho => ?_) (fun _ z => z) k⟩
  refine k.2 _ _ H' (by rw [List.map_cons, keys_filter hA hO]) ((r.sub fun j => decide (j ∈ O')).own (fun a ha => hi ?_) k.1 nl g f (ho.same (ms_mono fun b hb => ?_)))
  · exact of_decide_eq_true (List.mem_filter.mp ha).2
  · rcases List.mem_cons.mp hb with hb | hb
    · rw [hb]
      exact List.mem_cons_self
    · rcases List.mem_append.mp hb with hb | hb
      · exact List.mem_cons_of_mem _ (List.mem_append_left _ hb)
      · obtain ⟨x, hx, rfl⟩ := List.mem_map.mp hb
        exact List.mem_cons_of_mem _ (List.mem_append_right _ (List.mem_map.mpr ⟨x, (List.mem_filter.mp hx).1, rfl⟩))
theorem ls_own {pe : Env → W D} {i : Nat} {x : Str} {pos' : Pos} (hN : X.N.Nodup) (hi : X.N[i]? = some x) (hx : Loc X.env.scope x) (he : PE X e (liN Ξ H0 O pe)) (hO : O.filter (fun j => decide (j ∈ O')) = O' := by decide) (hi2 : i ∉ O' := by decide)
    (hs : swapsWith e (some (.Name x pos')) pos.line X.env = pure false := by rfl) (hf : X.fn x = true ∨ X.env.scope.names.lookup x = some .local := by first | exact .inl rfl | exact .inr rfl | assumption) :
    LS Ξ H0 O (i :: O') Ob X (.Assign [.Name x pos'] e pos) fun env => (pe env).bind fun d => (W.want (i < env.length)).bind fun _ => W.ret (.nx (env.set i (some d))) :=
  wkS (ps_set hN hi hx he hs hf) (own_reads hO hi2 fun _ _ _ h => h)
/-- a, b = e -/
theorem ls_asg {pe : Env → W D} {tg : Expr} {gW : D → Env → W Env} {vs : List Nat} (he : LE Ξ H0 O X e pe) (hg : LG Ξ H0 O vs X tg gW) (hs : swapsWithSole [tg] e pos.line X.env = pure false := by rfl) (hw : swappedStores [tg] e X.env = pure none := by rfl) (h1 : (assignEach [tg] X.env).map (·.2) = [assign tg X.env] := by rfl) :
    LS Ξ H0 O O Ob X (.Assign [tg] e pos) fun env => (pe env).bind fun d => (gW d env).bind fun env' => W.ret (.nx env') :=
  wkS (ps_asg he hg hs hw h1) fun De σ H ⟨S, A, G, env, E, hA, r, k⟩ => ⟨S, A, G, env, E, hA, r, (pe env).mono (fun d k v H' g r' hv =>
    ⟨S, A, G, env, d, E, hA, r', hv, W.mono _ (fun env' k σ' _ _ r2 => k A σ' H' hA r2) (fun _ z => z) k⟩) (fun _ z => z) k⟩
/-! ### loops -/
def forW (g : D → Env → W Env) (p : Env → W Fl) : List D → Env → W Fl
  | [], env => W.ret (.nx env)
  | d :: ds, env => (g d env).bind fun env1 => (p env1).bind fun f => match f with
    | .nx e => forW g p ds e
    | .ct e => forW g p ds e
    | .bk e => W.ret (.nx e)
    | .rt d => W.ret (.rt d)
theorem ls_for {tg iter : Expr} {body : List Stmt} {pi : Env → W (List D)} {gW : D → Env → W Env} {vs : List Nat} (hp : PassesOwn (model X.prog X.w) X.A X.env X.xe) (hc : X.calm = true) (hi : LI Ξ H0 O X tg iter pi) (hg : LG Ξ H0 O vs X tg gW) (hb : LSs Ξ H0 O O O X body p)
    (hs : ∀ x, foldedSetIterable iter X.env x = pure x := by intro _; rfl) : LS Ξ H0 O O Ob X (.For tg iter body [] pos) fun env => (pi env).bind fun ds => forW gW p ds env := by
  refine wkS (ps_for hp hc hi hg hb hs) fun De σ H ⟨S, A, G, env, E, hA, r, k⟩ => ⟨S, A, G, env, E, hA, r, (pi env).mono (fun ds k J H1 gh g1 r1 hgh w => ?_) (fun _ z => z) k⟩
  refine ⟨fun i m σ' H' => m = ds.length - i ∧ i ≤ ds.length ∧ ∃ A' env', A'.map (·.1) = O ∧ Rel Ξ H0 S A' (gh ++ G) σ' H' env' ∧ (forW gW p (ds.drop i) env').wp (FQ Ξ H0 S G O Ob De) E, ⟨ds.length, rfl, Nat.zero_le _, A, env, hA, r1.ghost hgh, k⟩, ?_⟩
  rintro i m σ2 H2 ⟨rfl, hi2, A2, env2, hA2, r2, k2⟩
  have gh2 : ∀ x ∈ gh, Rp Ξ (ms (S ++ A2.map (·.2)) H2) x.1 x.2 := fun x hx => r2.gh x (List.mem_append_left _ hx)
  by_cases hlt : i < ds.length
  · refine .inr ⟨w.goes _ H2 i r2.muA gh2 hlt, fun σ' H' => ∃ A' env', A'.map (·.1) = O ∧ Rel Ξ H0 S A' (gh ++ G) σ' H' env' ∧ (forW gW p (ds.drop (i + 1)) env').wp (FQ Ξ H0 S G O Ob De) E, fun σ' H' p' => ⟨ds.length - (i + 1), by omega, rfl, hlt, p'⟩, fun x H3 y => ?_⟩
    obtain ⟨s3, d, hd, rx⟩ := w.yields _ H2 i x H3 r2.muA gh2 hlt y
    rw [List.drop_eq_getElem_cons hlt] at k2
    have ed : ds[i] = d := by
      rw [List.getElem?_eq_getElem hlt] at hd
      exact Option.some.inj hd
    rw [ed] at k2
    refine ⟨S, A2, gh ++ G, env2, d, E, hA2, r2.same s3, rx, W.mono _ (fun env3 k3 σ3 _ _ r3 => ?_) (fun _ z => z) k2⟩
    refine ⟨S, A2, gh ++ G, env3, E, hA2, r3, (p env3).mono (fun f k4 => ?_) (fun _ z => z) k3⟩
    cases f with
    | nx e => exact fun A' σ' H' hA' r' => ⟨A', e, hA', r', k4⟩
    | ct e => exact fun A' σ' H' hA' r' => ⟨A', e, hA', r', k4⟩
    | bk e => exact fun A' σ' H' hA' r' => k4 A' σ' H' hA' r'.unghost
    | rt d => exact fun v H g f gg hv => k4 v H g f (fun x hx => gg x (List.mem_append_right _ hx)) hv
  · have e : i = ds.length := by omega
    subst e
    rw [List.drop_length] at k2
    exact .inl ⟨w.stops _ H2 r2.muA gh2, k2 A2 σ2 H2 hA2 r2.unghost⟩
def whileN (t : Env → W Bool) (p : Env → W Fl) : Nat → Env → W Fl
  | 0, _ => W.fail
  | n + 1, env => (t env).bind fun b => W.ite b ((p env).bind fun f => match f with
    | .nx e => whileN t p n e
    | .ct e => whileN t p n e
    | .bk e => W.ret (.nx e)
    | .rt d => W.ret (.rt d)) (W.ret (.nx env))
def whileW (t : Env → W Bool) (p : Env → W Fl) (env : Env) : W Fl := ⟨fun Q E => ∃ n, (whileN t p n env).wp Q E, fun h1 h2 ⟨n, q⟩ => ⟨n, W.mono _ h1 h2 q⟩⟩
theorem ls_while {body : List Stmt} {pt : Env → W Bool} (hp : PassesOwn (model X.prog X.w) X.A X.env X.xe) (hc : LT Ξ H0 O X c pt) (hb : LSs Ξ H0 O O O X body p) : LS Ξ H0 O O Ob X (.While c body [] pos) fun env => whileW pt p env := by
  refine wkS (ps_while hp hc hb) fun De σ H ⟨S, A, G, env, E, hA, r, n, k⟩ => ?_
  refine ⟨fun m σ' H' => ∃ A' env', A'.map (·.1) = O ∧ Rel Ξ H0 S A' G σ' H' env' ∧ (whileN pt p m env').wp (FQ Ξ H0 S G O Ob De) E, ⟨n, A, env, hA, r, k⟩, ?_⟩
  rintro m σ2 H2 ⟨A2, env2, hA2, r2, k2⟩
  cases m with
  | zero => exact k2.elim
  | succ m =>
    refine ⟨S, A2, G, env2, E, hA2, r2, (pt env2).mono (fun b k3 H3 g3 r3 => ?_) (fun _ z => z) k2⟩
    cases b with
    | false => exact iteF (k3 A2 σ2 H3 hA2 r3)
    | true =>
      refine iteT ⟨fun σ' H' => ∃ A' env', A'.map (·.1) = O ∧ Rel Ξ H0 S A' G σ' H' env' ∧ (whileN pt p m env').wp (FQ Ξ H0 S G O Ob De) E, fun σ' H' p' => ⟨m, by omega, p'⟩, ?_⟩
      refine ⟨S, A2, G, env2, E, hA2, r3, (p env2).mono (fun f k4 => ?_) (fun _ z => z) k3⟩
      cases f with
      | nx e => exact fun A' σ' H' hA' r' => ⟨A', e, hA', r', k4⟩
      | ct e => exact fun A' σ' H' hA' r' => ⟨A', e, hA', r', k4⟩
      | bk e => exact fun A' σ' H' hA' r' => k4 A' σ' H' hA' r'
      | rt d => exact k4
end
/-! ### defs -/
/-- how an error stands -/
def ExAt (Ξ : Ctx) (S : List Addr) (H : Hp) (C d : Addr) (ex : Ex) : Prop := Ξ.cl ex.c = some C ∧ ∃ xs, H d = some (.xd ((Ξ.fl ex.c).zip xs)) ∧ RpAll Ξ (ms S H) xs ex.l
/-- a def by value: p of what is handed in -/
def liF (Γ : Sig) (p : List D → W D) : Sp := fun vs H Q E => ∃ (fd : Fd) (S : List Addr) (ds : List D) (EE : Ex → Prop),
  Mu S H ∧ (∀ b ∈ (Ctx.mk Γ fd).ff, b ∈ S) ∧ (Ctx.mk Γ fd).FI H ∧ RpAll (Ctx.mk Γ fd) (ms S H) vs ds ∧
  (∀ ex, EE ex → ∀ C d H', Gr (Ctx.mk Γ fd) H H' → (Ctx.mk Γ fd).FI H' → H d = none → ExAt (Ctx.mk Γ fd) S H' C d ex → E (.ref C) (some d) H') ∧
  (p ds).wp (fun d => ∀ v H', Gr (Ctx.mk Γ fd) H H' → (Ctx.mk Γ fd).FI H' → Rp (Ctx.mk Γ fd) (ms S H') v d → Q v H') EE
def startE (n : Nat) (ds : List D) : Env := ds.map some ++ List.replicate (n - ds.length) none
/-- what a body gives -/
def endW (m : W Fl) : W D := m.bind fun f => match f with
  | .rt d => W.ret d
  | .nx _ => W.ret .non
  | _ => W.fail
theorem Rel.start {Ξ : Ctx} {H : Hp} {S : List Addr} {vs : List V} {ds : List D} {N : List Str} (mu : Mu S H) (hf : ∀ b ∈ Ξ.ff, b ∈ S) (fi : Ξ.FI H) (h : RpAll Ξ (ms S H) vs ds) : Rel Ξ H S [] [] (L2.start N vs) H (startE N.length ds) := by
  have em : S ++ ([] : List (Nat × Addr)).map (·.2) = S := List.append_nil S
  refine ⟨?_, fun i d hd _ => ?_, fun i a h => (nomatch h), fun i a h => (nomatch h), List.nodup_nil, List.nodup_nil, fun x hx => (nomatch hx), mu, fi, hf, Gr.refl H⟩
  · unfold L2.start startE
    simp [h.len]
  · unfold startE at hd
    have hl : i < ds.length := by
      rcases Nat.lt_or_ge i ds.length with z | z
      · exact z
      · rw [List.getElem?_append_right (by rw [List.length_map]; exact z)] at hd
        have := List.mem_of_getElem? hd
        rw [List.mem_replicate] at this
        cases this.2
    rw [List.getElem?_append_left (by rw [List.length_map]; exact hl), List.getElem?_map] at hd
    obtain ⟨d', e1, e2⟩ := Option.map_eq_some_iff.mp hd
    cases e2
    obtain ⟨v, h1, h2⟩ := h.get e1
    refine ⟨v, ?_, by rw [em]; exact h2⟩
    unfold L2.start
    rw [List.getElem?_append_left (by rw [List.length_map, h.len]; exact hl), List.getElem?_map, h1]
    rfl
section
variable {Γ : Sig} {mg : Str → Option Value} {base : Heap}
/-- THE RULE for a def by value -/
theorem ok_by {x qual : Str} {st : Stmt} {f : Addr} {fd : FuncData} {N ps : List Str} {k : Nat} {p : List D → W D} {pb : Env → W Fl} (F : Fun Γ.K x qual st f fd) (Sc : FnScope N ps (defScope st))
    (hbody : ∀ (fe : Fd) (cdv : Value) (A : Around) (outer : List PySem.Env) (s : Shared) (H : Hp) (E : XK), Room k (A.deeper (envOfC qual (defScope st) s.heap.objs.size f cdv)) →
      LSs ⟨Γ, fe⟩ H [] [] [] (cxOf CX0 Γ.P Γ.w Γ.K mg base N qual (defScope st) f cdv A outer s H E).nox (defBody st) pb)
    (hp : ∀ ds Q E, (p ds).wp Q E → ds.length = ps.length ∧ (endW (pb (startE N.length ds))).wp Q E) : FnOk Γ.P Γ.w Γ.K mg base CX0 (k + 1) f fd ps (liF Γ p) := by
  refine F.ok Sc (fun vs H Q E ⟨fe, S, ds, EE, mu, hf, fi, hv, hE, q⟩ => ?_) (fun cdv A outer s H vs Q E hr ⟨fe, S, ds, EE, mu, hf, fi, hv, hE, q⟩ => ?_)
  · rw [hv.len]
    exact (hp ds _ _ q).1
  · refine ⟨_, hbody fe cdv A outer s H E hr, S, [], [], startE N.length ds, EE, rfl, Rel.start mu hf fi hv, ?_⟩
    refine W.mono _ (fun fl' k => ?_) (fun _ z => z) (hp ds _ _ q).2
    cases fl' with
    | nx e => exact fun A' σ' H' hA' r' => k .non H' r'.gr r'.fi .non
    | rt d => exact fun v H' g f _ hv => k v H' g f hv
    | bk e => exact k.elim
    | ct e => exact k.elim
end
/-! ### a def called -/
section
variable {X : Cx} {Γ : Sig} {fe : Fd} {H0 : Hp} {O : List Nat} {k : Nat} {f : Addr} {fd : FuncData} {ps : List Str} {e : Expr} {es : List Expr} {x : Str} {pp pos : Pos} {p : List D → W D} {pa : Env → W (List D)}
theorem call_reads {ta : TA} (ha : ∀ σ H Q, liA ⟨Γ, fe⟩ H0 O pa σ H Q → ta σ H Q) :
    ∀ σ H Q, liE ⟨Γ, fe⟩ H0 O (fun env => (pa env).bind p) σ H Q → ta σ H fun vs H1 => liF Γ p (vs ++ []) H1 Q fun _ _ _ => True := by
  rintro σ H Q ⟨S, A, G, env, E, hA, r, q⟩
  refine ha σ H _ ⟨S, A, G, env, E, hA, r, (pa env).mono (fun ds k vs H1 g1 r1 hv => ?_) (fun _ z => z) q⟩
  show liF Γ p (vs ++ []) H1 Q _
  rw [List.append_nil]
  refine ⟨fe, S ++ A.map (·.2), ds, E, r1.muA, r1.ffM, r1.fi, hv, fun _ _ _ _ _ _ _ _ _ => trivial, (p ds).mono (fun d k v H2 g2 f2 hv2 => ?_) (fun _ z => z) k⟩
  exact k v H2 (g1.trans g2) (r1.grow g2 f2) hv2
/-- a def by value that may be called: its name, its place -/
structure CalV (Γ : Sig) (mg : Str → Option Value) (base : Heap) (k : Nat) (x : Str) (f : Addr)
    (fd : FuncData) (ps : List Str) (p : List D → W D) : Prop where
  ok : FnOk Γ.P Γ.w Γ.K mg base CX0 k f fd ps (liF Γ p)
  g : mg x = some (.ref f)
  kp : PySem.W.keepIn Γ.K (.ref f) = true
  b : Binds Γ.K fd ps []
structure CalW (Γ : Sig) (mg : Str → Option Value) (base : Heap) (k : Nat) (x : Str) (f : Addr)
    (fd : FuncData) (ps : List Str) (p : List D → W D) : Prop where
  ok : FnG Γ.P Γ.w Γ.K mg base CX0 k f fd ps (liF Γ p)
  g : mg x = some (.ref f)
  kp : PySem.W.keepIn Γ.K (.ref f) = true
  b : Binds Γ.K fd ps []
theorem le_call {mg : Str → Option Value} {base : Heap} (C : CalV Γ mg base k x f fd ps p) (hP : X.prog = Γ.P) (hw : X.w = Γ.w) (hK : X.K = Γ.K) (hmg : X.mg = mg) (hbs : X.base = base) (hr : Room k X.A) (hg : Gl X x) (ha : LA ⟨Γ, fe⟩ H0 O X (e :: es) pa)
    (hdb : (x == ("__debug__" : Str)) = false := by decide) (he : starEach (e :: es) X.env = (false, eval e X.env) :: starEach es X.env := by rfl) (hpl : (backTo pos (starEach es X.env)).any (·.1) = false := by rfl) :
    LE ⟨Γ, fe⟩ H0 O X (.Call (.Name x pp) (e :: es) [] pos) fun env => (pa env).bind p :=
  wkE (pe_call (E := fun _ _ _ => True) (by rw [hP, hw, hK, hmg, hbs]; exact C.ok) hr hg (by rw [hmg]; exact C.g) (by rw [hK]; exact C.kp) (by rw [hK]; exact C.b) .nil pass0 ha hdb he hpl) (call_reads fun _ _ _ h => h)
end
end LP
namespace LP
open PySem PySem.Spec PyProof.Rows L2 PK
theorem OpR.or {X : Cx} {f : Value → Value → Sem Value} {r r' : R2} (h : OpR X f r) (h' : OpR X f r') : OpR X f fun x y H Q => r x y H Q ∨ r' x y H Q := by
  intro pins s σ H x y v u Q I rx ry q
  rcases q with q | q
  · exact h pins s σ H x y v u Q I rx ry q
  · exact h' pins s σ H x y v u Q I rx ry q
theorem CallR.or {X : Cx} {f : Value} {r r' : List V → Hp → VK → Prop} (h : CallR X f r) (h' : CallR X f r') : CallR X f fun xs H Q => r xs H Q ∨ r' xs H Q := by
  intro pins s σ H xs us Q I rx q
  rcases q with q | q
  · exact h pins s σ H xs us Q I rx q
  · exact h' pins s σ H xs us Q I rx q
/-! ### texts that can be -/
theorem strOk_mem {y : Str} : PyData.strOk y = true ↔ ∀ c ∈ y.cps.toList, c < 1114112 := by
  unfold PyData.strOk
  rw [Array.all_eq_true_iff_forall_mem]
  constructor
  · intro h c hc
    exact of_decide_eq_true (h c (by simpa using hc))
  · intro h c hc
    exact decide_eq_true (h c (by simpa using hc))
theorem strOk_app {x y : Str} (hx : PyData.strOk x = true) (hy : PyData.strOk y = true) : PyData.strOk (x ++ y) = true := by
  rw [strOk_mem] at hx hy ⊢
  intro c hc
  have hc : c ∈ x.cps.toList ++ y.cps.toList := by
    have : (x ++ y).cps = x.cps ++ y.cps := rfl
    rw [this] at hc
    simpa using hc
  exact (List.mem_append.mp hc).elim (hx c) (hy c)
theorem strOk_sub {x : Str} {l : List Nat} (hx : PyData.strOk x = true) (h : ∀ c ∈ l, c ∈ x.cps.toList) : PyData.strOk ⟨l.toArray⟩ = true := by
  rw [strOk_mem] at hx ⊢
  intro c hc
  exact hx c (h c (by simpa using hc))
theorem strOk_one {x : Str} {c : Nat} (hx : PyData.strOk x = true) (h : c ∈ x.cps.toList) : PyData.strOk ⟨#[c]⟩ = true := strOk_sub (l := [c]) hx fun d hd => by rw [List.mem_singleton.mp hd]; exact h
section
variable {Ξ : Ctx} {M : List Addr} {H : Hp} {v : V}
theorem Bp.intE {i : Int} (h : Bp Ξ M H v (.int i)) : v = .int i := by
  cases h with
  | rp h => cases h; rfl
theorem Bp.strE {y : Str} (h : Bp Ξ M H v (.str y)) : v = .str y ∧ PyData.strOk y = true := by
  cases h with
  | rp h => cases h; exact ⟨rfl, by assumption⟩
theorem Bp.blE {b : Bool} (h : Bp Ξ M H v (.bl b)) : v = .bl b := by
  cases h with
  | rp h => cases h; rfl
theorem Bp.nonE (h : Bp Ξ M H v .non) : v = .non := by
  cases h with
  | rp h => cases h; rfl
theorem Bp.dp {d : D} (hp : d.plain = true) (h : Bp Ξ M H v d) : Dp Ξ.K H v d.toP := h.full.dp hp
theorem Bp.lay {d : D} (hp : d.plain = true) (h : Bp Ξ M H v d) : d.toP.canLay0 = true := h.full.lay hp
end
/-! ### sums -/
def addW : D → D → W D
  | .int i, .int j => W.ret (.int (i + j))
  | .bl b, .int j => W.ret (.int (b2i b + j))
  | .str a, .str b => (W.want (a.length + b.length ≤ sizeLine)).bind fun _ => W.ret (.str (a ++ b))
  | .tup a, .tup b => (W.want (a.length + b.length ≤ sizeLine)).bind fun _ => W.ret (.tup (a ++ b))
  | .lst a, .lst b => (W.want (a.length + b.length ≤ sizeLine)).bind fun _ => W.ret (.lst (a ++ b))
  | _, _ => W.fail
section
variable {Ξ : Ctx} {H : Hp} {M : List Addr} {d : D}
theorem at_int (i : Int) {Q : VK} (q : ∀ v H', Same H H' → Rp Ξ (ms M H') v (.int i) → Q v H') : Q (.int i) H := q _ H (Same.refl H) (.int i)
theorem at_bl (b : Bool) {Q : VK} (q : ∀ v H', Same H H' → Rp Ξ (ms M H') v (.bl b) → Q v H') : Q (.bl b) H := q _ H (Same.refl H) (.bl b)
theorem at_new {xs : List V} {ds : List D} {p : Addr} {Q : VK} (mu : Mu M H) (hx : RpAll Ξ (ms M H) xs ds) (np : H p = none) (q : ∀ v H', Same H H' → Rp Ξ (ms M H') v (.lst ds) → Q v H') : Q (.ref p) (upd H p (.lst xs)) := by
  have s : Same H (upd H p (.lst xs)) := same_new (Same.refl H) np
  have sm : Same (ms M H) (ms M (upd H p (.lst xs))) := fun b o e => by
    obtain ⟨h1, h2⟩ := ms_some e
    exact ms_at (s _ _ h1) h2
  exact q _ _ s (.lst (ms_at upd_same (mu.out np)) (hx.same sm))
theorem at_newT {xs : List V} {ds : List D} {p : Addr} {Q : VK} (mu : Mu M H) (hx : RpAll Ξ (ms M H) xs ds) (np : H p = none) (q : ∀ v H', Same H H' → Rp Ξ (ms M H') v (.tup ds) → Q v H') : Q (.ref p) (upd H p (.tup xs)) := by
  have s : Same H (upd H p (.tup xs)) := same_new (Same.refl H) np
  have sm : Same (ms M H) (ms M (upd H p (.tup xs))) := fun b o e => by
    obtain ⟨h1, h2⟩ := ms_some e
    exact ms_at (s _ _ h1) h2
  exact q _ _ s (.tup (SqT.of (ms_at upd_same (mu.out np))) (hx.same sm))
theorem same_ms {H H' : Hp} (s : Same H H') : Same (ms M H) (ms M H') := fun b o e => by
  obtain ⟨h1, h2⟩ := ms_some e
  exact ms_at (s _ _ h1) h2
theorem at_tup {xs : List V} {ds : List D} {c : Addr} {H' : Hp} {Q : VK} (mu : Mu M H) (s : Same H H') (hc : SqT Ξ.K H' c xs) (hx : RpAll Ξ (ms M H) xs ds) (q : ∀ v H', Same H H' → Rp Ξ (ms M H') v (.tup ds) → Q v H') : Q (.ref c) H' :=
  q _ _ s (.tup (sqT_mu hc (mu.same s)) (hx.same (same_ms s)))
end
section
variable {X : Cx} {Ξ : Ctx} {H0 : Hp} {O : List Nat} {a b e : Expr} {pos : Pos} {pa pb : Env → W D}
def rAdd (K : PySem.W.Frag) : R2 := fun x y H Q => (((∃ i j, asI x = some i ∧ y = .int j ∧ Q (.int (i + j)) H) ∨ (∃ i j, x = .str i ∧ y = .str j ∧ i.length + j.length ≤ sizeLine ∧ Q (.str (i ++ j)) H)) ∨ rCatB K x y H Q) ∨ rCat x y H Q
theorem add_ok : OpOk Ξ (rAdd Ξ.K) addW := by
  intro M H x y d1 d2 Q E mu hf h1 h2 q
  cases d1 <;> cases d2 <;> try exact q.elim
  · rw [h1.blE, h2.intE]
    exact .inl (.inl (.inl ⟨_, _, rfl, rfl, at_int _ q⟩))
  · rw [h1.intE, h2.intE]
    exact .inl (.inl (.inl ⟨_, _, rfl, rfl, at_int _ q⟩))
  · obtain ⟨rfl, o1⟩ := h1.strE
    obtain ⟨rfl, o2⟩ := h2.strE
    exact .inl (.inl (.inr ⟨_, _, rfl, rfl, q.1, q.2 _ H (Same.refl H) (.str _ (strOk_app o1 o2))⟩))
  · obtain ⟨b1, xs, rfl, t1, a1⟩ := h1.tupE
    obtain ⟨b2, ys, rfl, t2, a2⟩ := h2.tupE
    exact .inl (.inr ⟨b1, b2, xs, ys, rfl, rfl, t1, t2, by rw [a1.len, a2.len]; exact q.1, fun c H' s hc => at_tup mu s hc (a1.app a2) q.2⟩)
  · obtain ⟨b1, xs, rfl, t1, a1⟩ := h1.lstE
    obtain ⟨b2, ys, rfl, t2, a2⟩ := h2.lstE
    exact .inr ⟨b1, b2, xs, ys, rfl, rfl, t1, t2, by rw [a1.len, a2.len]; exact q.1, fun p np => at_new mu (a1.app a2) np q.2⟩
theorem le_add (hK : X.K = Ξ.K) (ha : LB Ξ H0 O X a pa) (hb : LB Ξ H0 O X b pb) : LE Ξ H0 O X (.BinOp a .Add b pos) fun env => (pa env).bind fun x => (pb env).bind fun y => addW x y :=
  le_op (((op_addW.or op_add_str).or (ko_catB Ξ.K hK)).or op_cat) add_ok ha hb
def subW : D → D → W D
  | .int i, .int j => W.ret (.int (i - j))
  | .bl b, .int j => W.ret (.int (b2i b - j))
  | _, _ => W.fail
theorem sub_ok : OpOk Ξ (fun x y H Q => ∃ i j, asI x = some i ∧ y = .int j ∧ Q (.int (i - j)) H) subW := by
  intro M H x y d1 d2 Q E mu hf h1 h2 q
  cases d1 <;> cases d2 <;> try exact q.elim
  · rw [h1.blE, h2.intE]
    exact ⟨_, _, rfl, rfl, at_int _ q⟩
  · rw [h1.intE, h2.intE]
    exact ⟨_, _, rfl, rfl, at_int _ q⟩
theorem le_sub (ha : LB Ξ H0 O X a pa) (hb : LB Ξ H0 O X b pb) : LE Ξ H0 O X (.BinOp a .Sub b pos) fun env => (pa env).bind fun x => (pb env).bind fun y => subW x y := le_op op_subW sub_ok ha hb
def mulW : D → D → W D
  | .int i, .int j => (W.want (CMul i j)).bind fun _ => W.ret (.int (i * j))
  | .tup a, .int k => (W.want (a ≠ [] ∧ 0 ≤ k ∧ k ≤ 1000 ∧ a.length ≤ 1000)).bind fun _ => W.ret (.tup (List.replicate k.toNat a).flatten)
  | .lst a, .int k => (W.want (0 ≤ k ∧ k ≤ 1000 ∧ a.length ≤ 1000)).bind fun _ => W.ret (.lst (List.replicate k.toNat a).flatten)
  | _, _ => W.fail
def intOp (C : Int → Int → Prop) (g : Int → Int → D) : D → D → W D
  | .int i, .int j => (W.want (C i j)).bind fun _ => W.ret (g i j)
  | _, _ => W.fail
theorem intOp_ok {C : Int → Int → Prop} {g : Int → Int → Int} : OpOk Ξ (rI C fun i j => .int (g i j)) (intOp C fun i j => .int (g i j)) := by
  intro M H x y d1 d2 Q E mu hf h1 h2 q
  cases d1 <;> cases d2 <;> try exact q.elim
  rw [h1.intE, h2.intE]
  exact ⟨_, _, rfl, rfl, q.1, at_int _ q.2⟩
def modW : D → D → W D := intOp (fun _ j => 0 < j) fun i j => .int (i % j)
def fdivW : D → D → W D := intOp CDiv fun i j => .int (i / j)
def powW : D → D → W D := intOp CPow fun i j => .int (i ^ j.toNat)
theorem le_mod (ha : LB Ξ H0 O X a pa) (hb : LB Ξ H0 O X b pb) : LE Ξ H0 O X (.BinOp a .Mod b pos) fun env => (pa env).bind fun x => (pb env).bind fun y => modW x y := le_op op_mod intOp_ok ha hb
theorem le_pow (ha : LB Ξ H0 O X a pa) (hb : LB Ξ H0 O X b pb) : LE Ξ H0 O X (.BinOp a .Pow b pos) fun env => (pa env).bind fun x => (pb env).bind fun y => powW x y := le_op op_pow intOp_ok ha hb
def negW : D → W D
  | .int i => W.ret (.int (-i))
  | _ => W.fail
theorem le_neg (ha : LE Ξ H0 O X a pa) : LE Ξ H0 O X (.UnaryOp .USub a pos) fun env => (pa env).bind negW :=
  wkE (pe_un un_neg ha) fun σ H Q ⟨S, A, G, env, E, hA, r, z⟩ => ⟨S, A, G, env, E, hA, r, (pa env).mono (fun d u v H' g r' hv => by
    cases d <;> try exact u.elim
    cases hv
    exact ⟨_, rfl, u _ H' g r' (.int _)⟩) (fun _ z => z) z⟩
/-! ### comparisons -/
def D.eqv (a b : D) : Bool := PyData.eqv a.toP b.toP
/-- data, not too deep -/
def D.sh (d : D) : Prop := d.plain = true ∧ d.toP.depth ≤ 64
def eqW : D → D → W D
  | .txt s, .txt t => W.ret (.bl (decide (s = t)))
  | a, b => (W.want (D.sh a ∧ D.sh b)).bind fun _ => W.ret (.bl (D.eqv a b))
def neW : D → D → W D
  | .txt s, .txt t => W.ret (.bl (!decide (s = t)))
  | a, b => (W.want (D.sh a ∧ D.sh b)).bind fun _ => W.ret (.bl (!D.eqv a b))
theorem Bp.txtE {M : List Addr} {H : Hp} {v : V} {s : Str} (h : Bp Ξ M H v (.txt s)) : v = .str s := by
  cases h with
  | rp h => cases h; rfl
theorem str_dec (s t : Str) : decide (V.str s = V.str t) = decide (s = t) := decide_eq_decide.mpr ⟨fun h => V.str.inj h, fun h => congrArg _ h⟩
theorem eqW_cases {a b : D} {Q : D → Prop} {E : Ex → Prop} (h : (eqW a b).wp Q E) : (∃ s t, a = .txt s ∧ b = .txt t ∧ Q (.bl (decide (s = t)))) ∨ (D.sh a ∧ D.sh b) ∧ Q (.bl (D.eqv a b)) := by
  unfold eqW at h
  split at h
  · exact .inl ⟨_, _, rfl, rfl, h⟩
  · exact .inr h
theorem neW_cases {a b : D} {Q : D → Prop} {E : Ex → Prop} (h : (neW a b).wp Q E) : (∃ s t, a = .txt s ∧ b = .txt t ∧ Q (.bl (!decide (s = t)))) ∨ (D.sh a ∧ D.sh b) ∧ Q (.bl (!D.eqv a b)) := by
  unfold neW at h
  split at h
  · exact .inl ⟨_, _, rfl, rfl, h⟩
  · exact .inr h
theorem Bp.shaped {M : List Addr} {H : Hp} {v : V} {d : D} (h : Bp Ξ M H v d) (s : D.sh d) : SeqAt.shaped d.toP = true := by
  unfold SeqAt.shaped
  rw [h.lay s.1, decide_eq_true s.2]
  rfl
theorem eq_ok : OpOk Ξ (fun x y H Q => rEq x y H Q ∨ rEqD Ξ.K x y H Q) eqW := by
  intro M H x y d1 d2 Q E mu hf h1 h2 q
  rcases eqW_cases q with ⟨s, t, rfl, rfl, q⟩ | ⟨⟨s1, s2⟩, q⟩
  · rw [h1.txtE, h2.txtE]
    exact .inl ⟨rfl, by rw [str_dec]; exact at_bl _ q⟩
  · exact .inr ⟨_, _, h1.dp s1.1, h2.dp s2.1, h1.shaped s1, h2.shaped s2, at_bl _ q⟩
theorem ne_ok : OpOk Ξ (fun x y H Q => rNe x y H Q ∨ rNeD Ξ.K x y H Q) neW := by
  intro M H x y d1 d2 Q E mu hf h1 h2 q
  rcases neW_cases q with ⟨s, t, rfl, rfl, q⟩ | ⟨⟨s1, s2⟩, q⟩
  · rw [h1.txtE, h2.txtE]
    exact .inl ⟨rfl, by rw [str_dec]; exact at_bl _ q⟩
  · exact .inr ⟨_, _, h1.dp s1.1, h2.dp s2.1, h1.shaped s1, h2.shaped s2, at_bl _ q⟩
theorem le_eq {k : Nat} (hr : Room k X.A) (hK : X.K = Ξ.K) (ha : LB Ξ H0 O X a pa) (hb : LB Ξ H0 O X b pb) : LE Ξ H0 O X (.Compare a [.Eq] [b] pos) fun env => (pa env).bind fun x => (pb env).bind fun y => eqW x y := le_cmp (op_eq.or (ko_eqD Ξ.K hr hK)) eq_ok (nomark _) ha hb
/-- an order of numbers and of texts -/
def ordW (g : Int → Int → Bool) (h : Str → Str → Bool) : D → D → W D
  | .int i, .int j => W.ret (.bl (g i j))
  | .str a, .str b => W.ret (.bl (h a b))
  | _, _ => W.fail
theorem ord_ok {g : Int → Int → Bool} {h : Str → Str → Bool} : OpOk Ξ (fun x y H Q => rI0 (fun i j => .bl (g i j)) x y H Q ∨ ∃ i j, x = .str i ∧ y = .str j ∧ Q (.bl (h i j)) H) (ordW g h) := by
  intro M H x y d1 d2 Q E mu hf h1 h2 q
  cases d1 <;> cases d2 <;> try exact q.elim
  · rw [h1.intE, h2.intE]
    exact .inl ⟨_, _, rfl, rfl, at_bl _ q⟩
  · rw [h1.strE.1, h2.strE.1]
    exact .inr ⟨_, _, rfl, rfl, at_bl _ q⟩
def slt (a b : Str) : Bool := decide (a.cps.toList < b.cps.toList)
def ltW : D → D → W D := ordW (fun i j => decide (i < j)) fun a b => slt a b
def leW : D → D → W D := ordW (fun i j => decide (i ≤ j)) fun a b => !slt b a
def gtW : D → D → W D := ordW (fun i j => decide (j < i)) fun a b => slt b a
def geW : D → D → W D := ordW (fun i j => decide (j ≤ i)) fun a b => !slt a b
def isNone : D → Bool
  | .non => true
  | _ => false
def isW (a b : D) : W D := match b with
  | .non => W.ret (.bl (isNone a))
  | _ => W.fail
def isntW (a b : D) : W D := match b with
  | .non => W.ret (.bl (!isNone a))
  | _ => W.fail
end
end LP
/-! Heaps by their counts: together, less, what lacks. -/
namespace PK
open PySem PySem.Spec PyProof.Rows L2
/-- rows of a heap: rising, each part once -/
structure Up (n : Nat) (L : List PRow) : Prop where
  ok : ∃ b : Int, RowsOk n b L
  up : Rises (L.map fun r => pkD (pk r))
theorem Up.mono {n m : Nat} {L : List PRow} (h : Up n L) (hm : n ≤ m) : Up m L := by
  obtain ⟨b, ok⟩ := h.ok
  exact ⟨⟨b, ok.mono hm (Int.le_refl _)⟩, h.up⟩
theorem Up.len {n : Nat} {L : List PRow} (h : Up n L) : L.length ≤ n := by
  obtain ⟨b, ok⟩ := h.ok
  exact ok.len
theorem Up.two {n : Nat} {L M : List PRow} (h : Up n L) (g : Up n M) : ∃ b : Int, RowsOk n b L ∧ RowsOk n b M := by
  obtain ⟨b, ok⟩ := h.ok
  obtain ⟨c, oc⟩ := g.ok
  refine ⟨max b c, ok.mono (Nat.le_refl _) (Int.le_max_left _ _), oc.mono (Nat.le_refl _) (Int.le_max_right _ _)⟩
theorem Up.nn {n : Nat} {L : List PRow} (h : Up n L) (k : PKey) : 0 ≤ cnt L k := by
  obtain ⟨b, ok⟩ := h.ok
  exact cnt_nn ok k
theorem Up.nodup {n : Nat} {L : List PRow} (h : Up n L) : (L.map pk).Nodup := by
  have z := h.up
  unfold Rises at z
  rw [List.pairwise_map] at z
  unfold List.Nodup
  rw [List.pairwise_map]
  refine z.imp fun {a b} y e => ?_
  rw [e, dlt_irr] at y
  cases y
/-- counts make the heap -/
theorem Up.ext {n m : Nat} {L M : List PRow} (h : Up n L) (g : Up m M) (e : ∀ k, cnt L k = cnt M k) : L = M := by
  obtain ⟨b, ok⟩ := h.ok
  obtain ⟨c, oc⟩ := g.ok
  rw [← sumR_id h.up, ← sumR_id g.up]
  exact sumR_eq ok oc e
theorem Up.sum {n : Nat} {b : Int} {L : List PRow} (h : RowsOk n b L) (hb : 0 ≤ b) : Up n (sumR L) := ⟨⟨_, sumR_ok hb h⟩, sumR_rises L⟩
theorem Up.nil : Up 0 [] := ⟨⟨0, Nat.le_refl _, fun _ h => (nomatch h)⟩, List.Pairwise.nil⟩
theorem Up.one {f s : Str} (hf : Word f) (hs : Word s) : Up 1 [(f, s, 1)] := by
  refine ⟨⟨1, Nat.le_refl _, fun r hr => ?_⟩, List.pairwise_singleton _ _⟩
  rw [List.mem_singleton.mp hr]
  exact ⟨hf, hs, Int.le_refl _, Int.le_refl _⟩
theorem Up.app {n m : Nat} {L M : List PRow} (h : Up n L) (g : Up m M) : ∃ b : Int, 0 ≤ b ∧ RowsOk (n + m) b (L ++ M) := by
  obtain ⟨b, ok⟩ := h.ok
  obtain ⟨c, oc⟩ := g.ok
  refine ⟨max 0 (max b c), Int.le_max_left _ _, ?_, fun r hr => ?_⟩
  · rw [List.length_append]
    have := ok.len
    have := oc.len
    omega
  · rcases List.mem_append.mp hr with z | z
    · exact (ok.each r z).mono (by omega)
    · exact (oc.each r z).mono (by omega)
theorem Up.plus {n m : Nat} {L M : List PRow} (h : Up n L) (g : Up m M) : Up (n + m) (sumR (L ++ M)) := by
  obtain ⟨b, hb, ok⟩ := h.app g
  exact Up.sum ok hb
theorem Up.above {n m : Nat} {L M : List PRow} (h : Up n L) (g : Up m M) : Up n (aboveR L M) := by
  obtain ⟨b, ok⟩ := h.ok
  obtain ⟨c, oc⟩ := g.ok
  exact ⟨⟨b, aboveR_ok ok oc⟩, rises_above h.up⟩
/-! ### what lacks -/
end PK
namespace PK
open PySem PySem.Spec PyProof.Rows L2
end PK
/-! Short readings of heaps' methods. -/
namespace PK
open PySem PySem.Spec PyProof.Rows L2
section
variable {K : PySem.W.Frag} {C p q : Addr} {H : Hp} {L M : List PRow}
end
end PK
namespace LP
open PySem PySem.Spec PyProof.Rows L2 PK
def optW {α : Type} : Option α → W α
  | some x => W.ret x
  | none => W.fail
theorem optW_wp {α : Type} {o : Option α} {Q : α → Prop} {E : Ex → Prop} (h : (optW o).wp Q E) : ∃ x, o = some x ∧ Q x := by
  cases o with
  | none => exact h.elim
  | some x => exact ⟨x, rfl, h⟩
section
variable {X : Cx} {Ξ : Ctx} {H0 : Hp} {O : List Nat} {a b c e : Expr} {es : List Expr} {pos : Pos} {pa pb pc : Env → W D} {ps : Env → W (List D)}
/-! ### is None -/
/-! ### a < b < c -/
/-! ### x in xs -/
/-! ### xs[i] -/
def ixW : D → D → W D
  | .lst l, .int i => optW (atI l i)
  | .tup l, .int i => optW (atI l i)
  | .str z, .int i => (W.want (z.length ≤ sizeLine)).bind fun _ => (optW (atI z.cps.toList i)).bind fun c => W.ret (.str ⟨#[c]⟩)
  | _, _ => W.fail
theorem RpAll.atI {H : Hp} {xs : List V} {ds : List D} {i : Int} {d : D} (h : RpAll Ξ H xs ds) (e : atI ds i = some d) : ∃ v, atI xs i = some v ∧ Rp Ξ H v d := by
  unfold L2.atI at e ⊢
  rw [h.len]
  obtain ⟨j, h1, h2⟩ := Option.bind_eq_some_iff.mp e
  obtain ⟨v, h3, h4⟩ := h.get h2
  exact ⟨v, by rw [h1]; exact h3, h4⟩
theorem atI_mem {α : Type} {l : List α} {i : Int} {x : α} (h : atI l i = some x) : x ∈ l := by
  unfold L2.atI at h
  obtain ⟨j, _, h2⟩ := Option.bind_eq_some_iff.mp h
  exact List.mem_of_getElem? h2
theorem ix_ok : OpOk Ξ (rIx Ξ.K) ixW := by
  intro M H x y d1 d2 Q E mu hf h1 h2 q
  cases d1 <;> cases d2 <;> try exact q.elim
  · obtain ⟨rfl, o1⟩ := h1.strE
    rw [h2.intE]
    obtain ⟨l, q⟩ := q
    obtain ⟨c, hc, q⟩ := optW_wp q
    exact .inr (.inr ⟨_, _, c, rfl, rfl, l, hc, q _ H (Same.refl H) (.str _ (strOk_one o1 (atI_mem hc)))⟩)
  · obtain ⟨b1, xs, rfl, t1, a1⟩ := h1.tupE
    rw [h2.intE]
    obtain ⟨d, hd, q⟩ := optW_wp q
    obtain ⟨v, h3, h4⟩ := a1.atI hd
    exact .inr (.inl ⟨b1, xs, _, v, rfl, rfl, t1, h3, q _ H (Same.refl H) h4⟩)
  · obtain ⟨b1, xs, rfl, t1, a1⟩ := h1.lstE
    rw [h2.intE]
    obtain ⟨d, hd, q⟩ := optW_wp q
    obtain ⟨v, h3, h4⟩ := a1.atI hd
    exact .inl ⟨b1, xs, _, v, rfl, rfl, SqL.of t1, h3, q _ H (Same.refl H) h4⟩
theorem le_item (hK : X.K = Ξ.K) (hs : PlainIx b) (ha : LB Ξ H0 O X a pa) (hb : LB Ξ H0 O X b pb) : LE Ξ H0 O X (.Subscript a b pos) fun env => (pa env).bind fun x => (pb env).bind fun y => ixW x y :=
  le_ix (by rw [← hK]; exact ix_seq) ix_ok hs ha hb
/-! ### xs[a:b] -/
def cutD {α : Type} (xs : List α) (lo hi : Option Int) : List α := (xs.drop (HT.sIx xs.length 0 lo)).take (HT.sIx xs.length xs.length hi - HT.sIx xs.length 0 lo)
def slW (d : D) (lo hi : Option Int) : W D := match d with
  | .tup l => W.ret (.tup (cutD l lo hi))
  | .lst l => W.ret (.lst (cutD l lo hi))
  | .str z => (W.want (z.length ≤ sizeLine)).bind fun _ => W.ret (.str (cutS z lo hi))
  | _ => W.fail
theorem RpAll.cut {H : Hp} {xs : List V} {ds : List D} (h : RpAll Ξ H xs ds) (lo hi : Option Int) : RpAll Ξ H (cutV xs lo hi) (cutD ds lo hi) := by
  unfold cutV cutD
  rw [h.len]
  exact (h.drop _).take _
def SlOk (Ξ : Ctx) (r : V → Option Int → Option Int → Hp → VK → Prop) (f : D → Option Int → Option Int → W D) : Prop := ∀ (M : List Addr) (H : Hp) (x : V) (d : D) (lo hi : Option Int) (Q : VK) (E : Ex → Prop), Mu M H →
  Bp Ξ M H x d → (f d lo hi).wp (fun d => ∀ v H', Same H H' → Rp Ξ (ms M H') v d → Q v H') E → r x lo hi H Q
theorem sl_ok : SlOk Ξ (fun x lo hi H Q => (rSlB Ξ.K x lo hi H Q ∨ rSlL Ξ.K x lo hi H Q) ∨ rSlS x lo hi H Q) slW := by
  intro M H x d lo hi Q E mu h q
  cases d <;> try exact q.elim
  · obtain ⟨rfl, o1⟩ := h.strE
    refine .inr ⟨_, rfl, q.1, q.2 _ H (Same.refl H) (.str _ (strOk_sub o1 fun c hc => List.mem_of_mem_drop (List.mem_of_mem_take hc)))⟩
  · obtain ⟨b1, xs, rfl, t1, a1⟩ := h.tupE
    exact .inl (.inl ⟨b1, xs, rfl, t1, fun c H' s hc => at_tup mu s hc (a1.cut lo hi) q⟩)
  · obtain ⟨b1, xs, rfl, t1, a1⟩ := h.lstE
    exact .inl (.inr ⟨b1, xs, rfl, SqL.of t1, fun p np => at_new mu (a1.cut lo hi) np q⟩)
def liO (Ξ : Ctx) (H0 : Hp) (O : List Nat) (p : Env → W (Option Int)) : TO := fun σ H Q => ∃ S A G env E, A.map (·.1) = O ∧ Rel Ξ H0 S A G σ H env ∧
  (p env).wp (fun o => ∀ H', Gr Ξ H H' → Rel Ξ H0 S A G σ H' env → Q o H') E
theorem wkO {o : Option Expr} {t t' : TO} (h : PO X o t) (w : ∀ σ H Q, t' σ H Q → t σ H Q) : PO X o t' := ⟨fun pins s σ H Q I q => h.run pins s σ H Q I (w σ H Q q)⟩
def partW : D → W (Option Int)
  | .int i => W.ret (some i)
  | _ => W.fail
abbrev LO (Ξ : Ctx) (H0 : Hp) (O : List Nat) (X : Cx) (o : Option Expr) (p : Env → W (Option Int)) : Prop := PO X o (liO Ξ H0 O p)
theorem lo_none : LO Ξ H0 O X none fun _ => W.ret none := wkO po_none fun σ H Q ⟨S, A, G, env, E, hA, r, q⟩ => q H (Gr.refl H) r
theorem lo_some (h : LE Ξ H0 O X e pa) : LO Ξ H0 O X (some e) fun env => (pa env).bind partW := wkO (po_some h) fun σ H Q ⟨S, A, G, env, E, hA, r, q⟩ =>
  ⟨S, A, G, env, E, hA, r, (pa env).mono (fun d k v H' g r' hv => by
    cases d <;> try exact k.elim
    cases hv
    exact ⟨_, rfl, k H' g r'⟩) (fun _ z => z) q⟩
theorem le_slice {lo hi : Option Expr} {pl ph : Env → W (Option Int)} {p2 : Pos} (hK : X.K = Ξ.K) (h : LB Ξ H0 O X e pa) (hl : LO Ξ H0 O X lo pl) (hh : LO Ξ H0 O X hi ph) :
    LE Ξ H0 O X (.Subscript e (.Slice lo hi none p2) pos) fun env => (pa env).bind fun d => (pl env).bind fun l => (ph env).bind fun u => slW d l u := by
  refine wkE (pe_slice (((ks_tupB Ξ.K hK).or (ks_list Ξ.K hK)).or sl_str) h hl hh) fun σ H Q ⟨S, A, G, env, E, hA, r, q⟩ => ?_
  refine ⟨S, A, G, env, E, hA, r, (pa env).mono (fun d k x H1 g1 r1 b1 => ?_) (fun _ z => z) q⟩
  refine ⟨S, A, G, env, E, hA, r1, (pl env).mono (fun l k H2 g2 r2 => ?_) (fun _ z => z) k⟩
  refine ⟨S, A, G, env, E, hA, r2, (ph env).mono (fun u k H3 g3 r3 => ?_) (fun _ z => z) k⟩
  refine sl_ok _ H3 x d l u Q E r3.muA (b1.gr (g2.trans g3) r1.ffM) ((slW d l u).mono (fun d k v H4 s4 rv => ?_) (fun _ z => z) k)
  exact k v H4 (((g1.trans g2).trans g3).trans (Gr.of s4)) (r3.same s4) rv
def revTW : D → W D
  | .tup l => W.ret (.tup l.reverse)
  | _ => W.fail
def revLW : D → W D
  | .lst l => W.ret (.lst l.reverse)
  | _ => W.fail
/-! ### built-in calls -/
theorem le_callB {id : String} {x : Str} {r : List V → Hp → VK → Prop} {f : List D → W D} {p pos : Pos} (hc : CallR X (.builtin id) r) (hf : CallOk Ξ r f) (hg : Gl X x) (hm : X.mg x = none) (hv : bootBuiltins x = some (.builtin id)) (ha : LAB Ξ H0 O X (e :: es) ps) (hn : x ≠ "__name__" := by decide) (hdb : (x == ("__debug__" : Str)) = false := by decide)
    (he : starEach (e :: es) X.env = (false, eval e X.env) :: starEach es X.env := by rfl) (hpl : (backTo pos (starEach es X.env)).any (·.1) = false := by rfl) :
    LE Ξ H0 O X (.Call (.Name x p) (e :: es) [] pos) fun env => (ps env).bind f := wkE (pe_callB hc hg hm hv ha hn hdb he hpl) (le_args hf)
theorem le_callTy {T : String} {x : Str} {r : List V → Hp → VK → Prop} {f : List D → W D} {p pos : Pos} (hc : CallR X (.type T) r) (hf : CallOk Ξ r f) (hg : Gl X x) (hm : X.mg x = none) (hv : bootBuiltins x = some (.type T)) (ha : LAB Ξ H0 O X (e :: es) ps) (hn : x ≠ "__name__" := by decide) (hdb : (x == ("__debug__" : Str)) = false := by decide)
    (he : starEach (e :: es) X.env = (false, eval e X.env) :: starEach es X.env := by rfl) (hpl : (backTo pos (starEach es X.env)).any (·.1) = false := by rfl) :
    LE Ξ H0 O X (.Call (.Name x p) (e :: es) [] pos) fun env => (ps env).bind f := wkE (pe_callTy hc hg hm hv ha hn hdb he hpl) (le_args hf)
def lenW : List D → W D
  | [.lst l] => W.ret (.int l.length)
  | [.tup l] => W.ret (.int l.length)
  | [.str s] => (W.want (s.length ≤ sizeLine)).bind fun _ => W.ret (.int s.length)
  | _ => W.fail
theorem len_ok : CallOk Ξ (fun xs H Q => rLenOf Ξ.K xs H Q ∨ ∃ z, xs = [.str z] ∧ z.length ≤ sizeLine ∧ Q (.int z.length) H) lenW := by
  intro M H xs ds Q E mu hf h q
  match ds, h, q with
  | [.lst l], .cons h .nil, q =>
    obtain ⟨b, ys, rfl, t, a⟩ := h.lstE
    exact .inl ⟨b, ys, rfl, .inl (SqL.of t), by rw [a.len]; exact at_int _ q⟩
  | [.tup l], .cons h .nil, q =>
    obtain ⟨b, ys, rfl, t, a⟩ := h.tupE
    exact .inl ⟨b, ys, rfl, .inr t, by rw [a.len]; exact at_int _ q⟩
  | [.str s], .cons h .nil, q =>
    obtain ⟨rfl, _⟩ := h.strE
    exact .inr ⟨s, rfl, q.1, at_int _ q.2⟩
theorem le_len {p pos : Pos} (hK : X.K = Ξ.K) (hg : Gl X "len") (hm : X.mg "len" = none) (ha : LAB Ξ H0 O X [e] ps) (he : starEach [e] X.env = [(false, eval e X.env)] := by rfl) : LE Ξ H0 O X (.Call (.Name "len" p) [e] [] pos) fun env => (ps env).bind lenW :=
  le_callB ((k_len Ξ.K hK).or call_len_str) len_ok hg hm PySem.boot_len ha (by decide) (by decide) he rfl
def tupleW : List D → W D
  | [.lst l] => W.ret (.tup l)
  | [.tup l] => W.ret (.tup l)
  | _ => W.fail
theorem tuple_ok : CallOk Ξ (rTupOf Ξ.K) tupleW := by
  intro M H xs ds Q E mu hf h q
  match ds, h, q with
  | [.lst l], .cons h .nil, q =>
    obtain ⟨b, ys, rfl, t, a⟩ := h.lstE
    exact ⟨b, ys, rfl, .inl ⟨SqL.of t, fun p np => at_newT mu a np q⟩⟩
  | [.tup l], .cons h .nil, q =>
    obtain ⟨b, ys, rfl, t, a⟩ := h.tupE
    exact ⟨b, ys, rfl, .inr ⟨t, at_tup mu (Same.refl H) t a q⟩⟩
theorem le_tuple {p pos : Pos} (hK : X.K = Ξ.K) (hg : Gl X "tuple") (hm : X.mg "tuple" = none) (ha : LAB Ξ H0 O X [e] ps) (he : starEach [e] X.env = [(false, eval e X.env)] := by rfl) : LE Ξ H0 O X (.Call (.Name "tuple" p) [e] [] pos) fun env => (ps env).bind tupleW :=
  le_callTy (k_tup Ξ.K hK) tuple_ok hg hm (by decide +kernel) ha (by decide) (by decide) he rfl
def listW : List D → W D
  | [.lst l] => W.ret (.lst l)
  | [.tup l] => W.ret (.lst l)
  | _ => W.fail
def isOf : List D → Option (List Int)
  | [] => some []
  | .int b :: l => (isOf l).map (b :: ·)
  | _ => none
theorem isOf_eq : ∀ {l : List D} {bs : List Int}, isOf l = some bs → l = bs.map D.int
  | [], _, h => by cases h; rfl
  | .int b :: l, _, h => by
    obtain ⟨cs, h1, rfl⟩ := Option.map_eq_some_iff.mp h
    rw [isOf_eq h1]
    rfl
theorem isOf_map (bs : List Int) : isOf (bs.map D.int) = some bs := by
  induction bs with
  | nil => rfl
  | cons b bs ih => show (isOf (bs.map D.int)).map (b :: ·) = _; rw [ih]; rfl
def sumW : List D → W D
  | [.lst l] => (optW (isOf l)).bind fun ns => W.ret (.int ns.sum)
  | _ => W.fail
theorem sum_ok : CallOk Ξ (rSum Ξ.K) sumW := by
  intro M H xs ds Q E mu hf h q
  match ds, h, q with
  | [.lst l], .cons h .nil, q =>
    obtain ⟨bs, e, q⟩ := optW_wp q
    rw [isOf_eq e] at h
    obtain ⟨b, ys, rfl, t, a⟩ := h.lstE
    rw [a.of_ints] at t
    exact ⟨b, bs, rfl, SqL.of t, at_int _ q⟩
theorem le_sum {p pos : Pos} (hc : X.calm = true) (hK : X.K = Ξ.K) (hg : Gl X "sum") (hm : X.mg "sum" = none) (ha : LAB Ξ H0 O X [e] ps) (he : starEach [e] X.env = [(false, eval e X.env)] := by rfl) : LE Ξ H0 O X (.Call (.Name "sum" p) [e] [] pos) fun env => (ps env).bind sumW :=
  le_callB (k_sum Ξ.K hc hK) sum_ok hg hm (by decide +kernel) ha (by decide) (by decide) he rfl
/-! ### isinstance, of data -/
def tyOf : D → Option String
  | .non => some "NoneType"
  | .bl _ => some "bool"
  | .int _ => some "int"
  | .str _ => some "str"
  | .tup _ => some "tuple"
  | .lst _ => some "list"
  | _ => none
theorem Bp.ty {M : List Addr} {H : Hp} {v : V} {d : D} {t : String} (h : Bp Ξ M H v d) (e : tyOf d = some t) : TyX Ξ.K H v (.type t) := by
  cases d <;> cases e
  · rw [h.nonE]; exact .base .non
  · rw [h.blE]; exact .base (.bl _)
  · rw [h.intE]; exact .base (.int _)
  · rw [h.strE.1]; exact .base (.str _)
  · obtain ⟨b, xs, rfl, t, _⟩ := h.tupE
    rcases t with (h | ⟨o, h⟩) | ⟨o, its, n, hk, hc, _⟩
    · exact .base (.tup h)
    · exact .fTuple h
    · exact .kTuple hk hc
  · obtain ⟨b, xs, rfl, t, _⟩ := h.lstE
    exact .base (.lst t)
/-- isinstance(e, T) -/
def isiW (T : String) (d : D) : W D := match tyOf d with
  | some t => W.ret (.bl (t == T || (t == "bool" && T == "int")))
  | none => W.fail
end
end LP
namespace LP
open PySem PySem.Spec PyProof.Rows L2 PK RZ
section
variable {X : Cx} {Ξ : Ctx} {H0 : Hp} {O O' Ob : List Nat} {a b c e : Expr} {es : List Expr} {pos : Pos} {pa pb pc : Env → W D} {ps : Env → W (List D)}
/-! ### comprehensions -/
abbrev LTs (Ξ : Ctx) (H0 : Hp) (O : List Nat) (X : Cx) (ifs : List Expr) (p : Env → W Bool) : Prop := PTs X ifs (liT Ξ H0 O p)
theorem lts_nil : LTs Ξ H0 O X [] fun _ => W.ret true := ⟨fun pins s σ H Q I h => pts_nil.run pins s σ H Q I (by
  obtain ⟨S, A, G, env, E, hA, r, q⟩ := h
  exact q H (Gr.refl H) r)⟩
theorem lts_one {p : Env → W Bool} (h : LT Ξ H0 O X c p) : LTs Ξ H0 O X [c] p := pts_one h
def lcD (gW : D → Env → W Env) (tW : Env → W Bool) (eW : Env → W D) (vs : List Nat) (pi : Env → W (List D)) (env : Env) : W D :=
  (pi env).bind fun ds => (lcW gW tW eW (wipeE env vs) ds []).bind fun l => W.ret (.lst l)
section
variable {elt tg iter : Expr} {ifs : List Expr} {scope : Scope} {own : List (Str × Nat)} {pi : Env → W (List D)} {gW : D → Env → W Env} {tW : Env → W Bool} {eW : Env → W D}
theorem ln_lc (hc : X.calm = true) (hN : X.N.Nodup) (hi : LI Ξ H0 O X tg iter pi) (ok : BlkOk X.N X.env.scope scope own) (hvs : ∀ i ∈ own.map (·.2), i ∉ O)
    (hg : ∀ (s : Shared) (H : Hp) (C : Addr) (cl : List (Str × Addr)) (fp : List Addr), LG Ξ H0 O (own.map (·.2)) (X.blk s H scope (compEnvC scope cl C X.env) fp) tg gW)
    (ht : ∀ (s : Shared) (H : Hp) (C : Addr) (cl : List (Str × Addr)) (fp : List Addr), LTs Ξ H0 O (X.blk s H scope (compEnvC scope cl C X.env) fp) ifs tW)
    (he : ∀ (s : Shared) (H : Hp) (C : Addr) (cl : List (Str × Addr)) (fp : List Addr), LE Ξ H0 O (X.blk s H scope (compEnvC scope cl C X.env) fp) elt eW) (hs : ∀ x, foldedSetIterable iter X.env x = pure x := by intro _; rfl) :
    PE X (.ListComp elt [⟨tg, iter, ifs, 0⟩] scope pos) (liN Ξ H0 O (lcD gW tW eW (own.map (·.2)) pi)) :=
  wkE (pe_lc hc hN hi ok hg ht he hs) (lc_reads hvs (fun _ _ _ h => h) (fun _ _ _ _ h => h) (fun _ _ _ h => h) fun _ _ _ h => h)
/-- the same, frozen at once -/
theorem ls_lcF {i : Nat} {y : Str} {py spos : Pos} (hc : X.calm = true) (hN : X.N.Nodup) (hy : X.N[i]? = some y) (hyl : X.env.scope.names.lookup y = some .local)
    (hsw : swapsWith (.ListComp elt [⟨tg, iter, ifs, 0⟩] scope pos) (some (.Name y py)) spos.line X.env = pure true) (hi : LI Ξ H0 O X tg iter pi) (ok : BlkOk X.N X.env.scope scope own) (hvs : ∀ i ∈ own.map (·.2), i ∉ O)
    (hg : ∀ (s : Shared) (H : Hp) (C : Addr) (cl : List (Str × Addr)) (fp : List Addr), LG Ξ H0 O (own.map (·.2)) (X.blk s H scope (compEnvC scope cl C X.env) fp) tg gW)
    (ht : ∀ (s : Shared) (H : Hp) (C : Addr) (cl : List (Str × Addr)) (fp : List Addr), LTs Ξ H0 O (X.blk s H scope (compEnvC scope cl C X.env) fp) ifs tW)
    (he : ∀ (s : Shared) (H : Hp) (C : Addr) (cl : List (Str × Addr)) (fp : List Addr), LE Ξ H0 O (X.blk s H scope (compEnvC scope cl C X.env) fp) elt eW) (hO : O.filter (fun j => decide (j ∈ O')) = O' := by decide) (hi2 : i ∉ O' := by decide) (hs : ∀ x, foldedSetIterable iter X.env x = pure x := by intro _; rfl) :
    LS Ξ H0 O O' Ob X (.Assign [.Name y py] (.ListComp elt [⟨tg, iter, ifs, 0⟩] scope pos) spos) fun env => (lcD gW tW eW (own.map (·.2)) pi env).bind fun d => W.ret (.nx (env.set i (some d))) :=
  wkS (ps_setLc hc hN hy hyl hsw hi ok hg ht he hs) (asg_reads hO hi2 fun σ H Q h => lc_reads hvs (fun _ _ _ h => h) (fun _ _ _ _ h => h) (fun _ _ _ h => h) (fun _ _ _ h => h) σ H Q (by
    obtain ⟨S, A, G, env, E, hA, r, q⟩ := h
    refine ⟨S, A, G, env, E, hA, r, W.mono _ (fun d k l H' g f nl ho => ?_) (fun _ z => z) q⟩
    refine k (.ref l) H' g (r.grow g f) ?_
    have nM := r.muA.out nl
    generalize hq : H' l = o at ho
    cases ho with
    | lst ho => exact .lst (ms_at hq nM) (ho.same (ms_mono fun b hb => List.mem_cons_of_mem _ hb))))
end
/-! ### a new list, owned -/
theorem ln_lst (h : LA Ξ H0 O X es ps) : PE X (.List es pos) (liN Ξ H0 O fun env => (ps env).bind lstW) :=
  wkE (pe_lst h) fun σ H Q ⟨S, A, G, env, E, hA, r, z⟩ => ⟨S, A, G, env, E, hA, r, (ps env).mono (fun ds u vs H1 g1 r1 hv => ⟨by rw [hv.len]; exact u.1, fun p np => by
    have s : Same H1 (upd H1 p (.lst vs)) := same_new (Same.refl H1) np
    have nf := ff_out r1.fi np
    have n0 : H p = none := by
      cases q : H p with
      | none => rfl
      | some o =>
        have := g1 p o nf q
        rw [np] at this
        cases this
    refine u.2 p _ (g1.trans (Gr.of s)) (FI_same r1.fi s) n0 ?_
    rw [upd_same]
    refine .lst (hv.same fun b o e => ?_)
    obtain ⟨h1, h2⟩ := ms_some e
    exact ms_at (s _ _ h1) fun z => (List.mem_cons.mp z).elim (ne_of_none h1 np) h2⟩) (fun _ z => z) z⟩
/-! ### methods of an owned list -/
def putW (env : Env) (i : Nat) (f : List D → W (List D)) : W Fl := (getW env i).bind fun x => match x with
  | .lst l => (f l).bind fun l' => W.ret (.nx (env.set i (some (.lst l'))))
  | _ => W.fail
def appW (d : D) (l : List D) : W (List D) := (W.want (l.length < sizeLine)).bind fun _ => W.ret (l ++ [d])
theorem putW_wp {env : Env} {i : Nat} {f : List D → W (List D)} {Q : Fl → Prop} {E : Ex → Prop} (h : (putW env i f).wp Q E) : ∃ l, env[i]? = some (some (.lst l)) ∧ (f l).wp (fun l' => Q (.nx (env.set i (some (.lst l'))))) E := by
  obtain ⟨d, e, h⟩ := getW_wp h
  cases d <;> try exact h.elim
  exact ⟨_, e, h⟩
/-- what a change of an owned list asks -/
theorem ls_append {i : Nat} {x : Str} {pn pa' pc' : Pos} (hO : i ∈ O)
    (hm : PE X (.Call (.Attribute (.Name x pn) "append" pa') [e] [] pc') (tBM X.K "list" rAppend (tVar i) (tCons (liE Ξ H0 O pa) tNil)))
    (hs : swapsWith (.Call (.Attribute (.Name x pn) "append" pa') [e] [] pc') none pos.line X.env = pure false := by rfl) :
    LS Ξ H0 O O Ob X (.Expr (.Call (.Attribute (.Name x pn) "append" pa') [e] [] pc') pos) fun env => (pa env).bind fun d => putW env i (appW d) := by
  refine wkS (ps_expr hm hs) fun De σ H ⟨S, A, G, env, E, hA, r, q⟩ => ?_
  rw [← hA] at hO
  obtain ⟨⟨j, a⟩, ha, e1⟩ := List.mem_map.mp hO
  have e1 : j = i := e1
  subst e1
  obtain ⟨d0, h1, h2, h3⟩ := r.ow j a ha
  have key : ∃ us ds, H a = some (.lst us) ∧ d0 = .lst ds := by
    generalize hq : H a = o at h3
    cases h3 with
    | lst h => exact ⟨_, _, rfl, rfl⟩
  obtain ⟨us, ds, ea, rfl⟩ := key
  refine ⟨.ref a, h2, .inl ⟨rfl, us, SqL.of ea⟩, S, A, G, env, E, hA, r, (pa env).mono (fun d k v H1 g1 r1 hv1 => ?_) (fun _ z => z) q⟩
  obtain ⟨l, el, k⟩ := putW_wp k
  obtain ⟨d1, i1, i2, i3⟩ := r1.ow j a ha
  rw [el] at i1
  cases i1
  have ea1 : H1 a = some (.lst us) := g1 a _ (r.outA ha) ea
  rw [ea1] at i3
  cases i3 with
  | lst i3 => exact ⟨a, us, v, rfl, rfl, ea1, by rw [i3.len]; exact k.1, k.2 A σ _ hA (r1.put ha (.lst (i3.snoc hv1)))⟩
def extW (d : D) (l : List D) : W (List D) := match d with
  | .lst m => (W.want (l.length + m.length ≤ sizeLine)).bind fun _ => W.ret (l ++ m)
  | .tup m => (W.want (l.length + m.length ≤ sizeLine)).bind fun _ => W.ret (l ++ m)
  | _ => W.fail
theorem MtM.or {id : String} {r r' : V → List V → Hp → VK → Prop} (h : MtM X id r) (h' : MtM X id r') : MtM X id fun x vs H Q => r x vs H Q ∨ r' x vs H Q := by
  intro pins s σ H x vs v us Q I rx rv q
  rcases q with q | q
  · exact h pins s σ H x vs v us Q I rx rv q
  · exact h' pins s σ H x vs v us Q I rx rv q
/-! ### walks over texts, pairs -/
def walkSW : D → W (List D)
  | .str z => W.ret (z.cps.toList.map fun c => D.str ⟨#[c]⟩)
  | _ => W.fail
def zipD (l m : List D) : List D := (l.zip m).map fun p => D.tup [p.1, p.2]
def zipW : List D → W (List D)
  | [.lst l, .lst m] => W.ret (zipD l m)
  | [.tup l, .tup m] => W.ret (zipD l m)
  | _ => W.fail
/-! ### repr -/
end
end LP
namespace LP
open PySem PySem.Spec PyProof.Rows L2 PK RZ
/-! ### how great a thing is -/
/-- data: its numbers, its depth, how long it is when shown -/
structure Sz (m dp n : Nat) (d : D) : Prop where
  pl : d.plain = true
  mx : mx d.toP ≤ m
  dep : d.toP.depth ≤ dp
  wt : wt d.toP ≤ n
structure Szs (m dp n : Nat) (l : List D) : Prop where
  pl : D.plains l = true
  mx : mxs (D.toPs l) ≤ m
  dep : PyData.depthAll (D.toPs l) ≤ dp
  wt : wts (D.toPs l) ≤ n
section
variable {m dp n m' dp' n' : Nat} {d : D} {l k : List D}
theorem Sz.mono (h : Sz m dp n d) (h1 : m ≤ m') (h2 : dp ≤ dp') (h3 : n ≤ n') : Sz m' dp' n' d := ⟨h.pl, Nat.le_trans h.mx h1, Nat.le_trans h.dep h2, Nat.le_trans h.wt h3⟩
theorem Szs.mono (h : Szs m dp n l) (h1 : m ≤ m') (h2 : dp ≤ dp') (h3 : n ≤ n') : Szs m' dp' n' l := ⟨h.pl, Nat.le_trans h.mx h1, Nat.le_trans h.dep h2, Nat.le_trans h.wt h3⟩
theorem Szs.nil : Szs m dp n [] := ⟨rfl, Nat.zero_le _, Nat.zero_le _, Nat.zero_le _⟩
theorem Szs.cons (h1 : Sz m dp n d) (h2 : Szs m dp n' l) : Szs m dp (n + 2 + n') (d :: l) := by
  refine ⟨?_, ?_, ?_, ?_⟩
  · show (d.plain && D.plains l) = true
    rw [h1.pl, h2.pl]
    rfl
  · show max (PK.mx d.toP) (mxs (D.toPs l)) ≤ m
    exact Nat.max_le.mpr ⟨h1.mx, h2.mx⟩
  · show max d.toP.depth (PyData.depthAll (D.toPs l)) ≤ dp
    exact Nat.max_le.mpr ⟨h1.dep, h2.dep⟩
  · show PK.wt d.toP + 2 + wts (D.toPs l) ≤ _
    have := h1.wt
    have := h2.wt
    omega
theorem toPs_app : ∀ l k : List D, D.toPs (l ++ k) = D.toPs l ++ D.toPs k
  | [], _ => rfl
  | d :: l, k => by
    show d.toP :: D.toPs (l ++ k) = _
    rw [toPs_app l k]
    rfl
theorem plains_app : ∀ l k : List D, D.plains (l ++ k) = (D.plains l && D.plains k)
  | [], _ => rfl
  | d :: l, k => by
    show (d.plain && D.plains (l ++ k)) = (d.plain && D.plains l && D.plains k)
    rw [plains_app l k, Bool.and_assoc]
theorem mxs_app : ∀ a b : List PyData, mxs (a ++ b) = max (mxs a) (mxs b)
  | [], b => (Nat.zero_max _).symm
  | d :: a, b => by
    show max (PK.mx d) (mxs (a ++ b)) = max (max (PK.mx d) (mxs a)) (mxs b)
    rw [mxs_app a b, Nat.max_assoc]
theorem depths_app : ∀ a b : List PyData, PyData.depthAll (a ++ b) = max (PyData.depthAll a) (PyData.depthAll b)
  | [], b => (Nat.zero_max _).symm
  | d :: a, b => by
    show max d.depth (PyData.depthAll (a ++ b)) = max (max d.depth (PyData.depthAll a)) (PyData.depthAll b)
    rw [depths_app a b, Nat.max_assoc]
theorem Szs.app (h1 : Szs m dp n l) (h2 : Szs m dp n' k) : Szs m dp (n + n') (l ++ k) := by
  refine ⟨?_, ?_, ?_, ?_⟩
  · rw [plains_app, h1.pl, h2.pl]
    rfl
  · rw [toPs_app, mxs_app]
    exact Nat.max_le.mpr ⟨h1.mx, h2.mx⟩
  · rw [toPs_app, depths_app]
    exact Nat.max_le.mpr ⟨h1.dep, h2.dep⟩
  · rw [toPs_app, wts_app]
    exact Nat.add_le_add h1.wt h2.wt
theorem Szs.parts (h : Szs m dp n (l ++ k)) : Szs m dp n l ∧ Szs m dp n k := by
  have h1 := h.pl
  have h2 := h.mx
  have h3 := h.dep
  have h4 := h.wt
  rw [plains_app, Bool.and_eq_true] at h1
  rw [toPs_app, mxs_app, Nat.max_le] at h2
  rw [toPs_app, depths_app, Nat.max_le] at h3
  rw [toPs_app, wts_app] at h4
  exact ⟨⟨h1.1, h2.1, h3.1, by omega⟩, ⟨h1.2, h2.2, h3.2, by omega⟩⟩
theorem Szs.take (h : Szs m dp n l) (i : Nat) : Szs m dp n (l.take i) := by
  rw [← List.take_append_drop i l] at h
  exact h.parts.1
theorem Szs.drop (h : Szs m dp n l) (i : Nat) : Szs m dp n (l.drop i) := by
  rw [← List.take_append_drop i l] at h
  exact h.parts.2
theorem Szs.cut (h : Szs m dp n l) (lo hi : Option Int) : Szs m dp n (cutD l lo hi) := (h.drop _).take _
theorem Szs.head (h : Szs m dp n (d :: l)) : Sz m dp n d ∧ Szs m dp n l := by
  have h1 : (d.plain && D.plains l) = true := h.pl
  have h2 : max (PK.mx d.toP) (mxs (D.toPs l)) ≤ m := h.mx
  have h3 : max d.toP.depth (PyData.depthAll (D.toPs l)) ≤ dp := h.dep
  have h4 : PK.wt d.toP + 2 + wts (D.toPs l) ≤ n := h.wt
  rw [Bool.and_eq_true] at h1
  rw [Nat.max_le] at h2 h3
  exact ⟨⟨h1.1, h2.1, h3.1, by omega⟩, ⟨h1.2, h2.2, h3.2, by omega⟩⟩
theorem Szs.mem (h : Szs m dp n l) : ∀ d ∈ l, Sz m dp n d := by
  induction l with
  | nil => exact fun _ z => (nomatch z)
  | cons e l ih =>
    intro d hd
    rcases List.mem_cons.mp hd with rfl | hd
    · exact h.head.1
    · exact ih h.head.2 d hd
/-- each of them, so many -/
theorem Szs.each (h : ∀ d ∈ l, Sz m dp n d) : Szs m dp (l.length * (n + 2)) l := by
  induction l with
  | nil => exact Szs.nil
  | cons e l ih =>
    have := Szs.cons (h e List.mem_cons_self) (ih fun d hd => h d (List.mem_cons_of_mem _ hd))
    refine this.mono (Nat.le_refl _) (Nat.le_refl _) ?_
    rw [List.length_cons, Nat.succ_mul]
    omega
theorem Szs.rev (h : Szs m dp n l) : Szs m dp n l.reverse := by
  have key : ∀ l : List D, D.plains l.reverse = D.plains l ∧ mxs (D.toPs l.reverse) = mxs (D.toPs l) ∧ PyData.depthAll (D.toPs l.reverse) = PyData.depthAll (D.toPs l) ∧ wts (D.toPs l.reverse) = wts (D.toPs l) := by
    intro l
    induction l with
    | nil => exact ⟨rfl, rfl, rfl, rfl⟩
    | cons d l ih =>
      obtain ⟨i1, i2, i3, i4⟩ := ih
      rw [List.reverse_cons, plains_app, toPs_app, mxs_app, depths_app, wts_app, i1, i2, i3, i4]
      refine ⟨?_, ?_, ?_, ?_⟩
      · show (D.plains l && (d.plain && true)) = (d.plain && D.plains l)
        rw [Bool.and_true, Bool.and_comm]
      · show max _ (max (PK.mx d.toP) 0) = max (PK.mx d.toP) _
        rw [Nat.max_zero, Nat.max_comm]
      · show max _ (max d.toP.depth 0) = max d.toP.depth _
        rw [Nat.max_zero, Nat.max_comm]
      · show _ + (PK.wt d.toP + 2 + 0) = PK.wt d.toP + 2 + _
        omega
  obtain ⟨i1, i2, i3, i4⟩ := key l
  exact ⟨by rw [i1]; exact h.pl, by rw [i2]; exact h.mx, by rw [i3]; exact h.dep, by rw [i4]; exact h.wt⟩
theorem Sz.tup (h : Szs m dp n l) : Sz m (dp + 1) (n + 3) (.tup l) := by
  refine ⟨h.pl, h.mx, ?_, Nat.add_le_add_right h.wt 3⟩
  show (PyData.tuple (D.toPs l)).depth ≤ _
  rw [depth_tuple]
  exact Nat.succ_le_succ h.dep
theorem Sz.lst (h : Szs m dp n l) : Sz m (dp + 1) (n + 3) (.lst l) := by
  refine ⟨h.pl, h.mx, ?_, Nat.add_le_add_right h.wt 3⟩
  show (PyData.list (D.toPs l)).depth ≤ _
  rw [depth_list]
  exact Nat.succ_le_succ h.dep
theorem Sz.non (h : 4 ≤ n) : Sz m dp n .non := ⟨rfl, Nat.zero_le _, Nat.zero_le _, h⟩
theorem Sz.bl {b : Bool} (h : 5 ≤ n) : Sz m dp n (.bl b) := ⟨rfl, Nat.zero_le _, Nat.zero_le _, h⟩
theorem Sz.int {i : Int} (h : i.natAbs.log2 ≤ m) (h2 : i.natAbs.log2 + 2 ≤ n) : Sz m dp n (.int i) := ⟨rfl, h, Nat.zero_le _, h2⟩
theorem Sz.str {y : Str} (h : 10 * y.length + 2 ≤ n) : Sz m dp n (.str y) := ⟨rfl, Nat.zero_le _, Nat.zero_le _, h⟩
theorem Sz.sh (h : Sz m dp n d) (h2 : dp ≤ 64) : D.sh d := ⟨h.pl, Nat.le_trans h.dep h2⟩
theorem toPs_len : ∀ l : List D, (D.toPs l).length = l.length
  | [] => rfl
  | d :: l => congrArg (· + 1) (toPs_len l)
theorem Szs.len (h : Szs m dp n l) : 2 * l.length ≤ n := by
  have := wts_len (n := (n + 1) / 2) (ds := D.toPs l) (by have := h.wt; omega)
  have h2 : 2 * (D.toPs l).length ≤ wts (D.toPs l) := by
    generalize D.toPs l = ds
    induction ds with
    | nil => exact Nat.le_refl _
    | cons d ds ih =>
      show 2 * (ds.length + 1) ≤ PK.wt d + 2 + wts ds
      omega
  rw [toPs_len] at h2
  have := h.wt
  omega
end
/-! ### repr -/
theorem call_reprV {X : Cx} {k : Nat} (K : PySem.W.Frag) (hgd : X.A.guards = some []) (hr : Room k X.A) (hK : X.K = K) : CallR X (.builtin "repr")
    (fun xs H Q => ∃ v d, xs = [v] ∧ Dp K H v d ∧ Ok d ∧ d.depth ≤ 100 ∧ d.shown.length ≤ sizeLine ∧ Q (.str d.shown) H) := by
  subst hK
  intro pins s σ H xs us Q I r h
  obtain ⟨v, d, rfl, hd, ok, hdp, hz, q⟩ := h
  obtain ⟨u, rfl, rr⟩ := vals1 r
  have big : ∀ a : Addr, v = .ref a → wpAny (model X.prog X.w) X.A (call (.builtin "repr") [u]) (EP X pins σ Q) X.xe s := by
    rintro a rfl
    cases rr
    obtain ⟨as, rd⟩ := Dp.reads I d _ _ hd rfl
    have hu := hr.un
    refine repr_of_reads' rd ok.sh (fun e => by rw [ok.nd] at e; cases e) hgd (by omega) (fun _ _ e => e) (fun h' u tk hk => ?_) hz
    exact ⟨.str _, H, I.kept (t' := tk) hk, ⟨_, rfl⟩, q⟩
  cases hd with
  | non =>
    cases rr
    exact PySem.P.repr_of_none ⟨.str _, H, I.tok _, ⟨_, rfl⟩, q⟩
  | bl b =>
    cases rr
    refine PySem.P.repr_of_bool ⟨.str _, H, I.tok _, ⟨_, rfl⟩, ?_⟩
    cases b <;> exact q
  | int i =>
    obtain ⟨t, rfl⟩ := rr
    exact PySem.P.repr_of_int (of_decide_eq_true ok.sh) ⟨.str _, H, I.tok _, ⟨_, rfl⟩, q⟩
  | str y =>
    obtain ⟨t, rfl⟩ := rr
    exact PySem.P.repr_of_str ⟨.str _, H, I.tok _, ⟨_, rfl⟩, q⟩ hz
  | lst hs ha => exact big _ rfl
  | tup hs ha => exact big _ rfl
/-- what repr shows -/
def rp (d : D) : D := .txt d.toP.shown
def reprD : List D → W D
  | [d] => (W.want (Sz 1900 64 sizeLine d)).bind fun _ => W.ret (rp d)
  | _ => W.fail
section
variable {X : Cx} {Ξ : Ctx} {H0 : Hp} {O O' Ob : List Nat} {a b c e : Expr} {es : List Expr} {pos : Pos} {pa pb pc : Env → W D} {ps : Env → W (List D)}
theorem repr_ok : CallOk Ξ (fun xs H Q => ∃ v d, xs = [v] ∧ Dp Ξ.K H v d ∧ Ok d ∧ d.depth ≤ 100 ∧ d.shown.length ≤ sizeLine ∧ Q (.str d.shown) H) reprD := by
  intro M H xs ds Q E mu hf h q
  match ds, h, q with
  | [d], .cons h .nil, ⟨z, q⟩ =>
    have ok : Ok d.toP := ok_of (h.lay z.pl) z.mx (by decide)
    exact ⟨_, d.toP, rfl, h.dp z.pl, ok, Nat.le_trans z.dep (by decide), Nat.le_trans (shown_wt _ ok) z.wt, q _ H (Same.refl H) (.txt _)⟩
theorem le_repr {k : Nat} {p pos : Pos} (hgd : X.A.guards = some []) (hr : Room k X.A) (hK : X.K = Ξ.K) (hg : Gl X "repr") (hm : X.mg "repr" = none) (ha : LAB Ξ H0 O X [e] ps) (he : starEach [e] X.env = [(false, eval e X.env)] := by rfl) : LE Ξ H0 O X (.Call (.Name "repr" p) [e] [] pos) fun env => (ps env).bind reprD :=
  le_callB (call_reprV Ξ.K hgd hr hK) repr_ok hg hm (by decide +kernel) ha (by decide) (by decide) he rfl
/-! ### sorted, set -/
def sortD (l : List D) : List D := srt false D.toP l
def ssOf : List D → Option (List Str)
  | [] => some []
  | .str b :: l => (ssOf l).map (b :: ·)
  | _ => none
theorem ssOf_eq : ∀ {l : List D} {bs : List Str}, ssOf l = some bs → l = bs.map D.str
  | [], _, h => by cases h; rfl
  | .str b :: l, _, h => by
    obtain ⟨cs, h1, rfl⟩ := Option.map_eq_some_iff.mp h
    rw [ssOf_eq h1]
    rfl
theorem ssOf_map (bs : List Str) : ssOf (bs.map D.str) = some bs := by
  induction bs with
  | nil => rfl
  | cons b bs ih => show (ssOf (bs.map D.str)).map (b :: ·) = _; rw [ih]; rfl
def sortedW : List D → W D
  | [.lst l] => (W.want (D.plains l = true ∧ Cmpb (D.toPs l) ∧ l.length ≤ sizeLine)).bind fun _ => W.ret (.lst (sortD l))
  | [.set l] => (W.want (l.length ≤ 4090)).bind fun _ => W.ret (.lst ((sortS l).map D.str))
  | _ => W.fail
theorem merge_map {α β : Type} (f : α → β) (le : β → β → Bool) (l : List α) : (l.mergeSort fun a b => le (f a) (f b)).map f = (l.map f).mergeSort le := by
  exact List.map_mergeSort (fun _ _ _ _ => rfl)
/-! ### str, min, max -/
def strW : List D → W D
  | [.int i] => (W.want (i.natAbs.log2 < 1920)).bind fun _ => W.ret (.str (toString i : String))
  | [.bl b] => W.ret (.str (if b then "True" else "False" : String))
  | _ => W.fail
def min2W : List D → W D
  | [.int i, .int j] => W.ret (.int (min i j))
  | _ => W.fail
def max2W : List D → W D
  | [.int i, .int j] => W.ret (.int (max i j))
  | _ => W.fail
theorem min2_ok : CallOk Ξ (fun xs H Q => ∃ i j, xs = [.int i, .int j] ∧ Q (.int (if j < i then j else i)) H) min2W := by
  intro M H xs ds Q E mu hf h q
  match ds, h, q with
  | [.int i, .int j], .cons h (.cons h2 .nil), q =>
    rw [h.intE, h2.intE]
    refine ⟨i, j, rfl, ?_⟩
    have e : (if j < i then j else i) = min i j := by split <;> omega
    rw [e]
    exact at_int _ q
theorem le_min2 {e2 : Expr} {p pos : Pos} (hc : X.calm = true) (hg : Gl X "min") (hm : X.mg "min" = none) (ha : LAB Ξ H0 O X [e, e2] ps) (he : starEach [e, e2] X.env = (false, eval e X.env) :: starEach [e2] X.env := by rfl) (hpl : (backTo pos (starEach [e2] X.env)).any (·.1) = false := by rfl) :
    LE Ξ H0 O X (.Call (.Name "min" p) [e, e2] [] pos) fun env => (ps env).bind min2W := le_callB (call_min2 hc) min2_ok hg hm (by decide +kernel) ha (by decide) (by decide) he hpl
/-! ### join, upper -/
theorem strOk_joinL {a : Str} (ha : PyData.strOk a = true) : ∀ {ys : List Str}, (∀ y ∈ ys, PyData.strOk y = true) → PyData.strOk (Str.join a ys) = true
  | [], _ => (by decide +kernel : PyData.strOk Str.empty = true)
  | [y], h => h y List.mem_cons_self
  | y :: z :: ys, h => by
    have ih := strOk_joinL ha (ys := z :: ys) fun u hu => h u (List.mem_cons_of_mem _ hu)
    exact strOk_app (strOk_app (h y List.mem_cons_self) ha) ih
def asS : D → W Str
  | .str a => W.ret a
  | _ => W.fail
theorem asS_wp {d : D} {Q : Str → Prop} {E : Ex → Prop} (h : (asS d).wp Q E) : ∃ a, d = .str a ∧ Q a := by
  cases d with
  | str a => exact ⟨a, rfl, h⟩
  | _ => exact h.elim
def joinW (a : Str) : D → W D
  | .lst l => (optW (ssOf l)).bind fun ys => (W.want ((ys.map (·.length)).sum + ys.length * a.length ≤ 16777216)).bind fun _ => W.ret (.str (Str.join a ys))
  | .tup l => (optW (ssOf l)).bind fun ys => (W.want ((ys.map (·.length)).sum + ys.length * a.length ≤ 16777216)).bind fun _ => W.ret (.str (Str.join a ys))
  | _ => W.fail
theorem le_join {o : Expr} {apos pos : Pos} (hK : X.K = Ξ.K) (ho : LB Ξ H0 O X o pa) (he : LB Ξ H0 O X e pb) (hs : starEach [e] X.env = [(false, eval e X.env)] := by rfl) (hbase : attributeBase o "join" X.env (eval o X.env) = eval o X.env := by rfl) (hline : (apos.endLine == pos.line) = true := by rfl) :
    LE Ξ H0 O X (.Call (.Attribute o "join" apos) [e] [] pos) fun env => (pa env).bind fun x => (asS x).bind fun a => (pb env).bind fun y => joinW a y := by
  refine wkE (pe_join ho he hs hbase hline) fun σ H Q ⟨S, A, G, env, E, hA, r, q⟩ => ?_
  refine ⟨S, A, G, env, E, hA, r, (pa env).mono (fun d1 k x H1 g1 r1 b1 => ?_) (fun _ z => z) q⟩
  obtain ⟨a, rfl, k⟩ := asS_wp k
  obtain ⟨rfl, oa⟩ := b1.strE
  refine ⟨⟨a, rfl⟩, S, A, G, env, E, hA, r1, (pb env).mono (fun d2 k y H2 g2 r2 b2 => ?_) (fun _ z => z) k⟩
  rw [hK]
  cases d2 <;> try exact k.elim
  · obtain ⟨ys, e, hl, k⟩ := optW_wp k
    rw [ssOf_eq e] at b2
    obtain ⟨b, zs, rfl, t, ha⟩ := b2.tupE
    have ok := ha.strs_ok
    rw [ha.of_strs] at t
    exact ⟨a, b, ys, rfl, rfl, .inr t, hl, by rw [TL.join_eq]; exact k _ H2 (g1.trans g2) r2 (.str _ (strOk_joinL oa ok))⟩
  · obtain ⟨ys, e, hl, k⟩ := optW_wp k
    rw [ssOf_eq e] at b2
    obtain ⟨b, zs, rfl, t, ha⟩ := b2.lstE
    have ok := ha.strs_ok
    rw [ha.of_strs] at t
    exact ⟨a, b, ys, rfl, rfl, .inl (SqL.of t), hl, by rw [TL.join_eq]; exact k _ H2 (g1.trans g2) r2 (.str _ (strOk_joinL oa ok))⟩
end
/-! ### drawing -/
def drawW : List D → W D
  | [.tok 0, .int m] => (W.want (0 < m ∧ m ≤ 1000000)).bind fun _ => (W.any fun r : Int => 0 ≤ r ∧ r < m).bind fun r => W.ret (.int r)
  | _ => W.fail
def isFeedSig (P : Program) (w : World) (K : PySem.W.Frag) (cl : Nat → Option Addr) (fl : Nat → List Str) : Sig where
  P := P
  w := w
  K := K
  cl := cl
  fl := fl
  fk := IsFeed
  fks := fun H H' a c h e1 e2 => by
    obtain ⟨cs, i, l, n, f⟩ := h
    exact ⟨cs, i, l, n, e1.trans f.d, e2.trans f.l, f.i0⟩
  fkm := fun H a c h => by
    obtain ⟨cs, i, l, n, f⟩ := h
    exact ⟨⟨_, f.d, trivial⟩, ⟨_, f.l, trivial⟩⟩
theorem draw_by {P : Program} {w : World} {K : PySem.W.Frag} {cl : Nat → Option Addr} {fl : Nat → List Str} {mg : Str → Option Value} {base : Heap} {k : Nat} {f : Addr} {fd : FuncData} {ps : List Str} (F : FnOk P w K mg base CX0 k f fd ps spDraw) :
    FnOk P w K mg base CX0 k f fd ps (liF (isFeedSig P w K cl fl) drawW) := by
  have key : ∀ vs H Q E, liF (isFeedSig P w K cl fl) drawW vs H Q E → spDraw vs H Q E := by
    rintro vs H Q E ⟨fe, S, ds, EE, mu, hf, fi, hv, hE, q⟩
    match ds, hv, q with
    | [.tok 0, .int m], .cons h1 (.cons h2 .nil), ⟨⟨m0, m1⟩, q⟩ =>
      cases h1 with
      | tok h1 =>
        cases h2
        match fe, hf, fi, h1, q with
        | .some (a, c), hf, fi, h1, q =>
          have ev : V.ref a = _ := Option.some.inj h1
          subst ev
          refine ⟨a, c, m, rfl, fi, m0, m1, fun r H' r0 r1 x f' => q r ⟨r0, r1⟩ (.int r) H' (fun b o n e => x b o e fun z => n ?_) f' (.int r)⟩
          rw [z]
          exact List.mem_cons_self
  exact ⟨fun vs H Q E h => F.len vs H Q E (key vs H Q E h), fun A outer s H args us vs Q E hr e0 hb hv h => F.run A outer s H args us vs Q E hr e0 hb hv (key vs H Q E h)⟩
end LP
namespace LP
open PySem PySem.Spec PyProof.Rows L2 PK RZ
/-- a def's body, run: np parameters, nN names -/
def runB (np nN : Nat) (b : Env → W Fl) (ds : List D) : W D := (W.want (ds.length = np)).bind fun _ => endW (b (startE nN ds))
section
variable {Γ : Sig} {mg : Str → Option Value} {base : Heap}
theorem ok_run {x qual : Str} {st : Stmt} {f : Addr} {fd : FuncData} {N ps : List Str} {k np nN : Nat} {pb : Env → W Fl} (F : Fun Γ.K x qual st f fd) (Sc : FnScope N ps (defScope st)) (h1 : ps.length = np) (h2 : N.length = nN)
    (hbody : ∀ (fe : Fd) (cdv : Value) (A : Around) (outer : List PySem.Env) (s : Shared) (H : Hp) (E : XK), Room k (A.deeper (envOfC qual (defScope st) s.heap.objs.size f cdv)) →
      LSs ⟨Γ, fe⟩ H [] [] [] (cxOf CX0 Γ.P Γ.w Γ.K mg base N qual (defScope st) f cdv A outer s H E).nox (defBody st) pb) : FnOk Γ.P Γ.w Γ.K mg base CX0 (k + 1) f fd ps (liF Γ (runB np nN pb)) := by
  subst h1 h2
  exact ok_by F Sc hbody fun ds Q E h => h
end
section
variable {X : Cx} {Ξ : Ctx} {H0 : Hp} {O O1 O' Ob : List Nat} {st : Stmt} {a b : Expr} {pos : Pos} {p : Env → W Fl} {ps : Env → W (List D)}
theorem lss_last (h1 : LS Ξ H0 O O1 Ob X st p) (hs : O1.filter (fun i => decide (i ∈ O')) = O' := by decide) : LSs Ξ H0 O O' Ob X [st] p := by
  refine wkSs (pss_one h1) fun De σ H ⟨S, A, G, env, E, hA, r, k⟩ => ⟨S, A, G, env, E, hA, r, (p env).mono (fun f k => ?_) (fun _ z => z) k⟩
  cases f with
  | nx env' => exact fun A' σ' H' hA' r' => k _ σ' H' (keys_filter hA' hs) (r'.sub fun i => decide (i ∈ O'))
  | rt d => exact k
  | bk env' => exact k
  | ct env' => exact k
def par2 (i j : Nat) (env : Env) : List D → W Fl
  | [d, e] => W.ret (.nx ((env.set i (some d)).set j (some e)))
  | _ => W.fail
variable {pa pb : Env → W D}
theorem lt_eq {k : Nat} (hr : Room k X.A) (hK : X.K = Ξ.K) (ha : LB Ξ H0 O X a pa) (hb : LB Ξ H0 O X b pb) : LT Ξ H0 O X (.Compare a [.Eq] [b] pos) fun env => ((pa env).bind fun x => (pb env).bind fun y => eqW x y).bind asB := lt_cmp (op_eq.or (ko_eqD Ξ.K hr hK)) eq_ok (nomark _) ha hb
theorem lt_ne {k : Nat} (hr : Room k X.A) (hK : X.K = Ξ.K) (ha : LB Ξ H0 O X a pa) (hb : LB Ξ H0 O X b pb) : LT Ξ H0 O X (.Compare a [.NotEq] [b] pos) fun env => ((pa env).bind fun x => (pb env).bind fun y => neW x y).bind asB := lt_cmp (op_ne.or (ko_neD Ξ.K hr hK)) ne_ok (nomark _) ha hb
theorem lt_lt (ha : LB Ξ H0 O X a pa) (hb : LB Ξ H0 O X b pb) : LT Ξ H0 O X (.Compare a [.Lt] [b] pos) fun env => ((pa env).bind fun x => (pb env).bind fun y => ltW x y).bind asB := lt_cmp (op_lt.or op_lt_str) ord_ok (nomark _) ha hb
theorem lt_gt (ha : LB Ξ H0 O X a pa) (hb : LB Ξ H0 O X b pb) : LT Ξ H0 O X (.Compare a [.Gt] [b] pos) fun env => ((pa env).bind fun x => (pb env).bind fun y => gtW x y).bind asB := lt_cmp (op_gt.or op_gt_str) ord_ok (nomark _) ha hb
end
end LP
namespace PK
open PySem PySem.Spec PyProof.Rows L2

section
variable {P : Program} {w : World} {K : PySem.W.Frag} {mg mb : Str → Option Value} {k : Nat} {fa a : Addr} {fd : FuncData} {x : Str} {sp : Sp}
  {s₁ : Shared} {vs : List Value} {ns : List Int}
abbrev AllTrue (s₁ : Shared) : Result → Shared → Prop :=
  fun r s' => r = .ok (.ret (.bool true)) ∧ OldK s₁.heap s'.heap ∧ s'.os = s₁.os ∧ AllBare s'.gens

/-- what is hidden are the tracked objects: here at most the script -/
theorem core_of {H : Hp} (KX : K.In s₁.heap) (hns : s₁.heap.Ns mainGlobals mg) (hb : s₁.heap.Ns builtinsNs mb)
    (hbb : ∀ y : Str, y ≠ "__name__" → mb y = bootBuiltins y) (hlim : s₁.heap.NoLimit) (hg : s₁.gens = #[])
    (ha : s₁.heap.get? a = some { cls := .type "list", data := .seq vs.toArray }) (hr : Room k callerA)
    (F : ∀ base : Heap, K.In base → base.Ns mainGlobals mg → FnG P w K mg base CX0 k fa fd [x] sp)
    (hbind : ∀ (s : Shared) (u : Value), BindsTo s fd ⟨[u], []⟩ [(x, u)])
    (hO : Only H) (hS : sp [.ref a] H (fun v _ => v = .bl true) fun _ _ _ => False) (hok : HOk P w H s₁.heap)
    (hA : ∀ b u, H b = some u → b = a) (hK : ∀ u, H a = some u → K.lookup a = none) :
    codeAny (model P w) callerA (.call (.ref fa) ⟨[.ref a], []⟩) (AllTrue s₁) s₁ := by
  have free : ∀ {b : Addr} {o : Obj}, s₁.heap.get? b = some o → (∀ es ep, o.data = .dict es ep → True) → (∃ es ep, o.data = .dict es ep) → H b = none := by
    intro b o e _ ⟨es, ep, d⟩
    cases q : H b with
    | none => rfl
    | some u =>
      have e1 := hA b u q
      rw [e1, ha] at e
      rw [← Option.some.inj e] at d
      cases d
  have toNs : ∀ {b : Addr} {m : Str → Option Value}, s₁.heap.Ns b m → (hidT s₁.heap H).Ns b m := by
    rintro b m ⟨o, es, ep, e, d, r⟩
    exact ⟨o, es, ep, hidT_get e (free e (fun _ _ _ => trivial) ⟨es, ep, d⟩), d, r⟩
  have KB : K.In (hidT s₁.heap H) := by
    intro b o e
    refine hidT_get (KX b o e) ?_
    cases q : H b with
    | none => rfl
    | some u =>
      have e1 := hA b u q
      subst e1
      rw [hK u q] at e
      cases e
  obtain ⟨mc, l1, l2⟩ := hlim
  have M : Mod K mg (hidT s₁.heap H) := ⟨KB, toNs hns, ⟨mb, toNs hb, hbb⟩, ⟨mc, toNs l1, l2⟩⟩
  have e0 : Env0 P w K mg (hidT s₁.heap H) callerA [] s₁ H :=
    { frames := rfl, mod := M, bs := fun b o e => of_hidT e, bsz := Nat.le_of_eq (hidT_size _ _), funs := trivial,
      frf := fun b z => absurd z (List.not_mem_nil), hok := hok, bare := .of_eq hg }
  refine codeAny_mono ((F _ KB (toNs hns)).go (us := [.ref a]) (vs := [.ref a]) rfl hr e0 (hbind s₁ (.ref a)) (.cons rfl .nil) hS) ?_
  intro res s' h
  match res, h with
  | .error _, h => exact h.elim
  | .ok .next, h => exact h.elim
  | .ok .brk, h => exact h.elim
  | .ok .cont, h => exact h.elim
  | .ok (.ret u), h =>
    obtain ⟨v, H', os, bare, un, hok', rv, ev⟩ := h
    have ev' : v = .bl true := ev
    subst ev'
    cases rv
    refine ⟨rfl, OldK.of_keep fun b o e => ?_, os, bare⟩
    rcases hO b with z | ⟨ob, xs, z⟩
    · exact un.keep b o e z (by intro z'; cases z') (by intro z'; cases z')
    · have z2 := hok' b _ (un.frzs b ob _ z)
      have z1 := hok b _ z
      have e1 : ob = o := Option.some.inj (z1.1.symm.trans e)
      rw [← e1]
      exact z2.1

theorem law_goG (KX : K.In s₁.heap) (hns : s₁.heap.Ns mainGlobals mg) (hb : s₁.heap.Ns builtinsNs mb)
    (hbb : ∀ y : Str, y ≠ "__name__" → mb y = bootBuiltins y) (hlim : s₁.heap.NoLimit) (hg : s₁.gens = #[])
    (ha : s₁.heap.get? a = some { cls := .type "list", data := .seq vs.toArray }) (hi : IntsAre vs ns) (hl : ns.length ≤ sizeLine) (hr : Room k callerA)
    (F : ∀ base : Heap, K.In base → base.Ns mainGlobals mg → FnG P w K mg base CX0 k fa fd [x] sp)
    (hbind : ∀ (s : Shared) (u : Value), BindsTo s fd ⟨[u], []⟩ [(x, u)])
    (hsp : ∀ H : Hp, Only H → SqL K H a (ns.map V.int) → sp [.ref a] H (fun v _ => v = .bl true) fun _ _ _ => False) :
    codeAny (model P w) callerA (.call (.ref fa) ⟨[.ref a], []⟩) (AllTrue s₁) s₁ := by
  have rv := vals_ints hi
  have lz : (ns.map V.int).length ≤ sizeLine := by rw [List.length_map]; exact hl
  cases hk : K.lookup a with
  | some o =>
    have e : o = _ := Option.some.inj ((KX a o hk).symm.trans ha)
    have hO : Only (fun _ => none) := fun _ => Or.inl rfl
    refine core_of (H := fun _ => none) KX hns hb hbb hlim hg ha hr F hbind hO (hsp _ hO ?_) (fun _ _ z => by cases z) (fun _ _ z => by cases z) (fun _ z => by cases z)
    refine Or.inr ⟨o, vs.toArray, 0, hk, ?_, ?_, ?_, ?_, ?_⟩
    · rw [e]
    · rw [e]
    · rw [e]
    · rw [List.size_toArray, hi.length]; exact hl
    · simpa using rv
  | none =>
    let ob : Obj := { cls := .type "list", data := .seq vs.toArray }
    let Hs : Hp := upd (fun _ => none) a (.frz ob (.lst (ns.map V.int)))
    have hO : Only Hs := fun b => by
      by_cases z : b = a
      · subst z
        exact Or.inr ⟨ob, _, upd_same⟩
      · exact Or.inl (upd_ne z)
    have only : ∀ b u, Hs b = some u → b = a ∧ u = .frz ob (.lst (ns.map V.int)) := fun b u q => by
      by_cases z : b = a
      · subst z
        rw [show Hs b = _ from upd_same] at q
        exact ⟨rfl, (Option.some.inj q).symm⟩
      · rw [show Hs b = _ from upd_ne z] at q
        cases q
    refine core_of (H := Hs) KX hns hb hbb hlim hg ha hr F hbind hO (hsp _ hO (Or.inl (Or.inr ⟨ob, upd_same⟩))) (fun b u q => ?_) (fun b u q => (only b u q).1) (fun _ _ => hk)
    obtain ⟨rfl, rfl⟩ := only b u q
    exact ⟨ha, lz, vs, 0, rv, ha⟩
end

theorem walk_ofG {l : PySem.W.OpenLaw} {n k : Nat} {q : Program} {loose : List Str} {XP : (Str → Option Value) → Heap → Prop} {YP : World → Heap → Prop}
    {d : DefRec} {K : Params → PySem.W.Frag} {sp : World → Sp} {x : Str}
    (hn : l.most = some n) (hn2 : n ≤ sizeLine) (hdf : d.params.defaults = []) (hr : Room k callerA)
    (hY : ∀ (w : World) (h : Heap), YP w h → (K w.params).In h)
    (F : ∀ (w : World) (mg : Str → Option Value) (fa : Addr) (h : Heap), (K w.params).In h → h.Ns mainGlobals mg → mg d.name = some (.ref fa) →
      ∃ fd : FuncData, (∀ (s : Shared) (u : Value), BindsTo s fd ⟨[u], []⟩ [(x, u)]) ∧
        ∀ base : Heap, (K w.params).In base → base.Ns mainGlobals mg → FnG l.prog w (K w.params) mg base CX0 k fa fd [x] (sp w))
    (hsp : ∀ (w : World) (H : Hp) (a : Addr) (ns : List Int), ns.length ≤ n → Only H → SqL (K w.params) H a (ns.map V.int) →
      sp w [.ref a] H (fun v _ => v = .bl true) fun _ _ _ => False) :
    PySem.W.WalkO q loose XP YP l.row.toRowW d [] (fun f vs => PySem.call f vs) := by
  refine Att.attach_call hn hdf ?_
  intro w s₀ s₁ mg mb fa o pm cd doc a vs ns G Y ho hd hcd hmg hobj hints hlen hg
  have KX := hY w _ Y
  obtain ⟨fd, hb, hF⟩ := F w mg fa _ KX G.T.g hmg
  exact law_goG KX G.T.g G.T.b G.T.builtins G.T.nolimit hg hobj hints (Nat.le_trans hlen hn2) hr hF hb fun H hO hS => hsp w H a ns hlen hO hS
end PK
namespace LP
open PySem PySem.Spec PyProof.Rows L2 PK RZ
/-! ### the law's own def -/
/-- what the law draws from is made of the script -/
def spFeedOf (fk : Hp → Addr → Addr → Prop) (K : PySem.W.Frag) : Sp := fun vs H Q _ => ∃ (a : Addr) (ns : List Int), vs = [.ref a] ∧ SqL K H a (ns.map V.int) ∧
  ∀ p c H', H p = none → Same H H' → fk H' p c → Q (.ref p) H'
def spLawK (K : PySem.W.Frag) : Sp := fun vs H Q _ => ∃ (a : Addr) (ns : List Int), vs = [.ref a] ∧ SqL K H a (ns.map V.int) ∧ ∀ H', Q (.bl true) H'
def tRest (Γ : Sig) (pb : Env → W Fl) : TS := fun De σ H => ∃ a c H0, liS ⟨Γ, .some (a, c)⟩ H0 [] [] [] pb De σ H
theorem pss_rest {X : Cx} {Γ : Sig} {sts : List Stmt} {pb : Env → W Fl} (h : ∀ a c H0, LSs ⟨Γ, .some (a, c)⟩ H0 [] [] [] X sts pb) : PSs X sts (tRest Γ pb) :=
  ⟨fun pins s σ H D I ⟨a, c, H0, q⟩ => (h a c H0).run pins s σ H D I q⟩
/-- the names at the law's start -/
def lawE (n : Nat) : Env := (List.replicate n none).set 1 (some (.tok 0))
section
variable {Γ : Sig} {mg : Str → Option Value} {base : Heap}
theorem law_by {st : Stmt} {f : Addr} {fd : FuncData} {N : List Str} {k nN : Nat} {s0 : Str} {pb : Env → W Fl} (F : Fun Γ.K "law" "law" st f fd) (Sc : FnScope N [s0] (defScope st)) (hn : N.length = nN) (h1 : 1 < nN)
    (hb : ∀ (cdv : Value) (A : Around) (outer : List PySem.Env) (s : Shared) (H : Hp) (E : XK), A.guards = some [] → Room k (A.deeper (envOfC "law" (defScope st) s.heap.objs.size f cdv)) →
      PSs (cxOf CX0 Γ.P Γ.w Γ.K mg base N "law" (defScope st) f cdv A outer s H E).nox (defBody st) (tSeq (tAsg (tCall (spFeedOf Γ.fk Γ.K) [] (fun _ _ _ => True) (tCons (tVar 0) tNil)) (gName 1)) (tRest Γ pb)))
    (hp : (pb (lawE nN)).wp (fun f => ∃ b, f = .rt (.bl b) ∧ b = true) fun _ => False) : FnG Γ.P Γ.w Γ.K mg base CX0 (k + 1) f fd [s0] (spLawK Γ.K) := by
  subst hn
  refine funG_ok F Sc (fun vs H Q E h => ?_) (fun cdv A outer s H vs Q E hgd hr h => ?_)
  · obtain ⟨a, ns, rfl, _⟩ := h
    rfl
  · obtain ⟨a, ns, rfl, hS, q⟩ := h
    refine ⟨_, hb cdv A outer s H E hgd hr, ?_⟩
    refine ⟨.ref a, by rfl, a, ns, rfl, hS, fun p c H' np sm fk => ?_⟩
    have e0 : (L2.start N [V.ref a]).length = N.length := by
      unfold L2.start
      simp
      omega
    refine ⟨p, c, H', [p, c], [], [], lawE N.length, fun _ => False, rfl, ?_, ?_⟩
    · refine ⟨?_, fun i d hd _ => ?_, fun i a h => (nomatch h), fun i a h => (nomatch h), List.nodup_nil, List.nodup_nil, fun x hx => (nomatch hx), fun b hb => ?_, fk, fun b hb => hb, Gr.refl H'⟩
      · rw [List.length_set, e0]
        simp [lawE]
      · unfold lawE at hd
        by_cases z : 1 = i
        · subst z
          rw [List.getElem?_set_self (by simpa using h1)] at hd
          cases hd
          exact ⟨.ref p, List.getElem?_set_self (by rw [e0]; exact h1), .tok rfl⟩
        · rw [List.getElem?_set_ne z] at hd
          have := List.mem_of_getElem? hd
          rw [List.mem_replicate] at this
          cases this.2
      · obtain ⟨m1, m2⟩ := Γ.fkm H' p c fk
        rcases List.mem_cons.mp hb with rfl | hb
        · exact m1
        · rw [List.mem_singleton.mp hb]
          exact m2
    · refine W.mono _ (fun fl hf => ?_) (fun _ z => z) hp
      obtain ⟨b, rfl, rfl⟩ := hf
      intro v H2 g f _ hv
      cases hv
      exact q H2
end
section
variable {X : Cx} {Ξ : Ctx} {H0 : Hp} {O : List Nat} {o : Expr} {pa : Env → W D}
def upS (a : Str) : Str := ⟨a.cps.map up1⟩
def upperW (a : Str) : W D := (W.want (a.length ≤ 1000 ∧ ∀ c ∈ a.cps.toList, c < 128)).bind fun _ => W.ret (.str (upS a))
end
end LP
namespace LP
open PySem PySem.Spec PyProof.Rows L2 PK
end LP
namespace LP
open PySem PySem.Spec PyProof.Rows L2 PK
def bLNames_1 (env : Env) : W Fl := ((((getW env 3).bind fun x => ((W.ret (.int 1)).bind negW).bind fun y => ixW x y).bind fun x => ((getW env 2).bind fun x => (((getW env 0).bind fun d => ((W.ret (.int 26)).bind fun d => (W.ret []).bind fun ds => W.ret (d :: ds)).bind fun ds => W.ret (d :: ds)).bind drawW).bind fun y => ixW x y).bind fun y => addW x y).bind fun d => putW env 3 (appW d))
def bLNames_2 (env : Env) : W Fl := (thenW (((getW env 4).bind fun x => (W.ret (.int 1)).bind fun y => addW x y).bind fun d => W.ret (.nx (env.set 4 (some d))))
  fun env => (thenW ((lcD (fun d env => W.ret (env.set 7 (some d))) (fun env => (W.ret true)) (fun env => ((getW env 2).bind fun x => (((getW env 0).bind fun d => ((W.ret (.int 26)).bind fun d => (W.ret []).bind fun ds => W.ret (d :: ds)).bind fun ds => W.ret (d :: ds)).bind drawW).bind fun y => ixW x y)) [7] (fun env => ((((((W.ret (.int 0)).bind fun d => ((W.ret (.int 0)).bind fun d => ((W.ret (.int 1)).bind fun d => ((W.ret (.int 7)).bind fun d => (W.ret []).bind fun ds => W.ret (d :: ds)).bind fun ds => W.ret (d :: ds)).bind fun ds => W.ret (d :: ds)).bind fun ds => W.ret (d :: ds)).bind lstW).bind fun x => (((getW env 0).bind fun d => ((W.ret (.int 4)).bind fun d => (W.ret []).bind fun ds => W.ret (d :: ds)).bind fun ds => W.ret (d :: ds)).bind drawW).bind fun y => ixW x y).bind fun d => (W.ret []).bind fun ds => W.ret (d :: ds)).bind range1W)) env).bind fun d => W.ret (.nx (env.set 6 (some d))))
  fun env => ((((getW env 2).bind fun x => ((getW env 4).bind fun x => (W.ret (.int 26)).bind fun y => modW x y).bind fun y => ixW x y).bind fun x => ((W.ret (.str "")).bind fun x => (asS x).bind fun a => (getW env 6).bind fun y => joinW a y).bind fun y => addW x y).bind fun d => putW env 3 (appW d))))
def bLNames_3 (env : Env) : W Fl := (((((getW env 3).bind fun x => ((W.ret []).bind lstW).bind fun y => neW x y).bind asB).bind fun k => W.ite k (((((((getW env 3).bind fun x => ((W.ret (.int 1)).bind negW).bind fun y => ixW x y).bind fun d => (W.ret []).bind fun ds => W.ret (d :: ds)).bind lenW).bind fun x => (W.ret (.int 8)).bind fun y => ltW x y).bind asB).bind fun k => W.ite k (((((getW env 0).bind fun d => ((W.ret (.int 3)).bind fun d => (W.ret []).bind fun ds => W.ret (d :: ds)).bind fun ds => W.ret (d :: ds)).bind drawW).bind fun x => (W.ret (.int 0)).bind fun y => eqW x y).bind asB) (W.ret false)) (W.ret false)).bind fun k => W.ite k (bLNames_1 env) (bLNames_2 env))
def bLNames (env : Env) : W Fl := (thenW ((W.ret (.str "abcdefghijklmnopqrstuvwxyz")).bind fun d => W.ret (.nx (env.set 2 (some d))))
  fun env => (thenW (((W.ret []).bind lstW).bind fun d => (W.want (3 < env.length)).bind fun _ => W.ret (.nx (env.set 3 (some d))))
  fun env => (thenW ((((getW env 0).bind fun d => ((W.ret (.int 26)).bind fun d => (W.ret []).bind fun ds => W.ret (d :: ds)).bind fun ds => W.ret (d :: ds)).bind drawW).bind fun d => W.ret (.nx (env.set 4 (some d))))
  fun env => (thenW ((((getW env 1).bind fun d => (W.ret []).bind fun ds => W.ret (d :: ds)).bind range1W).bind fun ds => forW (fun d env => W.ret (env.set 5 (some d))) (fun env => (bLNames_3 env)) ds env)
  fun env => ((getW env 3).bind fun d => W.ret (.rt d))))))
def fLNames : List D → W D := runB 2 8 bLNames
def bLMany (env : Env) : W Fl := (((((W.ret (.int 1)).bind fun d => (((W.ret (.int 1)).bind fun x => (((getW env 0).bind fun d => ((W.ret (.int 9)).bind fun d => (W.ret []).bind fun ds => W.ret (d :: ds)).bind fun ds => W.ret (d :: ds)).bind drawW).bind fun y => addW x y).bind fun d => ((((W.ret (.int 10)).bind fun x => (W.ret (.int 9)).bind fun y => powW x y).bind fun x => (((getW env 0).bind fun d => ((W.ret (.int 3)).bind fun d => (W.ret []).bind fun ds => W.ret (d :: ds)).bind fun ds => W.ret (d :: ds)).bind drawW).bind fun y => subW x y).bind fun d => (((W.ret (.int 1)).bind fun x => (((getW env 0).bind fun d => (((W.ret (.int 10)).bind fun x => (W.ret (.int 6)).bind fun y => powW x y).bind fun d => (W.ret []).bind fun ds => W.ret (d :: ds)).bind fun ds => W.ret (d :: ds)).bind drawW).bind fun y => addW x y).bind fun d => (W.ret []).bind fun ds => W.ret (d :: ds)).bind fun ds => W.ret (d :: ds)).bind fun ds => W.ret (d :: ds)).bind fun ds => W.ret (d :: ds)).bind lstW).bind fun x => (((getW env 0).bind fun d => ((W.ret (.int 4)).bind fun d => (W.ret []).bind fun ds => W.ret (d :: ds)).bind fun ds => W.ret (d :: ds)).bind drawW).bind fun y => ixW x y).bind fun d => W.ret (.rt d))
def fLMany : List D → W D := runB 1 1 bLMany
def bLWant (env : Env) : W Fl := (thenW (((getW env 1).bind fun x => (((getW env 0).bind fun d => ((((getW env 1).bind fun d => (W.ret []).bind fun ds => W.ret (d :: ds)).bind lenW).bind fun d => (W.ret []).bind fun ds => W.ret (d :: ds)).bind fun ds => W.ret (d :: ds)).bind drawW).bind fun y => ixW x y).bind fun d => W.ret (.nx (env.set 3 (some d))))
  fun env => (thenW ((((lcD (fun d env => W.ret (env.set 5 (some d))) (fun env => (((((getW env 0).bind fun d => ((W.ret (.int 2)).bind fun d => (W.ret []).bind fun ds => W.ret (d :: ds)).bind fun ds => W.ret (d :: ds)).bind drawW).bind fun x => (W.ret (.int 0)).bind fun y => eqW x y).bind asB)) (fun env => (getW env 5)) [5] (fun env => ((((getW env 2).bind fun d => (W.ret []).bind fun ds => W.ret (d :: ds)).bind sortedW).bind walkLW)) env).bind fun d => (W.ret []).bind fun ds => W.ret (d :: ds)).bind tupleW).bind fun d => W.ret (.nx (env.set 4 (some d))))
  fun env => ((((getW env 3).bind fun d => ((getW env 4).bind fun d => ((((getW env 0).bind fun d => (W.ret []).bind fun ds => W.ret (d :: ds)).bind fLMany).bind fun d => (W.ret []).bind fun ds => W.ret (d :: ds)).bind fun ds => W.ret (d :: ds)).bind fun ds => W.ret (d :: ds)).bind tupW).bind fun d => W.ret (.rt d))))
def fLWant : List D → W D := runB 3 6 bLWant
end LP
namespace LP
open PySem PySem.Spec PyProof.Rows L2 PK RZ
/-! ### by equations -/
namespace W
variable {α β : Type}
theorem want_bind {p : Prop} {f : Unit → W α} (h : p) : bind (want p) f = f () := by
  refine ext ?_
  funext Q E
  exact propext ⟨fun q => q.2, fun q => ⟨h, q⟩⟩
end W
theorem optW_some {α : Type} (x : α) : optW (some x) = W.ret x := rfl
theorem asB_bl (b : Bool) : asB (.bl b) = W.ret b := rfl
theorem asS_str (b : Str) : asS (.str b) = W.ret b := rfl
theorem small {n : Nat} (h : n ≤ 1000000) : n ≤ sizeLine := Nat.le_trans h (by decide)
theorem smallT {n : Nat} (h : n ≤ 1000000) : n < sizeLine := Nat.lt_of_le_of_lt h (by decide)
theorem eqW_sh {a b : D} (h1 : D.sh a) (h2 : D.sh b) : eqW a b = W.ret (.bl (D.eqv a b)) := by
  unfold eqW
  split
  · exact absurd h1.1 Bool.false_ne_true
  · exact W.want_bind ⟨h1, h2⟩
theorem neW_sh {a b : D} (h1 : D.sh a) (h2 : D.sh b) : neW a b = W.ret (.bl (!D.eqv a b)) := by
  unfold neW
  split
  · exact absurd h1.1 Bool.false_ne_true
  · exact W.want_bind ⟨h1, h2⟩
theorem sh_int (i : Int) : D.sh (.int i) := ⟨rfl, Nat.zero_le _⟩
theorem eqW_int (i j : Int) : eqW (.int i) (.int j) = W.ret (.bl (i == j)) := eqW_sh (sh_int i) (sh_int j)
theorem rp_ne (d e : D) : neW (rp d) (rp e) = W.ret (.bl (!decide (d.toP.shown = e.toP.shown))) := rfl
theorem rp_same (d : D) : neW (rp d) (rp d) = W.ret (.bl false) := by rw [rp_ne, decide_eq_true rfl]; rfl
theorem reprD_eq {d : D} (h : Sz 1900 64 sizeLine d) : reprD [d] = W.ret (rp d) := W.want_bind h
/-! ### comprehensions, by equations -/
/-! ### what may come out, by what is wanted -/
theorem lcW_wp {g : D → Env → W Env} {t : Env → W Bool} {el : Env → W D} {env : Env} {E : Ex → Prop} (P : Nat → List D → Prop) : ∀ {ds : List D} {k : Nat} {acc : List D} {Q : List D → Prop}, P k acc →
    (∀ i d acc, ds[i]? = some d → P (k + i) acc → (g d env).wp (fun env' => (t env').wp (fun b => match b with
      | true => (el env').wp (fun y => acc.length < sizeLine ∧ P (k + i + 1) (acc ++ [y])) fun _ => False
      | false => P (k + i + 1) acc) fun _ => False) fun _ => False) →
    (∀ acc, P (k + ds.length) acc → Q acc) → (lcW g t el env ds acc).wp Q E
  | [], k, acc, Q, h0, _, hq => hq acc h0
  | d :: ds, k, acc, Q, h0, hs, hq => by
    have h := hs 0 d acc rfl h0
    refine W.mono (g d env) (fun env' h2 => ?_) (fun _ z => z) h
    refine W.mono (t env') (fun b h3 => ?_) (fun _ z => z) h2
    have ih : ∀ acc, P (k + 1) acc → (lcW g t el env ds acc).wp Q E := fun acc h1 => lcW_wp P (k := k + 1) h1 (fun i e acc he hp => by
      have := hs (i + 1) e acc (by simpa using he) (by rw [show k + (i + 1) = k + 1 + i by omega]; exact hp)
      rw [show k + (i + 1) + 1 = k + 1 + i + 1 by omega] at this
      exact this) (fun acc hp => hq acc (by rw [List.length_cons, show k + (ds.length + 1) = k + 1 + ds.length by omega]; exact hp))
    cases b with
    | false => exact ih acc h3
    | true => exact W.mono (el env') (fun y h4 => ⟨h4.1, ih _ h4.2⟩) (fun _ z => z) h3
/-- a for: an invariant by how many were gone through -/
theorem forW_wp {g : D → Env → W Env} {p : Env → W Fl} {E : Ex → Prop} {Q : Fl → Prop} (P : Nat → Env → Prop) : ∀ {ds : List D} {k : Nat} {env : Env}, P k env →
    (∀ i d env, ds[i]? = some d → P (k + i) env → (g d env).wp (fun env1 => (p env1).wp (fun f => match f with
      | .nx e => P (k + i + 1) e
      | .ct e => P (k + i + 1) e
      | .bk e => Q (.nx e)
      | .rt d => Q (.rt d)) E) E) →
    (∀ env, P (k + ds.length) env → Q (.nx env)) → (forW g p ds env).wp Q E
  | [], k, env, h0, _, hq => hq env h0
  | d :: ds, k, env, h0, hs, hq => by
    have h := hs 0 d env rfl h0
    refine W.mono (g d env) (fun env1 h2 => ?_) (fun _ z => z) h
    refine W.mono (p env1) (fun f h3 => ?_) (fun _ z => z) h2
    have ih : ∀ e, P (k + 1) e → (forW g p ds e).wp Q E := fun e h1 => forW_wp P (k := k + 1) h1 (fun i d e' he hp => by
      have := hs (i + 1) d e' (by simpa using he) (by rw [show k + (i + 1) = k + 1 + i by omega]; exact hp)
      rw [show k + (i + 1) + 1 = k + 1 + i + 1 by omega] at this
      exact this) (fun e' hp => hq e' (by rw [List.length_cons, show k + (ds.length + 1) = k + 1 + ds.length by omega]; exact hp))
    cases f with
    | nx e => exact ih e h3
    | ct e => exact ih e h3
    | bk e => exact h3
    | rt d => exact h3
theorem forW_wp0 {g : D → Env → W Env} {p : Env → W Fl} {E : Ex → Prop} {Q : Fl → Prop} {ds : List D} {env : Env} (P : Nat → Env → Prop) (h0 : P 0 env)
    (hs : ∀ i d env, ds[i]? = some d → P i env → (g d env).wp (fun env1 => (p env1).wp (fun f => match f with
      | .nx e => P (i + 1) e
      | .ct e => P (i + 1) e
      | .bk e => Q (.nx e)
      | .rt d => Q (.rt d)) E) E)
    (hq : ∀ env, P ds.length env → Q (.nx env)) : (forW g p ds env).wp Q E := by
  refine forW_wp P (k := 0) h0 (fun i d e hd hp => ?_) (fun e hp => hq e ?_)
  · rw [Nat.zero_add] at hp ⊢
    exact hs i d e hd hp
  · rw [Nat.zero_add] at hp
    exact hp
/-- a draw -/
theorem draw_wp {m : Int} {Q : D → Prop} {E : Ex → Prop} (h0 : 0 < m) (h1 : m ≤ 1000000) (h : ∀ r : Int, 0 ≤ r → r < m → Q (.int r)) : (drawW [.tok 0, .int m]).wp Q E := ⟨⟨h0, h1⟩, fun r hr => h r hr.1 hr.2⟩
/-! ### surely -/
/-- m gives r -/
def Ret {α : Type} (m : W α) (r : α) : Prop := ∀ Q E, Q r → m.wp Q E
theorem Ret.go {α : Type} {m : W α} {r : α} {Q : α → Prop} {E : Ex → Prop} (h : Ret m r) (q : Q r) : m.wp Q E := h Q E q
theorem Ret.ret {α : Type} (r : α) : Ret (W.ret r) r := fun _ _ q => q
theorem Ret.bind {α β : Type} {m : W α} {f : α → W β} {a : α} {b : β} (h1 : Ret m a) (h2 : Ret (f a) b) : Ret (W.bind m f) b := fun Q E q => h1 _ E (h2 Q E q)
theorem lc_ret {g : D → Env → W Env} {t : Env → W Bool} {el : Env → W D} {vs : List Nat} {pi : Env → W (List D)} {env : Env} {ds : List D} (tb : D → Bool) (f : D → D) (hi : Ret (pi env) ds) (hl : ds.length ≤ sizeLine)
    (h : ∀ d ∈ ds, (g d (wipeE env vs)).wp (fun env' => (t env').wp (fun b => b = tb d ∧ (b = true → (el env').wp (fun y => y = f d) fun _ => False)) fun _ => False) fun _ => False) : Ret (lcD g t el vs pi env) (.lst ((ds.filter tb).map f)) := by
  intro Q E q
  refine hi _ E ?_
  refine lcW_wp (k := 0) (fun i acc => acc = ((ds.take i).filter tb).map f) rfl (fun i d acc hd hp => ?_) (fun acc hp => ?_)
  · rw [Nat.zero_add] at hp ⊢
    have hi : i < ds.length := (List.getElem?_eq_some_iff.mp hd).1
    refine W.mono _ (fun env' h2 => ?_) (fun _ z => z) (h d (List.mem_of_getElem? hd))
    refine W.mono _ (fun b h3 => ?_) (fun _ z => z) h2
    obtain ⟨rfl, h3⟩ := h3
    cases e : tb d with
    | false =>
      show acc = _
      rw [hp, take_snoc hd, List.filter_append, List.filter_cons_of_neg (by rw [e]; exact Bool.false_ne_true), List.filter_nil, List.append_nil]
    | true =>
      refine W.mono _ (fun y h4 => ⟨?_, ?_⟩) (fun _ z => z) (h3 e)
      · rw [hp, List.length_map]
        have := List.length_filter_le tb (ds.take i)
        rw [List.length_take] at this
        omega
      · rw [hp, h4, take_snoc hd, List.filter_append, List.filter_cons_of_pos e, List.map_append]
        rfl
  · rw [Nat.zero_add, List.take_length] at hp
    rw [hp]
    exact q
theorem lc_map {g : D → Env → W Env} {el : Env → W D} {vs : List Nat} {pi : Env → W (List D)} {env : Env} {ds : List D} (f : D → D) (hi : Ret (pi env) ds) (hl : ds.length ≤ sizeLine)
    (h : ∀ d ∈ ds, (g d (wipeE env vs)).wp (fun env' => (el env').wp (fun y => y = f d) fun _ => False) fun _ => False) : Ret (lcD g (fun _ => W.ret true) el vs pi env) (.lst (ds.map f)) := by
  have := lc_ret (t := fun _ => W.ret true) (fun _ => true) f hi hl fun d hd => W.mono _ (fun env' h2 => ⟨rfl, fun _ => h2⟩) (fun _ z => z) (h d hd)
  rw [List.filter_eq_self.mpr (fun _ _ => rfl)] at this
  exact this
/-! ### to go through what a body asks -/
section
variable {α β : Type}
theorem s_ite {k : Bool} {x y : W α} {Q : α → Prop} {E : Ex → Prop} : (W.ite k x y).wp Q E ↔ (k = true → x.wp Q E) ∧ (k = false → y.wp Q E) := by
  cases k
  · exact ⟨fun h => ⟨fun z => (nomatch z), fun _ => h⟩, fun h => h.2 rfl⟩
  · exact ⟨fun h => ⟨fun _ => h, fun z => (nomatch z)⟩, fun h => h.1 rfl⟩
theorem s_get0 {d : D} {l : Env} : getW (some d :: l) 0 = W.ret d := rfl
theorem s_get {a : Option D} {l : Env} {i : Nat} : getW (a :: l) (i + 1) = getW l i := rfl
theorem s_then {m : W Fl} {q : Env → W Fl} {Q : Fl → Prop} {E : Ex → Prop} : (thenW m q).wp Q E ↔ m.wp (fun f => (match f with | .nx e => q e | f => W.ret f : W Fl).wp Q E) E := Iff.rfl
theorem s_end {m : W Fl} {Q : D → Prop} {E : Ex → Prop} : (endW m).wp Q E ↔ m.wp (fun f => (match f with | .rt d => W.ret d | .nx _ => W.ret .non | _ => W.fail : W D).wp Q E) E := Iff.rfl
theorem s_run {np nN : Nat} {b : Env → W Fl} {ds : List D} {Q : D → Prop} {E : Ex → Prop} : (runB np nN b ds).wp Q E ↔ ds.length = np ∧ (endW (b (startE nN ds))).wp Q E := Iff.rfl
theorem s_calm {m : W α} {Q : α → Prop} {E : Ex → Prop} : (W.calm m).wp Q E ↔ m.wp Q fun _ => False := Iff.rfl
theorem s_fail {Q : α → Prop} {E : Ex → Prop} : (W.fail : W α).wp Q E ↔ False := Iff.rfl
theorem s_start1 {n : Nat} {a : D} : startE n [a] = some a :: List.replicate (n - 1) none := rfl
theorem s_start2 {n : Nat} {a b : D} : startE n [a, b] = some a :: some b :: List.replicate (n - 2) none := rfl
theorem s_start3 {n : Nat} {a b c : D} : startE n [a, b, c] = some a :: some b :: some c :: List.replicate (n - 3) none := rfl
theorem s_start4 {n : Nat} {a b c d : D} : startE n [a, b, c, d] = some a :: some b :: some c :: some d :: List.replicate (n - 4) none := rfl
theorem s_start5 {n : Nat} {a b c d e : D} : startE n [a, b, c, d, e] = some a :: some b :: some c :: some d :: some e :: List.replicate (n - 5) none := rfl
end
theorem isi_non (T : String) : isiW T .non = W.ret (.bl ("NoneType" == T || ("NoneType" == "bool" && T == "int"))) := rfl
theorem isi_bl (T : String) (b : Bool) : isiW T (.bl b) = W.ret (.bl ("bool" == T || ("bool" == "bool" && T == "int"))) := rfl
theorem isi_int (T : String) (b : Int) : isiW T (.int b) = W.ret (.bl ("int" == T || ("int" == "bool" && T == "int"))) := rfl
theorem isi_str (T : String) (b : Str) : isiW T (.str b) = W.ret (.bl ("str" == T || ("str" == "bool" && T == "int"))) := rfl
theorem isi_tup (T : String) (b : List D) : isiW T (.tup b) = W.ret (.bl ("tuple" == T || ("tuple" == "bool" && T == "int"))) := rfl
theorem isi_lst (T : String) (b : List D) : isiW T (.lst b) = W.ret (.bl ("list" == T || ("list" == "bool" && T == "int"))) := rfl
theorem lcD_go {g : D → Env → W Env} {t : Env → W Bool} {el : Env → W D} {vs : List Nat} {pi : Env → W (List D)} {env : Env} {E : Ex → Prop} {Q : D → Prop} (h : (pi env).wp (fun ds => (lcW g t el (wipeE env vs) ds []).wp (fun l => Q (.lst l)) E) E) : (lcD g t el vs pi env).wp Q E := h
/-- .. of any list: an invariant by how many -/
theorem lcW_go {g : D → Env → W Env} {el : Env → W D} {env : Env} {E : Ex → Prop} {Q : List D → Prop} {ds : List D} (P : Nat → List D → Prop) (h0 : P 0 []) (hs : ∀ i d acc, ds[i]? = some d → P i acc → (g d env).wp (fun env' => (el env').wp (fun y => acc.length < sizeLine ∧ P (i + 1) (acc ++ [y])) fun _ => False) fun _ => False)
    (hq : ∀ acc, P ds.length acc → Q acc) : (lcW g (fun _ => W.ret true) el env ds []).wp Q E := by
  refine lcW_wp (k := 0) P h0 (fun i d acc hd hp => ?_) (fun acc hp => hq acc ?_)
  · rw [Nat.zero_add] at hp ⊢
    exact hs i d acc hd hp
  · rw [Nat.zero_add] at hp
    exact hp
/-- .. with a test -/
theorem lcW_goT {g : D → Env → W Env} {t : Env → W Bool} {el : Env → W D} {env : Env} {E : Ex → Prop} {Q : List D → Prop} {ds : List D} (P : Nat → List D → Prop) (h0 : P 0 []) (hs : ∀ i d acc, ds[i]? = some d → P i acc → (g d env).wp (fun env' => (t env').wp (fun b => (b = true → (el env').wp (fun y => acc.length < sizeLine ∧ P (i + 1) (acc ++ [y])) fun _ => False) ∧ (b = false → P (i + 1) acc)) fun _ => False) fun _ => False)
    (hq : ∀ acc, P ds.length acc → Q acc) : (lcW g t el env ds []).wp Q E := by
  refine lcW_wp (k := 0) P h0 (fun i d acc hd hp => ?_) (fun acc hp => hq acc ?_)
  · rw [Nat.zero_add] at hp ⊢
    refine W.mono _ (fun env' h => W.mono _ (fun b h => ?_) (fun _ z => z) h) (fun _ z => z) (hs i d acc hd hp)
    cases b with
    | true => exact h.1 rfl
    | false => exact h.2 rfl
  · rw [Nat.zero_add] at hp
    exact hp
theorem Sz.i0 {m dp n : Nat} (h : 2 ≤ n) : Sz m dp n (.int 0) := Sz.int (by rw [show (0 : Int).natAbs.log2 = 0 by decide]; exact Nat.zero_le _) (by rw [show (0 : Int).natAbs.log2 = 0 by decide]; exact h)
theorem Sz.i1 {m dp n : Nat} (h : 2 ≤ n) : Sz m dp n (.int 1) := Sz.int (by rw [show (1 : Int).natAbs.log2 = 0 by decide]; exact Nat.zero_le _) (by rw [show (1 : Int).natAbs.log2 = 0 by decide]; exact h)
end LP
namespace LP
open PySem PySem.Spec PyProof.Rows L2 PK RZ
/-! ### a list and a list, owned -/
def catLW : D → D → W D
  | .lst a, .lst b => (W.want (a.length + b.length ≤ sizeLine)).bind fun _ => W.ret (.lst (a ++ b))
  | _, _ => W.fail
section
variable {X : Cx} {Ξ : Ctx} {H0 : Hp} {O : List Nat} {a b : Expr} {pos : Pos} {pa pb : Env → W D}
theorem ln_cat (ha : LB Ξ H0 O X a pa) (hb : LB Ξ H0 O X b pb) : PE X (.BinOp a .Add b pos) (liN Ξ H0 O fun env => (pa env).bind fun x => (pb env).bind fun y => catLW x y) :=
  wkE (pe_op op_cat ha hb) (by
    rintro σ H Q ⟨S, A, G, env, E, hA, rl, q⟩
    refine ⟨S, A, G, env, E, hA, rl, (pa env).mono (fun d1 k x H1 g1 r1 b1 => ?_) (fun _ z => z) q⟩
    refine ⟨S, A, G, env, E, hA, r1, (pb env).mono (fun d2 k y H2 g2 r2 b2 => ?_) (fun _ z => z) k⟩
    have b1 := b1.gr g2 r1.ffM
    cases d1 <;> cases d2 <;> try exact k.elim
    obtain ⟨c1, xs, rfl, t1, a1⟩ := b1.lstE
    obtain ⟨c2, ys, rfl, t2, a2⟩ := b2.lstE
    refine ⟨c1, c2, xs, ys, rfl, rfl, t1, t2, by rw [a1.len, a2.len]; exact k.1, fun p np => ?_⟩
    have s : Same H2 (upd H2 p (.lst (xs ++ ys))) := same_new (Same.refl H2) np
    have nf := ff_out r2.fi np
    have n0 : H p = none := by
      cases q : H p with
      | none => rfl
      | some o =>
        have := (g1.trans g2) p o nf q
        rw [np] at this
        cases this
    refine k.2 p _ ((g1.trans g2).trans (Gr.of s)) (FI_same r2.fi s) n0 ?_
    rw [upd_same]
    refine .lst ((a1.app a2).same fun b o e => ?_)
    obtain ⟨h1, h2⟩ := ms_some e
    exact ms_at (s _ _ h1) fun z => (List.mem_cons.mp z).elim (ne_of_none h1 np) h2)
end
end LP
namespace LP
open PySem PySem.Spec PyProof.Rows L2 PK RZ
/-! ### the least of a list -/
def rMinI (K : PySem.W.Frag) : List V → Hp → VK → Prop := fun vs H Q => ∃ (a : Addr) (xs : List V) (d : PyData) (ds : List PyData), vs = [.ref a] ∧ SqL K H a xs ∧ DpAll K H xs (d :: ds) ∧ PySem.W.AlikeAll (d :: ds) ∧ (∀ e ∈ d :: ds, e.depth ≤ 90) ∧
  ∀ (i : Nat) (x : V), xs[i]? = some x → (d :: ds)[i]? = some (PySem.W.minD d ds) → Q x H
theorem call_minI {X : Cx} {k : Nat} (hc : X.calm = true) (hr : Room k X.A) : CallR X (.builtin "min") (rMinI X.K) := by
  intro pins s σ H vs us Q I r h
  obtain ⟨a, xs, d, ds, rfl, hs, hd, ha, hdp, q⟩ := h
  obtain ⟨its, rv, hl, _⟩ := I.list hs
  rw [Vals.ref1 r]
  obtain ⟨as, hR⟩ := Dp.readsAll I _ _ _ hd rv
  have hu := hr.un
  have hdd := depthAll_le hdp
  refine PySem.W.min_list_data (vs := its.toArray) (I.ok.hd hc) hl.isList (by simpa using hR) ha (by omega) fun i v h' tk bs hv rd hk => ?_
  have hv' : its[i]? = some v := by simpa using hv
  obtain ⟨x, hx, rx⟩ : ∃ x, xs[i]? = some x ∧ RelV x v := vals_back rv hv'
  refine ⟨x, H, I.kept hk, rx, q i x hx ?_⟩
  obtain ⟨e, he, de⟩ := DpAll.getV hd hx
  obtain ⟨as2, re⟩ := Dp.reads (I.kept (t' := tk) hk) _ _ _ de rx
  obtain ⟨m1, _⟩ := minD_at ds d
  have mm : PySem.W.minD d ds ∈ d :: ds := by
    rcases m1 with z | z
    · rw [z]; exact List.mem_cons_self
    · exact List.mem_cons_of_mem _ z
  have ee := PySem.W.alike_unique _ _ _ _ _ (ha.1 e (List.mem_of_getElem? he) _ mm) re rd
  rw [he, ee]
/-- one that is the least -/
def minLW : List D → W D
  | [.lst (d :: l)] => (W.want (D.plains (d :: l) = true ∧ PySem.W.AlikeAll (D.toPs (d :: l)) ∧ ∀ e ∈ D.toPs (d :: l), e.depth ≤ 90)).bind fun _ =>
    (W.any fun x : D => x ∈ d :: l ∧ x.toP = PySem.W.minD d.toP (D.toPs l)).bind fun x => W.ret x
  | _ => W.fail
section
variable {X : Cx} {Ξ : Ctx} {H0 : Hp} {O : List Nat} {e : Expr} {ps : Env → W (List D)}
theorem min_ok : CallOk Ξ (rMinI Ξ.K) minLW := by
  intro M H xs ds Q E mu hf h q
  match ds, h, q with
  | [.lst (d :: l)], .cons h .nil, ⟨⟨pl, al, dp⟩, q⟩ =>
    have hd := h.full
    obtain ⟨b, ys, rfl, t, a⟩ := h.lstE
    obtain ⟨_, ys', e, t', a'⟩ := hd.lstE
    cases e
    rw [t] at t'
    cases t'
    refine ⟨b, ys, d.toP, D.toPs l, rfl, SqL.of t, a'.dp pl, al, dp, fun i x hx hm => ?_⟩
    obtain ⟨di, hdi, rx⟩ := a.getV hx
    refine q di ⟨List.mem_of_getElem? hdi, ?_⟩ x H (Same.refl H) rx
    have e1 : (D.toPs (d :: l))[i]? = some (PySem.W.minD d.toP (D.toPs l)) := hm
    rw [toPs_map, List.getElem?_map, hdi] at e1
    exact Option.some.inj e1
theorem le_minL {k : Nat} {p pos : Pos} (hc : X.calm = true) (hr : Room k X.A) (hK : X.K = Ξ.K) (hg : Gl X "min") (hm : X.mg "min" = none) (ha : LAB Ξ H0 O X [e] ps) (he : starEach [e] X.env = [(false, eval e X.env)] := by rfl) : LE Ξ H0 O X (.Call (.Name "min" p) [e] [] pos) fun env => (ps env).bind minLW :=
  le_callB (by rw [← hK]; exact call_minI hc hr : CallR X _ (rMinI Ξ.K)) min_ok hg hm (by decide +kernel) ha (by decide) (by decide) he rfl
end
end LP
namespace LP
open PySem PySem.Spec PyProof.Rows L2 PK RZ
/-! ### put into an owned list at a place; the last one out -/
section
variable {X : Cx} {Ξ : Ctx} {H0 : Hp} {O Ob : List Nat} {e : Expr} {es : List Expr} {ps : Env → W (List D)} {pos : Pos}
end
end LP
namespace LP
open PySem PySem.Spec PyProof.Rows L2 PK RZ
/-! ### a place of an owned list set; the last one taken out -/
section
variable {X : Cx} {Ξ : Ctx} {H0 : Hp} {O Ob : List Nat} {e ix : Expr} {pv' pi' : Env → W D} {pos : Pos}
end
end LP
namespace LP
open PySem PySem.Spec PyProof.Rows L2 PK RZ
/-! ### from a to b -/
section
variable {X : Cx} {Ξ : Ctx} {H0 : Hp} {O : List Nat} {tg : Expr}
end
end LP
namespace LP
open PySem PySem.Spec PyProof.Rows L2 PK RZ
/-! ### a list, with its places -/
section
variable {X : Cx} {Ξ : Ctx} {H0 : Hp} {O : List Nat} {e : Expr} {ps : Env → W (List D)}
end
end LP
namespace LP
open PySem PySem.Spec PyProof.Rows L2 PK RZ
/-! ### two clauses in one comprehension -/
section
variable {X : Cx} {Ξ : Ctx} {H0 : Hp} {O : List Nat}
end
end LP
namespace LP
open PySem PySem.Spec PyProof.Rows L2 PK RZ
end LP
/-! Heaps by value. -/
namespace LP
open PySem PySem.Spec PyProof.Rows L2 PK RZ
/-! ### rows, heaps as things -/
def rowT (r : PRow) : D := .tup [.str r.1, .str r.2.1, .int r.2.2]
def rowsT (L : List PRow) : D := .tup (L.map rowT)
def heapD (L : List PRow) : D := .obj 0 [rowsT L]
def rowOf : D → Option PRow
  | .tup [.str f, .str s, .int n] => some (f, s, n)
  | _ => none
def rowsOf1 : List D → Option (List PRow)
  | [] => some []
  | d :: l => (rowOf d).bind fun r => (rowsOf1 l).map fun L => r :: L
def rowsOf : D → Option (List PRow)
  | .tup l => rowsOf1 l
  | _ => none
def heapOf : D → Option (List PRow)
  | .obj 0 [d] => rowsOf d
  | _ => none
theorem rowOf_eq {d : D} {r : PRow} (h : rowOf d = some r) : d = rowT r := by
  unfold rowOf at h
  split at h
  · cases h
    rfl
  · cases h
theorem rowsOf1_eq : ∀ {l : List D} {L : List PRow}, rowsOf1 l = some L → l = L.map rowT
  | [], L, h => by
    cases h
    rfl
  | d :: l, L, h => by
    unfold rowsOf1 at h
    cases e : rowOf d with
    | none => rw [e] at h; cases h
    | some r =>
      rw [e] at h
      cases e2 : rowsOf1 l with
      | none => rw [e2] at h; cases h
      | some M =>
        rw [e2] at h
        cases h
        rw [rowOf_eq e, rowsOf1_eq e2]
        rfl
theorem rowsOf_eq {d : D} {L : List PRow} (h : rowsOf d = some L) : d = rowsT L := by
  unfold rowsOf at h
  split at h
  · rw [rowsOf1_eq h]
    rfl
  · cases h
theorem heapOf_eq {d : D} {L : List PRow} (h : heapOf d = some L) : d = heapD L := by
  unfold heapOf at h
  split at h
  · rw [rowsOf_eq h]
    rfl
  · cases h
theorem rowsOf1_map : ∀ L : List PRow, rowsOf1 (L.map rowT) = some L
  | [] => rfl
  | r :: L => by
    show (rowOf (rowT r)).bind (fun r => (rowsOf1 (L.map rowT)).map fun L => r :: L) = _
    rw [rowsOf1_map L]
    rfl
theorem rowsOf_T (L : List PRow) : rowsOf (rowsT L) = some L := rowsOf1_map L
theorem heapOf_D (L : List PRow) : heapOf (heapD L) = some L := rowsOf1_map L
theorem rowsT_toP (L : List PRow) : (rowsT L).toP = rowsD L := by
  show PyData.tuple (D.toPs (L.map rowT)) = PyData.tuple (L.map prowD)
  rw [toPs_map, List.map_map]
  rfl
theorem rowsT_plain (L : List PRow) : (rowsT L).plain = true := by
  show D.plains (L.map rowT) = true
  rw [plains_all, List.all_eq_true]
  intro d hd
  obtain ⟨r, _, rfl⟩ := List.mem_map.mp hd
  rfl
/-- texts that may stand -/
def RowS (L : List PRow) : Prop := ∀ r ∈ L, PyData.strOk r.1 = true ∧ PyData.strOk r.2.1 = true
theorem RowS.sub {L M : List PRow} (h : RowS L) (k : ∀ r ∈ M, ∃ q ∈ L, PK.pk r = PK.pk q) : RowS M := fun r hr => by
  obtain ⟨q, hq, e⟩ := k r hr
  have e1 : r.1 = q.1 := congrArg (fun k : PKey => k.1) e
  have e2 : r.2.1 = q.2.1 := congrArg (fun k : PKey => k.2) e
  rw [e1, e2]
  exact h q hq
theorem RowS.app {L M : List PRow} (h : RowS L) (k : RowS M) : RowS (L ++ M) := fun r hr => (List.mem_append.mp hr).elim (h r) (k r)
theorem sumR_keyIn {L : List PRow} {r : PRow} (h : r ∈ sumR L) : ∃ q ∈ L, PK.pk r = PK.pk q := by
  have : PK.pk r ∈ (sumR L).map PK.pk := List.mem_map.mpr ⟨r, h, rfl⟩
  rw [sumR_keys, mem_skeys] at this
  obtain ⟨q, hq, e⟩ := List.mem_map.mp this
  exact ⟨q, hq, e.symm⟩
theorem RowS.sum {L : List PRow} (h : RowS L) : RowS (sumR L) := h.sub fun _ hr => sumR_keyIn hr
theorem RowS.above {L M : List PRow} (h : RowS L) : RowS (aboveR L M) := h.sub fun r hr => by
  obtain ⟨q, hq, e, _⟩ := aboveR_mem hr
  exact ⟨q, hq, e⟩
section
variable {Ξ : Ctx} {H : Hp} {M : List Addr}
theorem Rp.rowE {v : V} {r : PRow} (h : Rp Ξ H v (rowT r)) : PyData.strOk r.1 = true ∧ PyData.strOk r.2.1 = true := by
  obtain ⟨b, xs, _, _, h2⟩ := h.tupE
  match xs, h2 with
  | _, .cons h1 (.cons h2 _) =>
    cases h1
    cases h2
    constructor <;> assumption
theorem RpAll.rowsE : ∀ {L : List PRow} {vs : List V}, RpAll Ξ H vs (L.map rowT) → RowS L
  | [], _, _ => fun _ h => (nomatch h)
  | r :: L, _, .cons h1 h2 => fun q hq => by
    rcases List.mem_cons.mp hq with rfl | hq
    · exact h1.rowE
    · exact RpAll.rowsE h2 q hq
theorem Rp.rowsE {v : V} {L : List PRow} (h : Rp Ξ H v (rowsT L)) : Dp Ξ.K H v (rowsD L) ∧ RowS L := by
  refine ⟨by rw [← rowsT_toP]; exact h.dp (rowsT_plain L), ?_⟩
  obtain ⟨b, xs, _, _, h2⟩ := h.tupE
  exact h2.rowsE
theorem rp_row {v : V} {r : PRow} (mu : Mu M H) (h : Dp Ξ.K H v (prowD r)) (h1 : PyData.strOk r.1 = true) (h2 : PyData.strOk r.2.1 = true) : Rp Ξ (ms M H) v (rowT r) := by
  obtain ⟨b, us, rfl, hb, du⟩ := Dp.tupE h
  refine .tup (sqT_mu hb mu) ?_
  cases du with
  | cons a1 du =>
    cases du with
    | cons a2 du =>
      cases du with
      | cons a3 du =>
        cases du
        cases a1
        cases a2
        cases a3
        exact .cons (.str _ h1) (.cons (.str _ h2) (.cons (.int _) .nil))
theorem rp_rowsL (mu : Mu M H) : ∀ {L : List PRow} {us : List V}, DpAll Ξ.K H us (L.map prowD) → RowS L → RpAll Ξ (ms M H) us (L.map rowT)
  | [], _, .nil, _ => .nil
  | r :: L, _, .cons h1 h2, k => .cons (rp_row mu h1 (k r List.mem_cons_self).1 (k r List.mem_cons_self).2) (rp_rowsL mu h2 fun q hq => k q (List.mem_cons_of_mem _ hq))
theorem rp_rows {v : V} {L : List PRow} (mu : Mu M H) (h : Dp Ξ.K H v (rowsD L)) (k : RowS L) : Rp Ξ (ms M H) v (rowsT L) := by
  obtain ⟨b, us, rfl, hb, du⟩ := Dp.tupE h
  exact .tup (sqT_mu hb mu) (rp_rowsL mu du k)
/-- the class of heaps is the first one -/
structure HSig (Γ : Sig) (C : Addr) : Prop where
  cl : Γ.cl 0 = some C
  fl : Γ.fl 0 = [("held" : Str)]
theorem Rp.heapE {C : Addr} (s : HSig Ξ.Γ C) {v : V} {L : List PRow} (h : Rp Ξ H v (heapD L)) : ∃ p, v = .ref p ∧ HeapAt Ξ.K C H p L ∧ RowS L := by
  cases h with
  | obj h1 h2 ha =>
    rename_i a C' dx xs
    have e : C' = C := by
      have := s.cl.symm.trans h2
      exact (Option.some.inj this).symm
    subst e
    cases ha with
    | cons a1 a2 =>
      cases a2
      obtain ⟨dv, rs⟩ := a1.rowsE
      obtain ⟨t, us, rfl, _, _⟩ := Dp.tupE dv
      refine ⟨a, rfl, ⟨dx, t, ?_, dv⟩, rs⟩
      rw [h1]
      have : Ξ.fl 0 = [("held" : Str)] := s.fl
      rw [this]
      rfl
theorem rp_heap {C : Addr} (s : HSig Ξ.Γ C) {p : Addr} {L : List PRow} (mu : Mu M H) (np : p ∉ M) (h : HeapAt Ξ.K C H p L) (k : RowS L) : Rp Ξ (ms M H) (.ref p) (heapD L) := by
  obtain ⟨dx, t, h1, h2⟩ := h
  refine .obj (C := C) (dx := dx) (xs := [.ref t]) ?_ s.cl (.cons (rp_rows mu h2 k) .nil)
  rw [ms_at h1 np]
  have : Ξ.fl 0 = [("held" : Str)] := s.fl
  rw [this]
  rfl
end
/-! ### what the methods tell -/
def rowsW : List D → W D
  | [h] => (optW (heapOf h)).bind fun L => (W.want (L.length ≤ 900)).bind fun _ => W.ret (rowsT L)
  | _ => W.fail
def plusW : List D → W D
  | [h, g] => (optW (heapOf h)).bind fun L => (optW (heapOf g)).bind fun M => (W.want (L.length + M.length ≤ 900)).bind fun _ => W.ret (heapD (sumR (L ++ M)))
  | _ => W.fail
def holdsW : List D → W D
  | [h, g] => (optW (heapOf h)).bind fun L => (optW (heapOf g)).bind fun M => (W.want (∃ (n : Nat) (b : Int), RowsOk n b L ∧ RowsOk n b M ∧ n ≤ 900)).bind fun _ => W.ret (.bl (decide (aboveR M L = [])))
  | _ => W.fail
def manyW : List D → W D
  | [h, .str f, .non] => (optW (heapOf h)).bind fun L => (W.want (L.length ≤ 900)).bind fun _ => W.ret (.int (manyR L f none))
  | [h, .str f, .str t] => (optW (heapOf h)).bind fun L => (W.want (L.length ≤ 900)).bind fun _ => W.ret (.int (manyR L f (some t)))
  | _ => W.fail
/-- the error that tells what lacks is the class 1 -/
def lessW : List D → W D
  | [h, g] => (optW (heapOf h)).bind fun L => (optW (heapOf g)).bind fun M => (W.want (∃ (n : Nat) (b : Int), RowsOk n b L ∧ RowsOk n b M ∧ n ≤ 900)).bind fun _ => (W.want (Rises (L.map fun r => pkD (PK.pk r)) ∧ Rises (M.map fun r => pkD (PK.pk r)))).bind fun _ =>
    W.ite (decide (aboveR M L = [])) (W.ret (heapD (aboveR L M))) (W.raise ⟨1, [heapD (aboveR M L)]⟩)
  | _ => W.fail
theorem fn_wk {P : Program} {w : World} {K : PySem.W.Frag} {mg : Str → Option Value} {base : Heap} {CX : CXT} {k : Nat} {f : Addr} {fd : FuncData} {ps : List Str} {sp sp' : Sp} (F : FnOk P w K mg base CX k f fd ps sp) (key : ∀ vs H Q E, sp' vs H Q E → sp vs H Q E) : FnOk P w K mg base CX k f fd ps sp' :=
  ⟨fun vs H Q E h => F.len vs H Q E (key vs H Q E h), fun A outer s H args us vs Q E hr e0 hb hv h => F.run A outer s H args us vs Q E hr e0 hb hv (key vs H Q E h)⟩
section
variable {Γ : Sig} {C : Addr}
theorem of_rows (s : HSig Γ C) : ∀ vs H Q E, liF Γ rowsW vs H Q E → spRows Γ.K C vs H Q E := by
  rintro vs H Q E ⟨fe, S, ds, EE, mu, hf, fi, hv, hE, q⟩
  match ds, hv, q with
  | [h], .cons h1 .nil, q =>
    obtain ⟨L, e, hL, q⟩ := optW_wp q
    rw [heapOf_eq e] at h1
    obtain ⟨p, rfl, hp, rs⟩ := h1.heapE (Ξ := ⟨Γ, fe⟩) s
    exact ⟨p, L, rfl, hp.same ms_sub, hL, fun v H' s' dv => q v H' (Gr.of s') (FI_same fi s') (rp_rows (mu.same s') dv rs)⟩
theorem of_plus (s : HSig Γ C) : ∀ vs H Q E, liF Γ plusW vs H Q E → spPlus Γ.K C vs H Q E := by
  rintro vs H Q E ⟨fe, S, ds, EE, mu, hf, fi, hv, hE, q⟩
  match ds, hv, q with
  | [h, g], .cons h1 (.cons h2 .nil), q =>
    obtain ⟨L, e, q⟩ := optW_wp q
    obtain ⟨M, e2, hL, q⟩ := optW_wp q
    rw [heapOf_eq e] at h1
    rw [heapOf_eq e2] at h2
    obtain ⟨p, rfl, hp, rs⟩ := h1.heapE (Ξ := ⟨Γ, fe⟩) s
    obtain ⟨p2, rfl, hp2, rs2⟩ := h2.heapE (Ξ := ⟨Γ, fe⟩) s
    exact ⟨p, p2, L, M, rfl, hp.same ms_sub, hp2.same ms_sub, hL, fun r H' nr s' hr => q _ H' (Gr.of s') (FI_same fi s') (rp_heap (Ξ := ⟨Γ, fe⟩) s (mu.same s') (mu.out nr) hr (rs.app rs2).sum)⟩
theorem of_holds (s : HSig Γ C) : ∀ vs H Q E, liF Γ holdsW vs H Q E → spHolds Γ.K C vs H Q E := by
  rintro vs H Q E ⟨fe, S, ds, EE, mu, hf, fi, hv, hE, q⟩
  match ds, hv, q with
  | [h, g], .cons h1 (.cons h2 .nil), q =>
    obtain ⟨L, e, q⟩ := optW_wp q
    obtain ⟨M, e2, ⟨n, b, okL, okM, hn⟩, q⟩ := optW_wp q
    rw [heapOf_eq e] at h1
    rw [heapOf_eq e2] at h2
    obtain ⟨p, rfl, hp, rs⟩ := h1.heapE (Ξ := ⟨Γ, fe⟩) s
    obtain ⟨p2, rfl, hp2, rs2⟩ := h2.heapE (Ξ := ⟨Γ, fe⟩) s
    exact ⟨p, p2, L, M, n, b, rfl, hp.same ms_sub, hp2.same ms_sub, okL, okM, hn, fun H' s' => q _ H' (Gr.of s') (FI_same fi s') (.bl _)⟩
theorem of_many (s : HSig Γ C) : ∀ vs H Q E, liF Γ manyW vs H Q E → spManyM Γ.K C vs H Q E := by
  rintro vs H Q E ⟨fe, S, ds, EE, mu, hf, fi, hv, hE, q⟩
  match ds, hv, q with
  | [h, .str f, .non], .cons h1 (.cons h2 (.cons h3 .nil)), q =>
    obtain ⟨L, e, hL, q⟩ := optW_wp q
    rw [heapOf_eq e] at h1
    obtain ⟨p, rfl, hp, rs⟩ := h1.heapE (Ξ := ⟨Γ, fe⟩) s
    cases h2
    cases h3
    exact ⟨p, f, _, none, L, rfl, hp.same ms_sub, hL, .inl ⟨rfl, rfl⟩, fun H' s' => q _ H' (Gr.of s') (FI_same fi s') (.int _)⟩
  | [h, .str f, .str t], .cons h1 (.cons h2 (.cons h3 .nil)), q =>
    obtain ⟨L, e, hL, q⟩ := optW_wp q
    rw [heapOf_eq e] at h1
    obtain ⟨p, rfl, hp, rs⟩ := h1.heapE (Ξ := ⟨Γ, fe⟩) s
    cases h2
    cases h3
    exact ⟨p, f, _, some t, L, rfl, hp.same ms_sub, hL, .inr ⟨t, rfl, rfl⟩, fun H' s' => q _ H' (Gr.of s') (FI_same fi s') (.int _)⟩
/-- .. the error's class, its field -/
structure ESig (Γ : Sig) (CN : Addr) : Prop where
  cl : Γ.cl 1 = some CN
  fl : Γ.fl 1 = [("lacking" : Str)]
theorem of_less {CN : Addr} (s : HSig Γ C) (z : ESig Γ CN) : ∀ vs H Q E, liF Γ lessW vs H Q E → spLess Γ.K C CN vs H Q E := by
  rintro vs H Q E ⟨fe, S, ds, EE, mu, hf, fi, hv, hE, q⟩
  match ds, hv, q with
  | [h, g], .cons h1 (.cons h2 .nil), q =>
    obtain ⟨L, e, q⟩ := optW_wp q
    obtain ⟨M, e2, ⟨n, b, okL, okM, hn⟩, ⟨rL, rM⟩, q⟩ := optW_wp q
    rw [heapOf_eq e] at h1
    rw [heapOf_eq e2] at h2
    obtain ⟨p, rfl, hp, rs⟩ := h1.heapE (Ξ := ⟨Γ, fe⟩) s
    obtain ⟨p2, rfl, hp2, rs2⟩ := h2.heapE (Ξ := ⟨Γ, fe⟩) s
    refine ⟨p, p2, L, M, n, b, rfl, hp.same ms_sub, hp2.same ms_sub, okL, okM, hn, rL, rM, fun e r H' nr s' hr => ?_, fun e r d H' nd nr s' hr hd => ?_⟩
    · rw [decide_eq_true e] at q
      exact q _ H' (Gr.of s') (FI_same fi s') (rp_heap (Ξ := ⟨Γ, fe⟩) s (mu.same s') (mu.out nr) hr rs.above)
    · rw [decide_eq_false e] at q
      refine hE _ q CN d H' (Gr.of s') (FI_same fi s') nd ⟨z.cl, [.ref r], ?_, .cons (rp_heap (Ξ := ⟨Γ, fe⟩) s (mu.same s') (mu.out nr) hr rs2.above) .nil⟩
      rw [hd]
      have : (Ctx.mk Γ fe).fl 1 = [("lacking" : Str)] := z.fl
      rw [this]
      rfl
end
end LP
/-! Own objects by value: methods called, made, compared, shown. -/
namespace LP
open PySem PySem.Spec PyProof.Rows L2 PK RZ
def objW (c : Nat) : D → W D
  | .obj c' l => (W.want (c' = c)).bind fun _ => W.ret (.obj c' l)
  | _ => W.fail
theorem objW_wp {c : Nat} {d : D} {Q : D → Prop} {E : Ex → Prop} (h : (objW c d).wp Q E) : ∃ l, d = .obj c l ∧ Q d := by
  cases d with
  | obj c' l =>
    obtain ⟨rfl, q⟩ := h
    exact ⟨l, rfl, q⟩
  | _ => exact h.elim
theorem objW_heap (L : List PRow) : objW 0 (heapD L) = W.ret (heapD L) := W.want_bind rfl
theorem lookup_zip {ks : List Str} {xs : List V} {m : Str} (h : m ∉ ks) : (ks.zip xs).lookup m = none := by
  induction ks generalizing xs with
  | nil => rfl
  | cons k ks ih =>
    cases xs with
    | nil => rfl
    | cons x xs =>
      rw [List.zip_cons_cons, List.lookup_cons, show (m == k) = false from beq_eq_false_iff_ne.mpr fun z => h (by rw [z]; exact List.mem_cons_self)]
      exact ih fun z => h (List.mem_cons_of_mem _ z)
/-- a method by value -/
structure MetV (Γ : Sig) (mg : Str → Option Value) (base : Heap) (k : Nat) (c : Nat) (C : Addr) (m : Str) (f : Addr) (fd : FuncData) (ps : List Str) (p : List D → W D) : Prop where
  ok : FnOk Γ.P Γ.w Γ.K mg base CX0 k f fd ps (liF Γ p)
  cls : Cls Γ.K C
  me : Meth Γ.K C m f
  b : Binds Γ.K fd ps []
  cl : Γ.cl c = some C
  nf : m ∉ Γ.fl c
section
variable {X : Cx} {Γ : Sig} {fe : Fd} {H0 : Hp} {O : List Nat} {k c : Nat} {C f : Addr} {fd : FuncData} {ps : List Str} {o e : Expr} {es : List Expr} {m : Str} {apos pos : Pos} {p : List D → W D} {po : Env → W D} {pa : Env → W (List D)} {mg : Str → Option Value} {base : Heap}
theorem meth_reads {ta : TA} {sp : Sp} {gV : List V → List V} {gD : List D → List D} (hsp : ∀ vs H Q, liF Γ p vs H Q (fun _ _ _ => True) → sp vs H Q fun _ _ _ => True) (hcl : Γ.cl c = some C) (hnf : m ∉ Γ.fl c)
    (hg : ∀ M H vs ds, RpAll ⟨Γ, fe⟩ (ms M H) vs ds → RpAll ⟨Γ, fe⟩ (ms M H) (gV vs) (gD ds)) (ha : ∀ σ H Q, liA ⟨Γ, fe⟩ H0 O pa σ H Q → ta σ H Q) :
    ∀ σ H Q, liE ⟨Γ, fe⟩ H0 O (fun env => (po env).bind fun d => (objW c d).bind fun d => (pa env).bind fun ds => p (gD (d :: ds))) σ H Q →
      liE ⟨Γ, fe⟩ H0 O po σ H fun x H1 => ∃ a dx fs, x = .ref a ∧ H1 a = some (.ins C dx fs) ∧ fs.lookup m = none ∧ ta σ H1 fun vs H2 => sp (gV (x :: vs)) H2 Q fun _ _ _ => True := by
  rintro σ H Q ⟨S, A, G, env, E, hA, r, q⟩
  refine ⟨S, A, G, env, E, hA, r, (po env).mono (fun d k x H1 g1 r1 hx => ?_) (fun _ z => z) q⟩
  obtain ⟨l, rfl, k⟩ := objW_wp k
  have hx0 := hx
  cases hx with
  | obj h1 h2 hl =>
    rename_i a C' dx xs
    have eC : C' = C := by
      have := hcl.symm.trans h2
      exact (Option.some.inj this).symm
    subst eC
    refine ⟨a, dx, _, rfl, ms_sub _ _ h1, lookup_zip hnf, ha σ H1 _ ⟨S, A, G, env, E, hA, r1, (pa env).mono (fun ds k2 vs H2 g2 r2 hv => ?_) (fun _ z => z) k⟩⟩
    refine hsp _ _ _ ⟨fe, S ++ A.map (·.2), gD (.obj c l :: ds), E, r2.muA, r2.ffM, r2.fi, hg _ _ _ _ (.cons (hx0.same (g2.ms r1.ffM)) hv), fun _ _ _ _ _ _ _ _ _ => trivial, (p _).mono (fun d k v H3 g3 f3 hv3 => ?_) (fun _ z => z) k2⟩
    exact k v H3 ((g1.trans g2).trans g3) (r2.grow g3 f3) hv3
theorem le_meth {pl : Sem Bool} (M : MetV Γ mg base k c C m f fd ps p) (hP : X.prog = Γ.P) (hw : X.w = Γ.w) (hK : X.K = Γ.K) (hmg : X.mg = mg) (hbs : X.base = base) (hr : Room k X.A) (ho : LE ⟨Γ, fe⟩ H0 O X o po) (ha : LA ⟨Γ, fe⟩ H0 O X (e :: es) pa)
    (hst : starEach (e :: es) X.env = (false, eval e X.env) :: starEach es X.env := by rfl) (hpl : (backTo pos (starEach es X.env)).any (·.1) = false := by rfl)
    (ht : eval (.Call (.Attribute o m apos) (e :: es) [] pos) X.env = viaMeth X.env o m pl apos pos (e :: es) [] := by rfl) :
    LE ⟨Γ, fe⟩ H0 O X (.Call (.Attribute o m apos) (e :: es) [] pos) fun env => (po env).bind fun d => (objW c d).bind fun d => (pa env).bind fun ds => p (d :: ds) :=
  wkE (pe_meth (pl := pl) (E := fun _ _ _ => True) ho (by rw [hK]; exact M.cls) (by rw [hK]; exact M.me) (by rw [hP, hw, hK, hmg, hbs]; exact M.ok) hr (by rw [hK]; exact M.b) .nil pass0 ha hst hpl ht)
    (meth_reads (gV := fun vs => vs ++ []) (gD := fun ds => ds) (fun _ _ _ h => h) M.cl M.nf (fun _ _ vs ds h => by rw [List.append_nil]; exact h) fun _ _ _ h => h)
theorem le_meth0 {pl : Sem Bool} (M : MetV Γ mg base k c C m f fd ps p) (hP : X.prog = Γ.P) (hw : X.w = Γ.w) (hK : X.K = Γ.K) (hmg : X.mg = mg) (hbs : X.base = base) (hr : Room k X.A) (ho : LE ⟨Γ, fe⟩ H0 O X o po)
    (ht : eval (.Call (.Attribute o m apos) [] [] pos) X.env = viaMeth X.env o m pl apos pos [] [] := by rfl) :
    LE ⟨Γ, fe⟩ H0 O X (.Call (.Attribute o m apos) [] [] pos) fun env => (po env).bind fun d => (objW c d).bind fun d => (W.ret []).bind fun ds => p (d :: ds) :=
  wkE (pe_meth0 (pl := pl) (E := fun _ _ _ => True) ho (by rw [hK]; exact M.cls) (by rw [hK]; exact M.me) (by rw [hP, hw, hK, hmg, hbs]; exact M.ok) hr (by rw [hK]; exact M.b) .nil pass0 ht)
    (meth_reads (gV := fun vs => vs ++ []) (gD := fun ds => ds) (pa := fun _ => W.ret []) (fun _ _ _ h => h) M.cl M.nf (fun _ _ vs ds h => by rw [List.append_nil]; exact h) fun σ H Q ⟨S, A, G, env, E, hA, r, z⟩ => z [] H (Gr.refl H) r .nil)
/-- a method with defaults: n are handed in (the object among them), the rest are none -/
structure MetN (Γ : Sig) (mg : Str → Option Value) (base : Heap) (k : Nat) (c : Nat) (C : Addr) (m : Str) (f : Addr) (fd : FuncData) (ps : List Str) (n : Nat) (gV : List V → List V) (p : List D → W D) : Prop where
  ok : FnOk Γ.P Γ.w Γ.K mg base CX0 k f fd ps (liF Γ p)
  cls : Cls Γ.K C
  me : Meth Γ.K C m f
  b : KB Γ.K fd ps n [] (fun vs _ => gV vs)
  cl : Γ.cl c = some C
  nf : m ∉ Γ.fl c
def noneV (j : Nat) (ds : List V) : List V := ds ++ List.replicate j .non
/-! ### made -/
def rowsArg : D → Option (List PRow)
  | .non => some []
  | d => rowsOf d
def heapW (d : D) : W D := (optW (rowsArg d)).bind fun L => (W.want (L.length ≤ 900)).bind fun _ => W.ret (heapD (sumR L))
theorem heapW_rows (L : List PRow) (h : L.length ≤ 900) : heapW (rowsT L) = W.ret (heapD (sumR L)) := by
  show (optW (rowsOf (rowsT L))).bind _ = _
  rw [rowsOf_T, optW_some, W.ret_bind]
  exact W.want_bind h
theorem heap_mk (s : HSig Γ C) {M : List Addr} {H : Hp} {x : V} {d : D} {Q : VK} {E : Ex → Prop} (mu : Mu M H) (hx : Rp ⟨Γ, fe⟩ (ms M H) x d) (q : (heapW d).wp (fun d => ∀ v H', Same H H' → Rp ⟨Γ, fe⟩ (ms M H') v d → Q v H') E) : mkHeap Γ.K C x H Q := by
  have key : ∀ L, ((x = .non ∧ L = []) ∨ Rp ⟨Γ, fe⟩ (ms M H) x (rowsT L)) → L.length ≤ 900 → (∀ v H', Same H H' → Rp ⟨Γ, fe⟩ (ms M H') v (heapD (sumR L)) → Q v H') → mkHeap Γ.K C x H Q := fun L h hL q => by
    have rs : RowS L := by
      rcases h with ⟨_, rfl⟩ | h
      · exact fun _ h => (nomatch h)
      · exact h.rowsE.2
    refine ⟨L, h.imp id fun h => Dp.same ms_sub h.rowsE.1, hL, fun p H' np s' hp => q _ H' s' (rp_heap (Ξ := ⟨Γ, fe⟩) s (mu.same s') (mu.out np) hp rs.sum)⟩
  obtain ⟨L, e, hL, q⟩ := optW_wp q
  by_cases z : d = .non
  · subst z
    cases hx
    cases e
    exact key [] (.inl ⟨rfl, rfl⟩) hL q
  · have e : rowsOf d = some L := by
      cases d with
      | non => exact absurd rfl z
      | _ => exact e
    rw [rowsOf_eq e] at hx
    exact key L (.inr hx) hL q
variable {p0 : Pos} {pe : Env → W D} {kI : Nat} {fI : Addr} {fdI : FuncData}
theorem le_heap1 (s : HSig Γ C) (M : HMk Γ.P Γ.w Γ.K mg base kI C fI fdI) (hP : X.prog = Γ.P) (hw : X.w = Γ.w) (hK : X.K = Γ.K) (hmg : X.mg = mg) (hbs : X.base = base) (hr : Room (kI + 1) X.A) (hg : Gl X "Heap") (ha : LE ⟨Γ, fe⟩ H0 O X e pe)
    (he : starEach [e] X.env = (false, eval e X.env) :: starEach [] X.env := by rfl) (hpl : (backTo pos (starEach [] X.env)).any (·.1) = false := by rfl) :
    LE ⟨Γ, fe⟩ H0 O X (.Call (.Name "Heap" p0) [e] [] pos) fun env => (pe env).bind heapW := by
  refine wkE (pe_heap1 (C := C) (by rw [hP, hw, hK, hmg, hbs]; exact M) hr hg ha he hpl) fun σ H Q ⟨S, A, G, env, E, hA, r, q⟩ => ?_
  rw [hK]
  refine ⟨S, A, G, env, E, hA, r, (pe env).mono (fun d k x H1 g1 r1 hx => ?_) (fun _ z => z) q⟩
  exact heap_mk s r1.muA hx ((heapW d).mono (fun d k v H' s' hv => k v H' (g1.trans (Gr.of s')) (r1.same s') hv) (fun _ z => z) k)
/-! ### == of heaps, len -/
variable {a b : Expr} {pb : Env → W D} {kq : Nat} {fq : Addr} {fdq : FuncData}
/-! ### str of an own object -/
structure StrV (Γ : Sig) (mg : Str → Option Value) (base : Heap) (k : Nat) (c : Nat) (C f : Addr) (fd : FuncData) (p : List D → W D) : Prop where
  ok : FnOk Γ.P Γ.w Γ.K mg base CX0 k f fd ["self"] (liF Γ p)
  fi : PySem.W.findIn Γ.K (.ref C) "__str__" = some (some (.ref f))
  fn : PySem.W.isFn Γ.K (.ref f) = true
  b : Binds Γ.K fd ["self"] []
  cl : Γ.cl c = some C
/-! ### a field read -/
end
end LP
/-! Texts with things in them; a heap taken out of another, or what lacks. -/
namespace LP
open PySem PySem.Spec PyProof.Rows L2 PK RZ
/-! ### f'..' -/
section
variable {X : Cx} {Ξ : Ctx} {H0 : Hp} {O : List Nat} {e : Expr} {es : List Expr} {pos : Pos} {pa : Env → W D} {ps : List (Env → W D)}
inductive LJ (Ξ : Ctx) (H0 : Hp) (O : List Nat) (X : Cx) : List Expr → List (Env → W D) → Prop
  | nil : LJ Ξ H0 O X [] []
  | cons {e : Expr} {es : List Expr} {p : Env → W D} {ps : List (Env → W D)} : LE Ξ H0 O X e p → LJ Ξ H0 O X es ps → LJ Ξ H0 O X (e :: es) (p :: ps)
end
/-! ### a name without a thing may be set, and set free -/
theorem Rel.setN {Ξ : Ctx} {H0 H : Hp} {S : List Addr} {A : List (Nat × Addr)} {G : List (V × D)} {σ : L2.St} {env : Env} (r : Rel Ξ H0 S A G σ H env) {i : Nat} (h : env[i]? = some none) (y : Option V) : Rel Ξ H0 S A G (σ.set i y) H env := by
  have ne : ∀ {j : Nat} {d : D}, env[j]? = some (some d) → i ≠ j := fun hj z => by
    rw [← z, h] at hj
    cases hj
  refine ⟨by rw [List.length_set]; exact r.len, fun j d hj n => ?_, fun j a hj => ?_, r.old, r.nd, r.ndk, r.gh, r.mu, r.fi, r.ffs, r.gr⟩
  · rw [List.getElem?_set_ne (ne hj)]
    exact r.fr j d hj n
  · obtain ⟨d, h1, h2, h3⟩ := r.ow j a hj
    refine ⟨d, h1, ?_, h3⟩
    rw [List.getElem?_set_ne (ne h1)]
    exact h2
/-! ### try: x = o.less(e) / except .. as n: x = n.lacking -/
structure LessV (Γ : Sig) (mg : Str → Option Value) (base : Heap) (k : Nat) (C CN f : Addr) (fd : FuncData) : Prop where
  ok : FnOk Γ.P Γ.w Γ.K mg base (L2.CX Γ.P Γ.w) k f fd ["self", "other"] (liF Γ lessW)
  cls : Cls Γ.K C
  me : Meth Γ.K C "less" f
  b : Binds Γ.K fd ["self", "other"] []
  s : HSig Γ C
  z : ESig Γ CN
/-- an error's class, as it is caught by x -/
structure ErrV (K : PySem.W.Frag) (mg : Str → Option Value) (CN : Addr) (x : Str) (CF : Addr) : Prop where
  g : mg x = some (.ref CF)
  te : PySem.W.exmOne K (.ref CN) (.ref CF) = some true
  xf : XfC K CN
  no : PySem.W.findIn K (.ref CN) "lacking" = some none
def lackX : Ex → W D
  | ⟨1, [h]⟩ => W.ret h
  | _ => W.fail
section
variable {X : Cx} {Γ : Sig} {fe : Fd} {H0 : Hp} {O Ob : List Nat} {k i j : Nat} {C CN CF f : Addr} {fd : FuncData} {o e : Expr} {po pe : Env → W D} {mg : Str → Option Value} {base : Heap} {x n cn : Str} {p1 p2 p3 p4 p5 apos cpos spos np pos pos' : Pos}
end
end LP
namespace LP
open PySem PySem.Spec PyProof.Rows L2 PK RZ
section
variable {X : Cx} {Ξ : Ctx} {H0 : Hp} {O Ob : List Nat} {b : Expr} {pos : Pos} {pb : Env → W D}
/-- x, y = [], e: x is owned -/
theorem ls_parN {i j : Nat} {x y : Str} {px py pt lp : Pos} {kt k2 pt2} (hc : X.calm = true) (hN : X.N.Nodup) (hi : X.N[i]? = some x) (hj : X.N[j]? = some y) (hij : i ≠ j) (hx : X.env.scope.names.lookup x = some .local) (hy : X.env.scope.names.lookup y = some .local)
    (hb : LE Ξ H0 O X b pb) (hw : swappedStores [.Tuple [.Name x px, .Name y py] kt pt] (.Tuple [.List [] lp, b] k2 pt2) X.env = pure (some [x, y])) (hiO : i ∉ O) (hjO : j ∉ O)
    (hs : swapsWithSole [.Tuple [.Name x px, .Name y py] kt pt] (.Tuple [.List [] lp, b] k2 pt2) pos.line X.env = pure false := by rfl)
    (hst : starEach [.List [] lp, b] X.env = (false, eval (.List [] lp) X.env) :: starEach [b] X.env := by rfl) (hst2 : starEach [b] X.env = (false, eval b X.env) :: starEach [] X.env := by rfl) :
    LS Ξ H0 O (i :: O) Ob X (.Assign [.Tuple [.Name x px, .Name y py] kt pt] (.Tuple [.List [] lp, b] k2 pt2) pos) fun env => (pb env).bind fun d => (W.want (i < env.length)).bind fun _ => W.ret (.nx ((env.set i (some (.lst []))).set j (some d))) := by
  refine wkS (ps_par hc hN hi hj hij hx hy (pa_cons (pe_lst pa_nil) (pa_cons hb pa_nil hst2) hst) hw hs) fun De σ H ⟨S, A, G, env, E, hA, r, k⟩ => ?_
  refine ⟨Nat.zero_le _, fun l nl => ?_⟩
  have r1 := r.mask nl (o := .lst []) trivial
  refine ⟨l :: S, A, G, env, E, hA, r1, (pb env).mono (fun d k u H2 g2 r2 hu => ?_) (fun _ z => z) k⟩
  have n : ∀ {i : Nat}, i ∉ O → ∀ a, (i, a) ∉ A := fun h a ha => h (by rw [← hA]; exact List.mem_map.mpr ⟨_, ha, rfl⟩)
  have nf := ff_out r.fi nl
  have el : H2 l = some (.lst []) := g2 l _ nf upd_same
  have g : Gr Ξ H H2 := Gr.trans (Gr.of (same_new (Same.refl H) nl)) g2
  have R := r.own (d := .lst []) (n hiO) k.1 nl g r2.fi (by rw [el]; exact .lst .nil)
  refine ⟨_, _, rfl, k.2 _ _ H2 (by rw [List.map_cons, hA]) (R.set (fun a ha => ?_) (hu.same (ms_mono fun b hb => ?_)))⟩
  · rcases List.mem_cons.mp ha with e | ha
    · cases e
      exact hij rfl
    · exact n hjO a ha
  · rw [List.map_cons] at hb
    rcases List.mem_append.mp hb with hb | hb
    · exact List.mem_append_left _ (List.mem_cons_of_mem _ hb)
    · rcases List.mem_cons.mp hb with hb | hb
      · rw [hb]
        exact List.mem_append_left _ List.mem_cons_self
      · exact List.mem_append_right _ hb
end
end LP
namespace LP
open PySem PySem.Spec PyProof.Rows L2 PK LP
def bLRows_1 (env : Env) : W Fl := (thenW (((getW env 1).bind fun x => (((getW env 0).bind fun d => ((((getW env 1).bind fun d => (W.ret []).bind fun ds => W.ret (d :: ds)).bind lenW).bind fun d => (W.ret []).bind fun ds => W.ret (d :: ds)).bind fun ds => W.ret (d :: ds)).bind drawW).bind fun y => ixW x y).bind fun d => W.ret (.nx (env.set 6 (some d))))
  fun env => (thenW (((getW env 2).bind fun x => (((getW env 0).bind fun d => ((((getW env 2).bind fun d => (W.ret []).bind fun ds => W.ret (d :: ds)).bind lenW).bind fun d => (W.ret []).bind fun ds => W.ret (d :: ds)).bind fun ds => W.ret (d :: ds)).bind drawW).bind fun y => ixW x y).bind fun d => W.ret (.nx (env.set 7 (some d))))
  fun env => ((((getW env 6).bind fun d => ((getW env 7).bind fun d => ((((getW env 0).bind fun d => (W.ret []).bind fun ds => W.ret (d :: ds)).bind fLMany).bind fun d => (W.ret []).bind fun ds => W.ret (d :: ds)).bind fun ds => W.ret (d :: ds)).bind fun ds => W.ret (d :: ds)).bind tupW).bind fun d => putW env 4 (appW d))))
def bLRows (env : Env) : W Fl := (thenW (((W.ret []).bind lstW).bind fun d => (W.want (4 < env.length)).bind fun _ => W.ret (.nx (env.set 4 (some d))))
  fun env => (thenW ((((((getW env 0).bind fun d => (((getW env 3).bind fun x => (W.ret (.int 1)).bind fun y => addW x y).bind fun d => (W.ret []).bind fun ds => W.ret (d :: ds)).bind fun ds => W.ret (d :: ds)).bind drawW).bind fun d => (W.ret []).bind fun ds => W.ret (d :: ds)).bind range1W).bind fun ds => forW (fun d env => W.ret (env.set 5 (some d))) (fun env => (bLRows_1 env)) ds env)
  fun env => ((((getW env 4).bind fun d => (W.ret []).bind fun ds => W.ret (d :: ds)).bind tupleW).bind fun d => W.ret (.rt d))))
def fLRows : List D → W D := runB 4 8 bLRows
def bSummed_1 (env : Env) : W Fl := (((getW env 4).bind fun x => (((((lcD (fun d env => W.ret (env.set 3 (some d))) (fun env => ((((getW env 3).bind fun d => (W.ret none).bind fun l => ((W.ret (.int 2)).bind partW).bind fun u => slW d l u).bind fun x => (getW env 4).bind fun y => eqW x y).bind asB)) (fun env => ((getW env 3).bind fun x => (W.ret (.int 2)).bind fun y => ixW x y)) [3] (fun env => ((getW env 0).bind walkTW)) env).bind fun d => (W.ret []).bind fun ds => W.ret (d :: ds)).bind sumW).bind fun d => (W.ret []).bind fun ds => W.ret (d :: ds)).bind tupW).bind fun y => addW x y).bind fun d => putW env 1 (appW d))
def bSummed_2 (env : Env) : W Fl := (thenW ((lcD (fun d env => W.ret (env.set 5 (some d))) (fun env => (((getW env 5).bind fun x => (getW env 4).bind fun y => neW x y).bind asB)) (fun env => (getW env 5)) [5] (fun env => ((getW env 2).bind walkLW)) env).bind fun d => W.ret (.nx (env.set 2 (some d))))
  fun env => (bSummed_1 env))
def bSummed_3 (env : Env) : W Fl := (thenW ((((getW env 2).bind fun d => (W.ret []).bind fun ds => W.ret (d :: ds)).bind minLW).bind fun d => W.ret (.nx (env.set 4 (some d))))
  fun env => (bSummed_2 env))
def bSummed_4 (env : Env) : W Fl := (thenW (whileW (fun env => (((getW env 2).bind fun x => ((W.ret []).bind lstW).bind fun y => neW x y).bind asB)) (fun env => (bSummed_3 env)) env)
  fun env => ((((getW env 1).bind fun d => (W.ret []).bind fun ds => W.ret (d :: ds)).bind tupleW).bind fun d => W.ret (.rt d)))
def bSummed (env : Env) : W Fl := (thenW ((lcD (fun d env => W.ret (env.set 3 (some d))) (fun env => (W.ret true)) (fun env => ((getW env 3).bind fun d => (W.ret none).bind fun l => ((W.ret (.int 2)).bind partW).bind fun u => slW d l u)) [3] (fun env => ((getW env 0).bind walkTW)) env).bind fun d => (W.want (1 < env.length)).bind fun _ => W.ret (.nx ((env.set 1 (some (.lst []))).set 2 (some d))))
  fun env => (bSummed_4 env))
def fSummed : List D → W D := runB 1 6 bSummed
end LP
/-! len of a set of texts. -/
namespace LP
open PySem PySem.Spec PyProof.Rows L2 PK RZ
section
variable {X : Cx} {Ξ : Ctx} {H0 : Hp} {O : List Nat} {e : Expr} {ps : Env → W (List D)}
end
end LP
namespace LP
open PySem PySem.Spec PyProof.Rows L2 PK RZ
/-- the classes: heaps, the error -/
def heapSig (P : Program) (w : World) (K : PySem.W.Frag) (C CN : Addr) : Sig := isFeedSig P w K (fun n => match n with | 0 => some C | 1 => some CN | _ => none) (fun n => match n with | 0 => [("held" : Str)] | 1 => [("lacking" : Str)] | _ => [])
end LP
/-! Dicts of texts, sets made by a comprehension, by value. -/
namespace LP
open PySem PySem.Spec PyProof.Rows L2 PK RZ
/-! ### dicts of texts -/
section
variable {X : Cx} {Ξ : Ctx} {H0 : Hp} {O : List Nat}
variable {elt kx tg iter : Expr} {ifs : List Expr} {scope : Scope} {own : List (Str × Nat)} {pi : Env → W (List D)} {gW : D → Env → W Env} {tW : Env → W Bool} {kW eW : Env → W D} {pos : Pos}
/-! ### d.get(k, x) -/
end
end LP
/-! A set of texts made by a comprehension; calls by names and with defaults; != of heaps. -/
namespace LP
open PySem PySem.Spec PyProof.Rows L2 PK RZ
section
variable {X : Cx} {Ξ : Ctx} {H0 : Hp} {O : List Nat}
variable {elt kx tg iter : Expr} {scope : Scope} {own : List (Str × Nat)} {pi : Env → W (List D)} {gW : D → Env → W Env} {eW : Env → W D} {pos : Pos}
end
/-! ### calls by names, with defaults that are none -/
def fillV (a b : Nat) (vs zs : List V) : List V := vs ++ (List.replicate a .non ++ (zs ++ List.replicate b .non))
structure CalN (Γ : Sig) (mg : Str → Option Value) (base : Heap) (k : Nat) (x : Str) (f : Addr) (fd : FuncData) (ps : List Str) (n : Nat) (ks : List Str) (a b : Nat) (p : List D → W D) : Prop where
  ok : FnOk Γ.P Γ.w Γ.K mg base CX0 k f fd ps (liF Γ p)
  g : mg x = some (.ref f)
  kp : PySem.W.keepIn Γ.K (.ref f) = true
  b : KB Γ.K fd ps n ks (fillV a b)
section
variable {X : Cx} {Γ : Sig} {fe : Fd} {H0 : Hp} {O : List Nat} {k n a b : Nat} {f : Addr} {fd : FuncData} {ps ks : List Str} {e : Expr} {es : List Expr} {kws : List Keyword} {x : Str} {pp pos kpos : Pos} {p : List D → W D} {pa pk : Env → W (List D)} {pe : Env → W D} {mg : Str → Option Value} {base : Heap} {nm : Option Str}
/-! ### != of heaps -/
variable {C : Addr} {l rr : Expr} {po pb : Env → W D} {kq : Nat} {fq : Addr} {fdq : FuncData}
end
end LP
namespace LP
open PySem PySem.Spec PyProof.Rows L2 PK RZ
section
variable {X : Cx} {Ξ : Ctx} {H0 : Hp} {O : List Nat} {e : Expr} {ps : Env → W (List D)}
end
end LP
namespace LP
open PySem PySem.Spec PyProof.Rows L2 PK RZ
section
variable {Γ : Sig} {mg : Str → Option Value} {base : Heap}
end
end LP
/-! A tuple gone through while an error is being handled. -/
namespace PK
open PySem PySem.Spec PyProof.Rows L2 HotX L2H
section
variable {prog : Program} {w : World} {A : Around} {E : Value → Shared → Prop} {s : Shared} {x1 : Addr}
/-- the end of an iterator, told while another error is handled -/
theorem over_hot {α : Type} {Q : α → Shared → Prop} (hot : HotAt A x1 s.heap)
    (h : ∀ h' a, (∃ o, h'.get? a = some o ∧ o.cls = .type "StopIteration") → (∀ b o, s.heap.get? b = some o → h'.get? b = some o) → E (.ref a) { s with heap := h' }) :
    wpAny (model prog w) A (newExc (.type "StopIteration") [] >>= fun e => (raiseNew e : Sem α)) Q E s := by
  obtain ⟨hh, o1, vs, g1, d1, c1⟩ := hot
  refine wpAny_bind ?_
  simp only [newExc, newTuple]
  refine wpAny_bind (wpAny_newObj_type ?_ (by size_fits))
  refine wpAny_bind (m := firstArgMember _ _) (wpAny_of_eq (a := Value.none) (by first | rfl | (simp only [firstArgMember]; rfl)) ?_)
  refine wpAny_newObj_type ?_ (by size_fits)
  have two : ∀ {o o' : Obj} (b : Addr) (u : Obj), s.heap.get? b = some u → ((s.heap.push o).push o').get? b = some u := fun b u z => Heap.get?_push_of_some _ (Heap.get?_push_of_some _ z)
  have old : ∀ {o : Obj} (b : Addr) (u : Obj), s.heap.get? b = some u → b ≠ (s.heap.push o).objs.size := fun b u z => Nat.ne_of_lt (Heap.lt_size (Heap.get?_push_of_some _ z))
  refine raiseNew_hot ⟨hh, o1, vs, two _ _ g1, d1, c1⟩ (old _ _ g1) (Heap.get?_push_size _ rfl) rfl (by simp; omega) ?_
  refine h _ _ ⟨_, Heap.get?_update_self _ (Heap.get?_push_size _ rfl) rfl, rfl⟩ fun b u z => ?_
  rw [Heap.get?_update_other _ _ (Ne.symm (old b u z))]
  exact two b u z
/-- the end of a tuple's items, told while another error is handled -/
theorem items_over {t i : Addr} {n : Nat} {us : Array Value} {Q : Option Value → Shared → Prop} (hot : HotAt A x1 s.heap) (far : s.heap.IsTupleIter i t n) (tu : s.heap.IsTuple t us) (all : us[n]? = none) (apart : x1 ≠ i)
    (h : ∀ h', (∀ b o, b ≠ i → s.heap.get? b = some o → h'.get? b = some o) → Q none { s with heap := h' }) : wpAny (model prog w) A (pyNext (.ref i)) Q E s := by
  obtain ⟨hh, o1, vs, g1, d1, c1⟩ := hot
  have ty := far.typeIs
  obtain ⟨oi, gi, ci, di⟩ := far
  obtain ⟨ot, gt, _, k, dt⟩ := tu
  unfold pyNext
  refine wpAny_bind (wpAny_attempt (wpAny_callSpecial?_slot (name := Str.ofString "__next__") ty F.slot_tuple_iterator_next (wpAny_call_entry F.slot_tuple_iterator_next ty F.entry_tuple_iterator_next ?_ (F.args_tuple_iterator_next_1 _))))
  change wpAny _ _ (field (.ref i) 0 >>= _) _ _ _
  refine wpAny_bind (wpAny_field gi di (x := .ref t) rfl ?_)
  have some_ : ¬ ((Value.ref t == Value.none) = true) := by simp
  change wpAny _ _ (if (Value.ref t == Value.none) = true then _ else _) _ _ _
  rw [if_neg some_]
  change wpAny _ _ (field (.ref i) 1 >>= _) _ _ _
  refine wpAny_bind (wpAny_field gi di (x := .int n 0) rfl ?_)
  change wpAny _ _ (seqItems? (.ref t) >>= _) _ _ _
  refine wpAny_bind (wpAny_seqItems gt dt ?_)
  rw [Int.toNat_natCast]
  simp only [all]
  refine wpAny_bind (wpAny_rule (wpAny_bind (wpAny_setField gi di (by simp) ?_)))
  have keep : Heap.SameBut i s.heap (s.heap.update i (Obj.mapFields (·.setIfInBounds 0 .none))) := .update ..
  have hot' : HotAt A.in1 x1 (s.heap.update i (Obj.mapFields (·.setIfInBounds 0 .none))) := ⟨hh, o1, vs, (keep.2 x1 apart).trans g1, d1, c1⟩
  refine over_hot (s := { s with heap := _ }) hot' fun h' a stop more => ?_
  refine wpAny_bind (wpAny_isInstance (T := "StopIteration") (b := true) stop isSubtype_stop ?_)
  exact wpAny_pure (h h' fun b o hb z => more b o ((keep.2 b hb).trans z))
end
/-! ### a tuple taken apart, there -/
section
variable {prog : Program} {w : World} {A : Around} {E : Value → Shared → Prop} {s : Shared} {x1 : Addr}
theorem _root_.HotX.HotAt.at {h h' : Heap} (hot : HotAt A x1 h) (k : ∀ o, h.get? x1 = some o → h'.get? x1 = some o) : HotAt A x1 h' := by
  obtain ⟨hh, o, vs, g, d, c⟩ := hot
  exact ⟨hh, o, vs, k o g, d, c⟩
theorem parts_hot {t : Addr} {us : Array Value} {Q : List Value → Shared → Prop} (hot : HotAt A x1 s.heap) (tu : s.heap.IsTuple t us) (h : ∀ h', (∀ b o, s.heap.get? b = some o → h'.get? b = some o) → Q us.toList { s with heap := h' }) : wpAny (model prog w) A (unpackItems (.ref t) us.size none) Q E s := by
  have new : ∀ {b o}, s.heap.get? b = some o → b ≠ s.heap.objs.size := fun z => Nat.ne_of_lt (Heap.lt_size z)
  have t_new : t ≠ s.heap.objs.size := by
    obtain ⟨_, z, _⟩ := tu
    exact new z
  have x_new : x1 ≠ s.heap.objs.size := by
    obtain ⟨_, o, _, z, _⟩ := hot
    exact new z
  unfold unpackItems notIterableAtAll
  refine wpAny_bind (wpAny_bind (wpAny_specialOf tu.typeIs F.slot_tuple_iter.lookup (wpAny_pure ?_)))
  rw [if_neg (by decide)]
  refine wpAny_bind (wpAny_holding (wpAny_pyIter_tuple tu (wpAny_bind (wpAny_holding ?_))))
  refine wpAny_draw_tuple t_new us.size 0 _ _ ⟨_, Heap.get?_push_size _ rfl, rfl, rfl⟩ (tu.push _) (by omega) fun h1 far same => ?_
  have k1 : ∀ b o, s.heap.get? b = some o → h1.get? b = some o := fun b o z => (same.2 b (new z)).trans (Heap.get?_push_of_some _ z)
  rw [List.drop_zero, show us.toList.take us.size = us.toList from List.take_of_length_le (Nat.le_of_eq rfl), if_neg (by simp)]
  refine wpAny_bind (wpAny_holding (items_over (hot.at fun o z => k1 _ o z) far (tu.at fun o z => k1 _ o z) (Array.getElem?_eq_none (by omega)) x_new fun h2 k2 => ?_))
  rw [if_neg (by decide)]
  exact wpAny_pure (h h2 fun b o z => k2 b o (new z) (k1 b o z))
end
theorem pg_tupH {X : Cx} {es : List Expr} {k n : Nat} {t : TGs} {pos : Pos} (hc : HotC X) (h : PGs X es t) (hn : (assignEach es X.env).length = n := by rfl) (hst : (assignEach es X.env).findIdx? (·.1) = none := by rfl) : PG X (.Tuple es k pos) (gTup X.K n t) := by
  refine ⟨fun pins s σ H v u Q I rel hw => ?_⟩
  obtain ⟨a, xs, rfl, sq, len, hw⟩ := hw
  obtain rfl : u = Value.ref a := rel
  obtain ⟨us, ru, tu, _⟩ := I.tuple sq
  obtain ⟨x1, hot⟩ := hc.at I
  have size : (assignEach es X.env).length = us.toArray.size := by rw [hn, List.size_toArray, ← ru.length, len]
  rw [arm_assign_Tuple]
  refine wpAny_bind (wpAny_standAt ?_)
  unfold unpack
  rw [size, hst]
  refine wpAny_bind (wpAny_holding (parts_hot hot tu fun h' k => ?_))
  exact h.run pins _ σ H xs _ Q (I.kept (t' := s.toks) k) ru hw
theorem pgk_tupH {X : Cx} {es : List Expr} {k n : Nat} {t : TGs} {pos : Pos} (K : PySem.W.Frag) (hc : HotC X) (h : PGs X es t) (hK : X.K = K := by rfl) (hn : (assignEach es X.env).length = n := by rfl) (hst : (assignEach es X.env).findIdx? (·.1) = none := by rfl) : PG X (.Tuple es k pos) (gTup K n t) := by
  rw [← hK]
  exact pg_tupH hc h hn hst
/-! ### a list comprehension over a tuple, there -/
def tLcT (K : PySem.W.Frag) (ti : TE) (g : TG) (te : TE) (vs : List Nat) : TE := fun σ H Q => ti σ H fun v H1 => ∃ a xs, v = .ref a ∧ SqT K H1 a xs ∧ ∀ D, H1 D = none → ∃ Pv : Nat → Hp → Prop,
  Pv 0 (upd H1 D (.lst [])) ∧ (∀ i H, Pv i H → SqT K H a xs) ∧
  (∀ i x H, xs[i]? = some x → Pv i H → g x (wipe σ vs) H fun σ2 H2 => wipe σ2 vs = wipe σ vs ∧ te σ2 H2 fun y H3 => ∃ acc, H3 D = some (.lst acc) ∧ acc.length < sizeLine ∧ Pv (i + 1) (upd H3 D (.lst (acc ++ [y])))) ∧
  ∀ H, Pv xs.length H → Q (.ref D) H
/-- the comprehension's own context, the handled error known in it -/
abbrev hblk (X : Cx) (s : Shared) (H : Hp) (scope : Scope) (ce : Env) (fp : List Addr) (p : Addr × Obj) : Cx := { X.blk s H scope ce fp with pn := [p] }
section
variable {X : Cx} {elt tg iter : Expr} {scope : Scope} {own : List (Str × Nat)} {pos : Pos} {ti : TE} {g : TG} {te : TE}
theorem pe_lcTH (hc : HotC X) (hN : X.N.Nodup) (hi : PE X iter ti) (ok : BlkOk X.N X.env.scope scope own)
    (hg : ∀ (s : Shared) (H : Hp) (C : Addr) (cl : List (Str × Addr)) (fp : List Addr) (p : Addr × Obj), Hot1 X.A p → PG (hblk X s H scope (compEnvC scope cl C X.env) fp p) tg g)
    (he : ∀ (s : Shared) (H : Hp) (C : Addr) (cl : List (Str × Addr)) (fp : List Addr) (p : Addr × Obj), Hot1 X.A p → PE (hblk X s H scope (compEnvC scope cl C X.env) fp p) elt te) (hs : ∀ x, foldedSetIterable iter X.env x = pure x := by intro _; rfl) :
    PE X (.ListComp elt [⟨tg, iter, [], 0⟩] scope pos) (tLcT X.K ti g te (own.map (·.2))) := by
  refine ⟨fun pins s σ H Q I h => ?_⟩
  rw [eval_ListComp]
  have frees : ∀ y ∈ scope.names, y.2 = .free → ∃ c, X.env.cells.lookup y.1 = some c := fun y hy e => I.ok.has _ (ok.free y hy e)
  refine wpAny_comprehension_free (use := none) rfl hs (closure_ok frees) ok.kind (fun y hy e => by rw [ok.uniq y hy, e]) (thn (hi.run pins s σ H _ I h) ?_)
  rintro v s1 ⟨x, H1, I1, rx, a, xs, rfl, sq, body⟩
  obtain rfl : v = Value.ref a := rx
  obtain ⟨us, rel, tu, _⟩ := I1.tuple sq
  refine wpAny_pyIter_tuple tu ?_
  -- the iterator
  generalize hit : s1.heap.objs.size = it
  generalize hs2 : ({ s1 with heap := s1.heap.push { cls := .type "tuple_iterator", data := .fields #[.ref a, .int 0 0] } } : Shared) = s2
  have I2 : Inv X pins σ H1 s2 := by
    rw [← hs2]
    exact I1.kept (t' := s1.toks) fun b o e => Heap.get?_push_of_some _ e
  have far2 : s2.heap.IsTupleIter it a 0 := by
    rw [← hs2, ← hit]
    exact ⟨_, Heap.get?_push_size _ rfl, rfl, rfl⟩
  have it_own : FpOk X pins H1 it := I1.fpOk (Nat.le_of_eq hit) (I1.hok.fresh (Nat.le_of_eq hit))
  have it_lt : it < s2.heap.objs.size := by
    obtain ⟨_, e, _⟩ := far2
    exact Heap.lt_size e
  -- the list
  refine wpAny_newObj_type (newEnv_comp ?_) (Nat.zero_le _)
  generalize hD : s2.heap.objs.size = D
  obtain ⟨Pv, pv0, stays, turn, last⟩ := body D (I2.hok.fresh (Nat.le_of_eq hD))
  have D_it : it ≠ D := fun e => Nat.lt_irrefl _ (hD.symm ▸ e ▸ it_lt)
  generalize hs3 : ({ s2 with heap := s2.heap.push { cls := .type "list", data := .seq ([] : List Value).toArray } } : Shared) = s3
  have k3 : ∀ b o, s2.heap.get? b = some o → s3.heap.get? b = some o := by
    rw [← hs3]
    exact fun b o e => Heap.get?_push_of_some _ e
  have at_D : s3.heap.get? D = some { cls := .type "list", data := .seq ([] : List Value).toArray } := by
    rw [← hs3, ← hD]
    exact Heap.get?_push_size _ rfl
  have I3 : Inv X pins σ (upd H1 D (.lst [])) s3 := by
    have := I2.laid (o := .lst []) (t' := s2.toks) (h' := s3.heap) k3 (Nat.le_of_eq hD) ⟨Nat.zero_le _, [], 0, .nil, at_D⟩
    rw [← hs3] at this ⊢
    exact this
  have it3 : FpOk X pins (upd H1 D (.lst [])) it ∧ it < s3.heap.objs.size := ⟨⟨by rw [upd_ne D_it]; exact it_own.1, it_own.2⟩, by
    obtain ⟨_, e, _⟩ := far2
    exact Heap.lt_size (k3 _ _ e)⟩
  have I4 := block_start (fp := [it]) I3 ok hN fun b hb => by
    rw [List.mem_singleton.mp hb]
    exact it3
  have far3 : s3.heap.IsTupleIter it a 0 := far2.at fun o e => k3 it o e
  clear hs3 k3 at_D far2 it_lt I2
  show codeAny _ _ (.compStart (.ListComp elt [⟨tg, iter, [], 0⟩] scope pos) 0 (.ref it) (.ref D) (compEnvC scope (cellsFrom (s3.heap.objs.size + 1) scope.names (cloFrom X.env.cells scope.names [])) s3.heap.objs.size X.env)) (compPost (model X.prog X.w) X.A X.xe none (EP X pins σ Q) (.ref D) s3.heap.objs.size) { s3 with heap := pushCells (s3.heap.push { cls := .type "dict", data := .dict #[] }) scope.names }
  obtain ⟨p, hot1, hp⟩ := hc
  have pg := hg s3 (upd H1 D (.lst [])) s3.heap.objs.size (cellsFrom (s3.heap.objs.size + 1) scope.names (cloFrom X.env.cells scope.names [])) [it] p hot1
  have pe := he s3 (upd H1 D (.lst [])) s3.heap.objs.size (cellsFrom (s3.heap.objs.size + 1) scope.names (cloFrom X.env.cells scope.names [])) [it] p hot1
  generalize hce : compEnvC scope (cellsFrom (s3.heap.objs.size + 1) scope.names (cloFrom X.env.cells scope.names [])) s3.heap.objs.size X.env = ce at I4 pg pe ⊢
  have locals_at : ce.locals = s3.heap.objs.size := by rw [← hce]; rfl
  have far4 := far3.at (h' := pushCells (s3.heap.push { cls := .type "dict", data := .dict #[] }) scope.names) fun o e => pushCells_keeps _ _ _ _ (Heap.get?_push_of_some _ e)
  generalize hs4 : ({ s3 with heap := pushCells (s3.heap.push { cls := .type "dict", data := .dict #[] }) scope.names } : Shared) = s4 at I4 ⊢
  have far4 : s4.heap.IsTupleIter it a 0 := by rw [← hs4]; exact far4
  have keep4 : ∀ b o, s3.heap.get? b = some o → s4.heap.get? b = some o := by
    rw [← hs4]
    exact fun b o e => pushCells_keeps _ _ _ _ (Heap.get?_push_of_some _ e)
  clear hs4 far3 hce
  generalize hH3 : upd H1 D (.lst []) = H3 at *
  -- the handled error stands there
  obtain ⟨hp1, vs1, hp2, hp3⟩ := hot1
  have pin3 := I3.pin p (List.mem_append_left _ hp)
  have p_it : p.1 ≠ it := it3.1.2.2.2.2.2 p (List.mem_append_left _ hp)
  have p4 : s4.heap.get? p.1 = some p.2 ∧ H3 p.1 = none ∧ p.1 ≠ ce.locals ∧ p.1 ∉ frs X.stack ∧ ∀ v, p.2.data ≠ .cell v :=
    ⟨keep4 _ _ pin3.1, pin3.2.1, by rw [locals_at]; exact Nat.ne_of_lt (Heap.lt_size pin3.1), fun z => (List.mem_cons.mp (I3.stkSub _ z)).elim pin3.2.2.1 pin3.2.2.2.1, pin3.2.2.2.2⟩
  have I4' : Inv (X.blk s3 H3 scope ce [it]) [p] (wipe σ (own.map (·.2))) H3 s4 := I4.pins_of fun q hq => by
    rw [List.mem_singleton.mp hq]
    exact p4
  have I5 : Inv (hblk X s3 H3 scope ce [it] p) [] (wipe σ (own.map (·.2))) H3 s4 :=
    ⟨⟨I4'.ok.mod, I4'.ok.kind, I4'.ok.glob, I4'.ok.blt, I4'.ok.above, I4'.ok.inj, I4'.ok.has, I4'.ok.cab, I4'.ok.hd, I4'.ok.frames, I4'.ok.stk, I4'.ok.exf, I4'.ok.bs, I4'.ok.bsz, I4'.ok.noex, I4'.ok.exfs, I4'.ok.funs, I4'.ok.frf⟩, I4'.os, I4'.bare, I4'.base, I4'.loc, I4'.cell, I4'.free, I4'.freeC, I4'.pin, I4'.hok, I4'.len⟩
  -- the iterator stays the block's own
  have stay : ∀ {σ' : L2.St} {H' : Hp} {s' : Shared}, Inv (hblk X s3 H3 scope ce [it] p) [] σ' H' s' → H' it = none → FpOk (hblk X s3 H3 scope ce [it] p) [] H' it := fun {σ' H' s'} J n =>
    ⟨n, (J.ok.exf it List.mem_cons_self).1, J.ok.exfs it List.mem_cons_self, .inl List.mem_cons_self, (J.ok.exf it List.mem_cons_self).2, fun q hq => by
      rw [List.mem_singleton.mp (show q ∈ [p] from hq)]
      exact p_it⟩
  have loop : codeAny (model X.prog X.w) X.A (.compLoop (.ListComp elt [⟨tg, iter, [], 0⟩] scope pos) 0 (.ref it) (.ref D) ce) (compPost (model X.prog X.w) X.A X.xe none (EP X pins σ Q) (.ref D) s3.heap.objs.size) s4 := by
    refine compLoop_any (fun n s' => ∃ i H', n = xs.length - i ∧ i ≤ xs.length ∧ Inv (hblk X s3 H3 scope ce [it] p) [] (wipe σ (own.map (·.2))) H' s' ∧ s'.heap.IsTupleIter it a i ∧ H' it = none ∧ Pv i H') ?_ xs.length ⟨0, H3, rfl, Nat.zero_le _, I5, far4, it3.1.1, pv0⟩
    rintro n s5 ⟨i, H5, rfl, le, J, far, free, pv⟩
    obtain ⟨us5, rel5, tu5, _⟩ := J.tuple (stays i H5 pv)
    have len5 := rel5.length
    have own5 := stay J free
    have moved : ∀ {h' : Heap}, (∀ b o, b ≠ it → s5.heap.get? b = some o → h'.get? b = some o) → Inv (hblk X s3 H3 scope ce [it] p) [] (wipe σ (own.map (·.2))) H5 { s5 with heap := h' } := fun {h'} k =>
      J.turned (t' := s5.toks) k free own5.2.1 own5.2.2.2.1 own5.2.2.2.2.1 own5.2.2.2.2.2
    have there := J.pin p List.mem_cons_self
    rcases Nat.lt_or_ge i xs.length with lt | ge
    · obtain ⟨u, hu, ru⟩ := rel5.get (List.getElem?_eq_getElem lt)
      refine wpAny_pyNext_tuple_item far tu5 (x := u) (by simpa using hu) fun h6 far6 same6 => ?_
      have J6 := moved fun b o hb e => (same6.2 b hb).trans e
      obtain ⟨oi, gi, ci, di⟩ := id far6
      refine go_of (s := { s5 with heap := h6 }) gi ci di (by decide) ?_
      have J7 : Inv (hblk X s3 H3 scope ce [it] p) [(it, oi)] (wipe σ (own.map (·.2))) H5 { s5 with heap := h6 } := J6.pins_of fun q hq => by
        rw [List.mem_singleton.mp hq]
        exact ⟨gi, own5.1, own5.2.1, own5.2.2.1, fun v z => Data.noConfusion (di.symm.trans z)⟩
      refine thnF (pg.run _ _ _ H5 _ u _ J7 ru (turn i _ H5 (List.getElem?_eq_getElem lt) pv)) fun _ s8 ⟨σ8, H8, J8, same8, q8⟩ => ?_
      refine wpAny_tests_nil ?_
      rw [if_pos rfl]
      refine thnF (pe.run _ s8 σ8 H8 _ J8 q8) fun z s9 ⟨y, H9, J9, r9, acc, at9, small9, next9⟩ => ?_
      refine app_ok (X := (hblk X s3 H3 scope ce [it] p)) J9 at9 small9 r9 fun s' J' => ?_
      have it' := J'.pin (it, oi) (List.mem_append_right _ List.mem_cons_self)
      have back : Inv (hblk X s3 H3 scope ce [it] p) [] (wipe σ (own.map (·.2))) (upd H9 D (.lst (acc ++ [y]))) s' := by
        refine (J'.weak (by rw [← same8, wipe_length]) fun j v e => ?_).pins_of fun q hq => absurd hq List.not_mem_nil
        rw [← same8] at e
        exact (wipe_some e).1
      exact ⟨xs.length - (i + 1), by omega, i + 1, _, rfl, lt, back, ⟨oi, it'.1, ci, di⟩, it'.2.1, next9⟩
    · obtain rfl : i = xs.length := Nat.le_antisymm le ge
      refine items_over ⟨hp1, p.2, vs1, there.1, hp2, hp3⟩ far tu5 (Array.getElem?_eq_none (by rw [List.size_toArray]; omega)) p_it fun h6 same6 => ?_
      have J6 := moved same6
      have home : Inv X pins σ H5 { s5 with heap := h6 } := I3.call' (ch := [it]) J6.os J6.base J6.hok J6.bare fun b hb => by
        rw [List.mem_singleton.mp hb]
        exact ⟨it3.1.2.2.2.1, it3.1.2.1, it3.1.2.2.2.2.1, it3.1.2.2.2.2.2⟩
      obtain ⟨m, ns, _⟩ := J6.loc
      have ns : h6.Ns s3.heap.objs.size m := locals_at ▸ ns
      have loc_own : FpOk X pins H5 s3.heap.objs.size := I3.fpOk (Nat.le_refl _) (locals_at ▸ J6.free)
      exact ⟨m, ns, fun h7 same7 => ⟨.ref D, H5, home.turned (t' := s5.toks) (fun b o hb e => (same7.2 b hb).trans e) loc_own.1 loc_own.2.1 loc_own.2.2.2.1 loc_own.2.2.2.2.1 loc_own.2.2.2.2.2, rfl, last H5 pv⟩⟩
  exact codeAny_compStart_list loop (wpAny_pyIter_tupleiter far4 loop)
end
/-! ### an error of an own class: it comes with no context -/
section
variable {X : Cx} {C fI : Addr} {k : Nat} {fd : FuncData} {ps : List Str} {sp : Sp}
theorem made_own {pins : List (Addr × Obj)} {σ : L2.St} {H : Hp} {s : Shared} {vs : List V} {us : List Value} {Q : XK} (T : OexC X.K C) (iC : PySem.W.findIn X.K (.ref C) "__init__" = some (some (.ref fI))) (tI : PySem.W.typeIn X.K (.ref fI) = some (.type "function"))
    (Fo : FnOk X.prog X.w X.K X.mg X.base CX0 k fI fd ps sp) (hr : Room (k + 1) X.A) (hb : Binds X.K fd ps []) (I : Inv X pins σ H s) (rel : Vals vs us) (few : vs.length ≤ 1000)
    (h : ∀ a, H a = none → sp (.ref a :: vs) (upd H a (exo a C none)) (fun v H2 => v = .non ∧ ∃ (d : Addr) (fs : List (Str × V)), H2 a = some (exo a C (some d)) ∧ H2 d = some (exd d fs) ∧ H d = none ∧ Q (.ref C) (some d) (upd (del H2 a) d (.xd fs))) (fun _ _ _ => False)) :
    wpAny (model X.prog X.w) X.A (call (.ref C) us) (L2N.MkP X pins σ Q) X.xe s := by
  obtain ⟨_, _, _, _, bm, _, _, _, _, _, _, _, _, _, _, lk, known⟩ := T.cls
  obtain ⟨h0, g0, d0, t0, o0⟩ := s
  have above : h0.objs.size ≤ h0.objs.size + 1 := Nat.le_succ _
  have new := I.hok.fresh above
  have keep : ∀ b o, h0.get? b = some o → ((h0.push (PySem.W.kdv_tup us)).push (PySem.HandSPX.excO C h0.objs.size)).get? b = some o := fun b o z => Heap.get?_push_of_some _ (Heap.get?_push_of_some _ z)
  have at_ : ((h0.push (PySem.W.kdv_tup us)).push (PySem.HandSPX.excO C h0.objs.size)).get? (h0.objs.size + 1) = some (PySem.HandSPX.excO C h0.objs.size) := by heap_get
  have J := I.laid (o := exo (h0.objs.size + 1) C none) (t' := t0) keep above (exo_ok at_)
  have go := h _ new
  have rel2 : Vals (V.ref (h0.objs.size + 1) :: vs) (Value.ref (h0.objs.size + 1) :: us) := .cons rfl rel
  have len : (Value.ref (h0.objs.size + 1) :: us).length = ps.length := by rw [← rel2.length]; exact Fo.len _ _ _ _ go
  have binds := hb _ (Value.ref (h0.objs.size + 1) :: us) J.kIn (by rw [List.append_nil]; exact len)
  rw [List.append_nil] at binds
  have fit : us.length ≤ sizeLine := by rw [← rel.length]; exact Nat.le_trans few (by decide)
  have run := Fo.run _ X.stack _ _ ⟨Value.ref (h0.objs.size + 1) :: us, []⟩ _ _ _ (fun _ _ _ => False) (hr.make C us []) (J.env0.make C us []) binds rel2 go
  refine wpAny_call (PySem.HandSPX.call_own F.excBase_ValueError (fun Y => PySem.HandSPX.refsVE_contains Y bm known) (I.kIn _ _ lk) (PySem.W.looks_findIn I.kIn iC) (fun self => PySem.W.bind_fn I.kIn self tI) fit (codeAny_mono run ?_))
  rintro (er | fl) ⟨h2, g2, d2, t2, o2⟩ told
  · exact False.elim told
  · cases fl with
    | ret u =>
      obtain ⟨v, H2, os2, bare2, un2, hok2, rv, rfl, d, fs, ea, ed, nd, q⟩ := told
      obtain ⟨ta, G, JG, kG, ge, hoe, na⟩ := mk_end0 (d2 := d2) (t2 := t2) I above keep un2 hok2 os2 bare2 ea ed nd
      exact ⟨rv, _, _, _, ⟨G, g2, d2, t2, o2⟩, _, .ref C, some d, rfl, JG, kG, ge, hoe, ⟨rfl, rfl, fun vs hv => by cases hv; rfl⟩, rfl, rfl, na, rfl, bare2, raises_own T.exC T.tyC, q⟩
    | next => exact False.elim told
    | brk => exact False.elim told
    | cont => exact False.elim told
theorem pmk_new {x : Str} {e : Expr} {es : List Expr} {ta : TA} {p pos : Pos} (T : OexC X.K C) (iC : PySem.W.findIn X.K (.ref C) "__init__" = some (some (.ref fI))) (tI : PySem.W.typeIn X.K (.ref fI) = some (.type "function"))
    (Fo : FnOk X.prog X.w X.K X.mg X.base CX0 k fI fd ps sp) (hr : Room (k + 1) X.A) (hb : Binds X.K fd ps []) (hg : Gl X x) (hm : X.mg x = some (.ref C)) (ha : PA X (e :: es) ta)
    (hdb : (x == ("__debug__" : Str)) = false := by decide) (he : starEach (e :: es) X.env = (false, eval e X.env) :: starEach es X.env := by rfl) (hpl : (backTo pos (starEach es X.env)).any (·.1) = false := by rfl) : L2N.PMk X (.Call (.Name x p) (e :: es) [] pos) (tMkO C sp [] ta) := by
  intro pins s σ H Q I h
  have args := ha.run pos pins s σ H _ I h
  refine wpAny_Call_Name_kw (ld_glob I hg hm (PySem.W.callWith_K (h₀ := X.base) I.ok.mod.kin T.kC (thn args ?_) he hpl) hdb)
  rintro us s1 ⟨vs, H1, I1, rel, few, q⟩
  refine ⟨I1.kIn, made_own T iC tI Fo hr hb I1 rel few fun a na => ?_⟩
  have q := q a na
  rw [List.append_nil] at q
  exact q
end
/-! ### defs, there -/
section
variable {P : Program} {w : World} {K : PySem.W.Frag} {mg : Str → Option Value} {base : Heap} {x qual : Str} {st : Stmt} {f : Addr} {fd : FuncData} {N ps : List Str} {k : Nat} {sp : Sp}
theorem fun_hot (F : Fun K x qual st f fd) (S : FnScope N ps (defScope st)) (len : ∀ vs H Q E, sp vs H Q E → vs.length = ps.length)
    (body : ∀ (cdv : Value) (A : Around) (outer : List Env) (s : Shared) (H : Hp) (vs : List V) (Q : VK) (E : XK) (p : Addr × Obj), Hot1 A p → RoomH k (A.deeper (envOfC qual (defScope st) s.heap.objs.size f cdv)) → sp vs H Q E →
      ∃ t, PSs (cxH CX0 P w K mg base N qual (defScope st) f cdv A outer s H E p) (defBody st) t ∧ t { nx := fun _ H' => Q .non H', rt := Q } (L2.start N vs) H) : FnH P w K mg base CX0 (k + 1) f fd ps sp := by
  obtain ⟨_, _, _, _, _, _, _, _, _, rfl, lk, code⟩ := F.ex
  exact fn_ofH lk code S len fun A outer s H vs Q E p => body _ A outer s H vs Q E p
theorem fun_ctx (F : Fun K x qual st f fd) (S : FnScope N ps (defScope st)) (len : ∀ vs H Q E, sp vs H Q E → vs.length = ps.length)
    (body : ∀ (cdv : Value) (A : Around) (outer : List Env) (s : Shared) (H : Hp) (vs : List V) (Q : VK) (E : XK), Room k (A.deeper (envOfC qual (defScope st) s.heap.objs.size f cdv)) → sp vs H Q E →
      ∃ t, PSs (cxOf (L2N.CX P w) P w K mg base N qual (defScope st) f cdv A outer s H E) (defBody st) t ∧ t { nx := fun _ H' => Q .non H', rt := Q } (L2.start N vs) H) : FnOk P w K mg base (L2N.CX P w) (k + 1) f fd ps sp := by
  obtain ⟨_, _, _, _, _, _, _, _, _, rfl, lk, code⟩ := F.ex
  exact fn_of lk code S len fun A outer s H vs Q E => body _ A outer s H vs Q E
end
/-- a method asked with nothing, there -/
def tMeth0H (C : Addr) (m : Str) (sp : Sp) (ta : TE) : TE := fun σ H Q => ta σ H fun x H1 => ∃ a dx fs, x = .ref a ∧ H1 a = some (.ins C dx fs) ∧ fs.lookup m = none ∧ sp [x] H1 Q (fun _ _ _ => True)
theorem pe_meth0H {X : Cx} {k : Nat} {C f : Addr} {fd : FuncData} {ps : List Str} {sp : Sp} {m : Str} {o : Expr} {ta : TE} {apos pos : Pos} {pl : Sem Bool} (he : PE X o ta) (c : Cls X.K C) (hm : Meth X.K C m f) (F : FnH X.prog X.w X.K X.mg X.base CX0 k f fd ps sp) (hr : RoomH k X.A) (hc : HotC X) (hb : Binds X.K fd ps [])
    (ht : eval (.Call (.Attribute o m apos) [] [] pos) X.env = (do
      let ov ← eval o X.env
      standAt apos.atName
      let (f, first) ← holding [ov] (getMethod ov m pl)
      callWith pos f first (backTo pos (starEach [] X.env)) (backToKw pos (keywordEach [] X.env))) := by rfl) : PE X (.Call (.Attribute o m apos) [] [] pos) (tMeth0H C m sp ta) := by
  refine ⟨fun pins s σ H Q I h => PySem.W.methodCall_KW (pl := pl) (thn (he.run pins s σ H _ I h) ?_) ht⟩
  rintro _ s1 ⟨x, H1, I1, rel, a, dx, fs, rfl, at_, no, q⟩
  obtain rfl := rel
  exact getmeth_ok I1 at_ c hm no (PySem.W.callWith_K0 (first := [.ref a]) I1.kIn hm.kp (run_fnH (us := [.ref a]) (vs := [.ref a]) (E := fun _ _ _ _ => True) F hr hc hb (fun _ _ _ _ _ _ z => z.elim) I1 (.cons rfl .nil) q))
theorem fnH_wk {P : Program} {w : World} {K : PySem.W.Frag} {mg : Str → Option Value} {base : Heap} {CX : CXT} {k : Nat} {f : Addr} {fd : FuncData} {ps : List Str} {sp sp' : Sp} (F : FnH P w K mg base CX k f fd ps sp) (i : ∀ vs H Q E, sp' vs H Q E → sp vs H Q E) : FnH P w K mg base CX k f fd ps sp' :=
  ⟨fun vs H Q E h => F.len vs H Q E (i _ _ _ _ h), fun A outer s H args us vs Q E p hr hot pin e0 hb hv h => F.run A outer s H args us vs Q E p hr hot pin e0 hb hv (i _ _ _ _ h)⟩
end PK
/-! A heap taken out of another, in vain: the rows of what lacks, told where the error is handled. -/
namespace LP
open PySem PySem.Spec PyProof.Rows L2 PK RZ
structure LessN (Γ : Sig) (mg : Str → Option Value) (base : Heap) (k : Nat) (C CN f : Addr) (fd : FuncData) : Prop where
  ok : FnOk Γ.P Γ.w Γ.K mg base (L2N.CX Γ.P Γ.w) k f fd ["self", "other"] (liF Γ lessW)
  cls : Cls Γ.K C
  me : Meth Γ.K C "less" f
  b : Binds Γ.K fd ["self", "other"] []
  s : HSig Γ C
  z : ESig Γ CN
structure RowsH (Γ : Sig) (mg : Str → Option Value) (base : Heap) (k : Nat) (C f : Addr) (fd : FuncData) : Prop where
  ok : L2H.FnH Γ.P Γ.w Γ.K mg base CX0 k f fd ["self"] (liF Γ rowsW)
  me : Meth Γ.K C "rows" f
  b : Binds Γ.K fd ["self"] []
section
variable {X : Cx} {Γ : Sig} {fe : Fd} {H0 : Hp} {O Ob : List Nat} {k k2 i j : Nat} {C CN CF f f2 : Addr} {fd fd2 : FuncData} {o e : Expr} {po pe : Env → W D} {mg : Str → Option Value} {base : Heap} {x n cn : Str} {p1 p2 p3 p4 p5 apos apos2 cpos cpos2 spos np pos pos' : Pos}
end
end LP
/-! What is raised, by value. -/
namespace LP
open PySem PySem.Spec PyProof.Rows L2 PK RZ
/-! ### errors of no, one and two fields -/
def spErr2 (C : Addr) (f g : Str) : Sp := fun vs H Q _ => ∃ (a : Addr) (v u : V), vs = [.ref a, v, u] ∧ H a = some (exo a C none) ∧
  ∀ (dx : Addr), H dx = none → dx ≠ a → Q .non (upd (upd (upd H dx (exd dx [(f, v)])) a (exo a C (some dx))) dx (exd dx [(g, u), (f, v)]))
/-- an error's class that may be raised with two things: c its number, its fields as its dict has them -/
structure Err2 (Γ : Sig) (mg : Str → Option Value) (base : Heap) (k c : Nat) (x : Str) (C fI : Addr) (fd : FuncData) (f g : Str) (ps : List Str) : Prop where
  ok : FnOk Γ.P Γ.w Γ.K mg base CX0 k fI fd ps (spErr2 C f g)
  ex : OexC Γ.K C
  i : PySem.W.findIn Γ.K (.ref C) "__init__" = some (some (.ref fI))
  t : PySem.W.typeIn Γ.K (.ref fI) = some (.type "function")
  b : Binds Γ.K fd ps []
  m : mg x = some (.ref C)
  cl : Γ.cl c = some C
  fl : Γ.fl c = [g, f]
structure Err1 (Γ : Sig) (mg : Str → Option Value) (base : Heap) (k c : Nat) (x : Str) (C fI : Addr) (fd : FuncData) (f : Str) (ps : List Str) : Prop where
  ok : FnOk Γ.P Γ.w Γ.K mg base CX0 k fI fd ps (spErr1 C f)
  ex : OexC Γ.K C
  i : PySem.W.findIn Γ.K (.ref C) "__init__" = some (some (.ref fI))
  t : PySem.W.typeIn Γ.K (.ref fI) = some (.type "function")
  b : Binds Γ.K fd ps []
  m : mg x = some (.ref C)
  cl : Γ.cl c = some C
  fl : Γ.fl c = [f]
/-! ### statements that may raise -/
section
variable {X : Cx} {Γ : Sig} {fe : Fd} {H0 : Hp} {O O1 O2 O' Ob : List Nat} {st : Stmt} {sts a b : List Stmt} {e c : Expr} {es : List Expr} {pos : Pos} {W : WX} {p q : Env → LP.W Fl}
theorem del_ne {H : Hp} {a b : Addr} (h : b ≠ a) : del H a b = H b := by
  unfold del
  rw [if_neg h]
end
/-! ### defs that may raise -/
section
variable {Γ : Sig} {mg : Str → Option Value} {base : Heap}
end
/-- a def by value that may be called, and may raise -/
structure CalX (Γ : Sig) (mg : Str → Option Value) (base : Heap) (k : Nat) (x : Str) (f : Addr)
    (fd : FuncData) (ps : List Str) (p : List D → W D) : Prop where
  ok : FnOk Γ.P Γ.w Γ.K mg base (L2.CX Γ.P Γ.w) k f fd ps (liF Γ p)
  g : mg x = some (.ref f)
  kp : PySem.W.keepIn Γ.K (.ref f) = true
  b : Binds Γ.K fd ps []
/-! ### expressions that may raise -/
section
variable {X : Cx} {Γ : Sig} {fe : Fd} {H0 : Hp} {O : List Nat} {W : WX} {k : Nat} {f : Addr} {fd : FuncData} {ps : List Str} {e : Expr} {es : List Expr} {x : Str} {pp pos : Pos} {p : List D → LP.W D} {pe : Env → LP.W D} {pa : Env → LP.W (List D)}
/-- what is new later was not there before -/
theorem Gr.back {Ξ : Ctx} {H H1 : Hp} {d : Addr} (g : Gr Ξ H H1) (f : Ξ.FI H1) (n : H1 d = none) : H d = none := by
  cases q0 : H d with
  | none => rfl
  | some o =>
    by_cases z : d ∈ Ξ.ff
    · obtain ⟨o', e', _⟩ := Ξ.fex H1 f d z
      rw [n] at e'
      cases e'
    · have := g d o z q0
      rw [n] at this
      cases this
end
end LP
namespace LP
open PySem PySem.Spec PyProof.Rows L2 PK RZ
/-! ### isinstance of what was caught -/
/-- what the class D must say -/
structure ExI (K : PySem.W.Frag) (D : Addr) : Prop where
  c : ExcC K D
  cl : (PySem.W.clsIn K D).isSome = true
def rIsX (K : PySem.W.Frag) (D a dd : Addr) : List V → Hp → VK → Prop := fun xs H Q => ∃ (c : V) (cv : Value) (b : Bool) (fs : List (Str × V)), xs = [.ref a, c] ∧ (∀ u, RelV c u → u = cv) ∧ PySem.W.kitOne K (.ref D) cv = some b ∧ H dd = some (.xd fs) ∧ Q (.bl b) H
def rIsXT (K : PySem.W.Frag) (D a dd : Addr) : List V → Hp → VK → Prop := fun xs H Q => ∃ (t : Addr) (cs : List Addr) (b : Bool) (fs : List (Str × V)), xs = [.ref a, .ref t] ∧ H t = some (.tup (cs.map V.ref)) ∧ PySem.W.kitAny K (.ref D) (cs.map Value.ref) = some b ∧ H dd = some (.xd fs) ∧ Q (.bl b) H
section
variable {X : Cx} {a D dd : Addr} {oe : Obj} {pn : List (Addr × Obj)}
theorem inst_suite {pins : List (Addr × Obj)} {s : Shared} {σ : L2.St} {H : Hp} {fs : List (Str × V)} (hz : Zc (.ref D) (some dd) oe) (hf : ∃ vs, oe.data = .fields vs) (I : Inv (X.suite a ((a, oe) :: pn)) pins σ H s) (hd : H dd = some (.xd fs)) : ∃ od, PySem.W.InstAt s.heap a oe D (some od) := by
  obtain ⟨hget, _⟩ := I.pin (a, oe) (List.mem_append.mpr (.inl List.mem_cons_self))
  obtain ⟨vs, hv⟩ := hf
  obtain ⟨mA, hns, _⟩ : ObjOk X.prog X.w H s.heap dd (.xd fs) := I.hok dd _ hd
  obtain ⟨od, ho, _⟩ := lookIn_ns hns
  exact ⟨od, hget, hz.1, by unfold PySem.W.notCls; rw [hv] <;> rfl, by rw [hz.2]; exact ho⟩
theorem call_isX (C : ExI X.K D) (hz : Zc (.ref D) (some dd) oe) (hf : ∃ vs, oe.data = .fields vs) : CallR (X.suite a ((a, oe) :: pn)) (.builtin "isinstance") (rIsX X.K D a dd) := by
  intro pins s σ H xs us Q I r h
  obtain ⟨c, cv, b, fs, rfl, hcv, e, hd, q⟩ := h
  cases r with
  | cons rx rr =>
    cases rr with
    | cons rt rr =>
      cases rr
      cases rx
      have ec := hcv _ rt
      subst ec
      obtain ⟨od, J⟩ := inst_suite hz hf I hd
      exact PySem.W.kia_one (PySem.W.kitx_exc C.cl C.c.hg C.c.hk C.c.hs C.c.ha C.c.hn C.c.ht C.c.hm) I.kIn J e (fun z => nomatch z) fun tk => ⟨.bl b, H, I.kept (t' := tk) fun _ _ z => z, rfl, q⟩
theorem vals_refs : ∀ {cs : List Addr} {us : List Value}, Vals (cs.map V.ref) us → us = cs.map Value.ref
  | [], _, .nil => rfl
  | c :: cs, _, .cons h r => by
    cases h
    rw [vals_refs r]
    rfl
theorem call_isXT (C : ExI X.K D) (hz : Zc (.ref D) (some dd) oe) (hf : ∃ vs, oe.data = .fields vs) : CallR (X.suite a ((a, oe) :: pn)) (.builtin "isinstance") (rIsXT X.K D a dd) := by
  intro pins s σ H xs us Q I r h
  obtain ⟨t, cs, b, fs, rfl, ht, e, hd, q⟩ := h
  cases r with
  | cons rx rr =>
    cases rr with
    | cons rt rr =>
      cases rr
      cases rx
      cases rt
      obtain ⟨od, J⟩ := inst_suite hz hf I hd
      obtain ⟨_, its, hv, hi⟩ : ObjOk X.prog X.w H s.heap t (.tup (cs.map V.ref)) := I.hok t _ ht
      have := vals_refs hv
      subst this
      obtain ⟨⟨oc, odd, oda, osl⟩, h1, h2, n, h3⟩ := hi
      dsimp only at h2 h3
      subst h2 h3
      exact PySem.W.kia_tup (PySem.W.kitx_exc C.cl C.c.hg C.c.hk C.c.hs C.c.ha C.c.hn C.c.ht C.c.hm) I.kIn J h1 e (fun z => nomatch z) fun tk => ⟨.bl b, H, I.kept (t' := tk) fun _ _ z => z, rfl, q⟩
end
end LP
namespace LP
open PySem PySem.Spec PyProof.Rows L2 PK RZ
/-- whichever class was caught -/
def rIsXc (K : PySem.W.Frag) (cls : Value) (d : Option Addr) (a : Addr) : List V → Hp → VK → Prop := fun xs H Q => ∃ D dd, cls = .ref D ∧ d = some dd ∧ ExI K D ∧ (rIsX K D a dd xs H Q ∨ rIsXT K D a dd xs H Q)
theorem call_isXc {X : Cx} {a : Addr} {cls : Value} {d : Option Addr} {oe : Obj} {pn : List (Addr × Obj)} (hz : Zc cls d oe) (hf : ∃ vs, oe.data = .fields vs) : CallR (X.suite a ((a, oe) :: pn)) (.builtin "isinstance") (rIsXc X.K cls d a) := by
  intro pins s σ H xs us Q I r h
  obtain ⟨D, dd, rfl, rfl, C, h | h⟩ := h
  · exact call_isX C hz hf pins s σ H xs us Q I r h
  · exact call_isXT C hz hf pins s σ H xs us Q I r h
/-- an error's class with two fields, as it is caught by the name cf, and asked for by cn, ck, and four others -/
structure CatchB (Γ : Sig) (mg : Str → Option Value) (cN : Nat) (cf cn ck c1 c2 c3 c4 f1 f2 : Str) : Prop where
  ex : ∃ CF CN CK A1 A2 A3 A4 : Addr, Γ.cl cN = some CN ∧ Γ.fl cN = [f2, f1] ∧ mg cf = some (.ref CF) ∧ PySem.W.exmOne Γ.K (.ref CN) (.ref CF) = some true ∧ ExI Γ.K CN ∧ XfC Γ.K CN ∧ PySem.W.findIn Γ.K (.ref CN) f1 = some none ∧ PySem.W.findIn Γ.K (.ref CN) f2 = some none ∧
    mg cn = some (.ref CN) ∧ mg ck = some (.ref CK) ∧ PySem.W.kitOne Γ.K (.ref CN) (.ref CK) = some true ∧ mg c1 = some (.ref A1) ∧ mg c2 = some (.ref A2) ∧ mg c3 = some (.ref A3) ∧ mg c4 = some (.ref A4) ∧ PySem.W.kitAny Γ.K (.ref CN) [.ref A1, .ref A2, .ref A3, .ref A4] = some false
section
variable {X : Cx} {Γ : Sig} {fe : Fd} {H0 : Hp} {O Ob : List Nat} {i iy j cN : Nat} {body : Expr} {pe : Env → W D} {mg : Str → Option Value} {x y n cf cn ck c1 c2 c3 c4 f1 f2 w : Str} {kt kt2 kw : Nat}
  {p1 p2 ps1 ps2 ps3 pf py pi1 pi2 pi3 pn1 pn2 pn3 pn4 pn5 q1 q2 q3 q4 qt qn qk pc1 pc2 pc3 pyn pun pb pw pa1 pa2 pt2 pif pos' pos : Pos}
end
end LP
/-! A heap taken out of another: what is left, or, where it is refused by the very class of all its families, what lacks. -/
namespace LP
open PySem PySem.Spec PyProof.Rows L2 PK RZ
/-- what is asked of the class of the error there -/
structure FamL (Γ : Sig) (mg : Str → Option Value) (CN : Addr) (b1 b2 c1 c2 : Str) : Prop where
  xi : ExI Γ.K CN
  g1 : ∃ A, mg b1 = some (.ref A) ∧ PySem.W.kitOne Γ.K (.ref CN) (.ref A) = some true
  g2 : ∃ A, mg b2 = some (.ref A) ∧ PySem.W.kitOne Γ.K (.ref CN) (.ref A) = some true
  g3 : PySem.W.kitOne Γ.K (.ref CN) (.type "ValueError") = some true
  no : ∃ A B, mg c1 = some (.ref A) ∧ mg c2 = some (.ref B) ∧ PySem.W.kitAny Γ.K (.ref CN) [.ref A, .ref B] = some false
def leftTry (wl wk : Str) (m : W D) : W D := (m.bind fun h => (objW 0 h).bind fun h => (rowsW [h]).bind fun r => W.ret (.tup [.str wl, r])).catch_ fun ex => (lackX ex).bind fun h => (objW 0 h).bind fun h => (rowsW [h]).bind fun r => W.ret (.tup [.str wk, r])
section
variable {X : Cx} {Γ : Sig} {fe : Fd} {H0 : Hp} {O Ob : List Nat} {k k2 k3 i j : Nat} {C CN CF f f2 f3 : Addr} {fd fd2 fd3 : FuncData} {o e : Expr} {po pe : Env → W D} {mg : Str → Option Value} {base : Heap} {x n cn b1 b2 c1 c2 ch wl wk : Str} {kt1 kt2 kt3 kw1 kw2 : Nat}
  {p1 p2 p3 p4 p5 pn1 pn2 pn3 pn4 pn5 q1 q2 q3 q4 q5 q6 pa1 pt1 pt2 pt3 pi1 pi2 pi3 pi4 pi5 pc1 pc2 pc3 pc4 pc5 pu pb pb2 pif1 pif2 pw1 pw2 apos apos2 apos3 cpos cpos2 cpos3 spos np pos pos' : Pos}
theorem ls_tryLeft {pl pl2 pl3 : Sem Bool} (M : LessN Γ mg base k C CN f fd) (Rh : RowsH Γ mg base k2 C f2 fd2) (Rw : MetV Γ mg base k3 0 C "rows" f3 fd3 ["self"] rowsW) (Ec : ErrV Γ.K mg CN cn CF) (Fm : FamL Γ mg CN b1 b2 c1 c2) (Hc : HCls Γ.K mg C) (Hi : HIs Γ.K C) (hch : mg ch = some (.ref C))
    (hP : X.prog = Γ.P) (hw : X.w = Γ.w) (hK : X.K = Γ.K) (hmg : X.mg = mg) (hbs : X.base = base) (hr : Room k X.A) (hr2 : Room k2 X.A) (hr3 : Room k3 X.A)
    (hs : X.stack = X.env :: X.outer) (hfr : X.env.frame = some X.env.locals) (hN : X.N.Nodup) (hi : X.N[i]? = some n) (hln : X.env.kindOf n = some .local) (hgl : Gl X cn) (hdb : (cn == ("__debug__" : Str)) = false)
    (hj : X.N[j]? = some x) (hx : Loc X.env.scope x) (hxl : X.env.scope.names.lookup x = some .local) (hij : i ≠ j) (hjO : j ∉ O)
    (ho : ∀ pn xe, LE ⟨Γ, fe⟩ H0 O (X.tr pn xe) o po) (he : ∀ pn xe, LE ⟨Γ, fe⟩ H0 O (X.tr pn xe) e pe)
    (gi : Gl X "isinstance") (mi : mg "isinstance" = none) (gv : Gl X "ValueError") (mv : mg "ValueError" = none) (gb1 : Gl X b1) (gb2 : Gl X b2) (gc1 : Gl X c1) (gc2 : Gl X c2) (gch : Gl X ch)
    (d1 : (b1 == ("__debug__" : Str)) = false) (d2 : (b2 == ("__debug__" : Str)) = false) (d3 : (c1 == ("__debug__" : Str)) = false) (d4 : (c2 == ("__debug__" : Str)) = false) (d5 : (ch == ("__debug__" : Str)) = false) (okl : PyData.strOk wl = true) (okk : PyData.strOk wk = true)
    (hv1 : ∀ a pn, PE (X.suite a pn) (.Name n pn1) (tVar i)) (hv2 : ∀ a pn, PE (X.suite a pn) (.Name n pn2) (tVar i)) (hv3 : ∀ a pn, PE (X.suite a pn) (.Name n pn3) (tVar i)) (hv4 : ∀ a pn, PE (X.suite a pn) (.Name n pn4) (tVar i)) (hv5 : ∀ a pn, PE (X.suite a pn) (.Name n pn5) (tVar i)) (hvar : ∀ a pn, PE (X.suite a pn) (.Name n p3) (tVar i))
    (hst : starEach [e] X.env = (false, eval e X.env) :: starEach [] X.env := by rfl) (hpl : (backTo cpos (starEach [] X.env)).any (·.1) = false := by rfl)
    (ht : eval (.Call (.Attribute o "less" apos) [e] [] cpos) X.env = viaMeth X.env o "less" pl apos cpos [e] [] := by rfl)
    (ht3 : eval (.Call (.Attribute (.Call (.Attribute o "less" apos) [e] [] cpos) "rows" apos3) [] [] cpos3) X.env = viaMeth X.env (.Call (.Attribute o "less" apos) [e] [] cpos) "rows" pl3 apos3 cpos3 [] [] := by rfl)
    (ht2 : eval (.Call (.Attribute (.Attribute (.Name n p3) "lacking" p4) "rows" apos2) [] [] cpos2) X.env = viaMeth X.env (.Attribute (.Name n p3) "lacking" p4) "rows" pl2 apos2 cpos2 [] [] := by rfl)
    (sl1 : starEach [.Call (.Attribute (.Call (.Attribute o "less" apos) [e] [] cpos) "rows" apos3) [] [] cpos3] X.env = (false, eval (.Call (.Attribute (.Call (.Attribute o "less" apos) [e] [] cpos) "rows" apos3) [] [] cpos3) X.env) :: starEach [] X.env := by rfl)
    (sl2 : starEach [.Constant (.str wl) kw1 pw1, .Call (.Attribute (.Call (.Attribute o "less" apos) [e] [] cpos) "rows" apos3) [] [] cpos3] X.env = (false, eval (.Constant (.str wl) kw1 pw1) X.env) :: starEach [.Call (.Attribute (.Call (.Attribute o "less" apos) [e] [] cpos) "rows" apos3) [] [] cpos3] X.env := by rfl)
    (sk1 : starEach [.Call (.Attribute (.Attribute (.Name n p3) "lacking" p4) "rows" apos2) [] [] cpos2] X.env = (false, eval (.Call (.Attribute (.Attribute (.Name n p3) "lacking" p4) "rows" apos2) [] [] cpos2) X.env) :: starEach [] X.env := by rfl)
    (sk2 : starEach [.Constant (.str wk) kw2 pw2, .Call (.Attribute (.Attribute (.Name n p3) "lacking" p4) "rows" apos2) [] [] cpos2] X.env = (false, eval (.Constant (.str wk) kw2 pw2) X.env) :: starEach [.Call (.Attribute (.Attribute (.Name n p3) "lacking" p4) "rows" apos2) [] [] cpos2] X.env := by rfl)
    (hs1 : swapsWith (.Tuple [.Constant (.str wl) kw1 pw1, .Call (.Attribute (.Call (.Attribute o "less" apos) [e] [] cpos) "rows" apos3) [] [] cpos3] kt1 pt1) (some (.Name x p1)) spos.line X.env = pure false := by rfl)
    (hs2 : swapsWith (.Tuple [.Constant (.str wk) kw2 pw2, .Call (.Attribute (.Attribute (.Name n p3) "lacking" p4) "rows" apos2) [] [] cpos2] kt3 pt3) (some (.Name x p2)) p5.line X.env = pure false := by rfl)
    (hba : attributeBase (.Name n p3) "lacking" X.env (eval (.Name n p3) X.env) = eval (.Name n p3) X.env := by rfl) (hba2 : attributeBase (.Name n pn5) "lacking" X.env (eval (.Name n pn5) X.env) = eval (.Name n pn5) X.env := by rfl)
    (e1 : starEach [.Name n pn1, .Name b1 q1] X.env = (false, eval (.Name n pn1) X.env) :: starEach [.Name b1 q1] X.env := by rfl) (e1' : starEach [.Name b1 q1] X.env = (false, eval (.Name b1 q1) X.env) :: starEach [] X.env := by rfl) (k1 : (backTo pc1 (starEach [.Name b1 q1] X.env)).any (·.1) = false := by rfl)
    (e2 : starEach [.Name n pn2, .Name b2 q2] X.env = (false, eval (.Name n pn2) X.env) :: starEach [.Name b2 q2] X.env := by rfl) (e2' : starEach [.Name b2 q2] X.env = (false, eval (.Name b2 q2) X.env) :: starEach [] X.env := by rfl) (k2' : (backTo pc2 (starEach [.Name b2 q2] X.env)).any (·.1) = false := by rfl)
    (e3 : starEach [.Name n pn3, .Name "ValueError" q3] X.env = (false, eval (.Name n pn3) X.env) :: starEach [.Name "ValueError" q3] X.env := by rfl) (e3' : starEach [.Name "ValueError" q3] X.env = (false, eval (.Name "ValueError" q3) X.env) :: starEach [] X.env := by rfl) (k3' : (backTo pc3 (starEach [.Name "ValueError" q3] X.env)).any (·.1) = false := by rfl)
    (e4 : starEach [.Name n pn4, .Tuple [.Name c1 q4, .Name c2 q5] kt2 pt2] X.env = (false, eval (.Name n pn4) X.env) :: starEach [.Tuple [.Name c1 q4, .Name c2 q5] kt2 pt2] X.env := by rfl) (e4' : starEach [.Tuple [.Name c1 q4, .Name c2 q5] kt2 pt2] X.env = (false, eval (.Tuple [.Name c1 q4, .Name c2 q5] kt2 pt2) X.env) :: starEach [] X.env := by rfl) (k4 : (backTo pc4 (starEach [.Tuple [.Name c1 q4, .Name c2 q5] kt2 pt2] X.env)).any (·.1) = false := by rfl)
    (s2 : starEach [.Name c2 q5] X.env = (false, eval (.Name c2 q5) X.env) :: starEach [] X.env := by rfl) (s1 : starEach [.Name c1 q4, .Name c2 q5] X.env = (false, eval (.Name c1 q4) X.env) :: starEach [.Name c2 q5] X.env := by rfl)
    (e5 : starEach [.Attribute (.Name n pn5) "lacking" pa1, .Name ch q6] X.env = (false, eval (.Attribute (.Name n pn5) "lacking" pa1) X.env) :: starEach [.Name ch q6] X.env := by rfl) (e5' : starEach [.Name ch q6] X.env = (false, eval (.Name ch q6) X.env) :: starEach [] X.env := by rfl) (k5 : (backTo pc5 (starEach [.Name ch q6] X.env)).any (·.1) = false := by rfl)
    (t1 : ∀ whole, isTrue (.Call (.Name "isinstance" pi1) [.Name n pn1, .Name b1 q1] [] pc1) X.env whole = (do let v ← whole; standAt (Expr.Call (.Name "isinstance" pi1) [.Name n pn1, .Name b1 q1] [] pc1).pos; holding [v] (truthy v)) := by intro _; rfl)
    (t2 : ∀ whole, isTrue (.Call (.Name "isinstance" pi2) [.Name n pn2, .Name b2 q2] [] pc2) X.env whole = (do let v ← whole; standAt (Expr.Call (.Name "isinstance" pi2) [.Name n pn2, .Name b2 q2] [] pc2).pos; holding [v] (truthy v)) := by intro _; rfl)
    (t3 : ∀ whole, isTrue (.Call (.Name "isinstance" pi3) [.Name n pn3, .Name "ValueError" q3] [] pc3) X.env whole = (do let v ← whole; standAt (Expr.Call (.Name "isinstance" pi3) [.Name n pn3, .Name "ValueError" q3] [] pc3).pos; holding [v] (truthy v)) := by intro _; rfl)
    (t4 : ∀ whole, isTrue (.Call (.Name "isinstance" pi4) [.Name n pn4, .Tuple [.Name c1 q4, .Name c2 q5] kt2 pt2] [] pc4) X.env whole = (do let v ← whole; standAt (Expr.Call (.Name "isinstance" pi4) [.Name n pn4, .Tuple [.Name c1 q4, .Name c2 q5] kt2 pt2] [] pc4).pos; holding [v] (truthy v)) := by intro _; rfl)
    (t5 : ∀ whole, isTrue (.Call (.Name "isinstance" pi5) [.Attribute (.Name n pn5) "lacking" pa1, .Name ch q6] [] pc5) X.env whole = (do let v ← whole; standAt (Expr.Call (.Name "isinstance" pi5) [.Attribute (.Name n pn5) "lacking" pa1, .Name ch q6] [] pc5).pos; holding [v] (truthy v)) := by intro _; rfl) :
    LS ⟨Γ, fe⟩ H0 O O Ob X (.Try [.Assign [.Name x p1] (.Tuple [.Constant (.str wl) kw1 pw1, .Call (.Attribute (.Call (.Attribute o "less" apos) [e] [] cpos) "rows" apos3) [] [] cpos3] kt1 pt1) spos]
        [.ExceptHandler (some (.Name cn np)) (some n) [.If (.BoolOp .And [.Call (.Name "isinstance" pi1) [.Name n pn1, .Name b1 q1] [] pc1, .Call (.Name "isinstance" pi2) [.Name n pn2, .Name b2 q2] [] pc2, .Call (.Name "isinstance" pi3) [.Name n pn3, .Name "ValueError" q3] [] pc3] pb)
          [.If (.BoolOp .And [.UnaryOp .Not (.Call (.Name "isinstance" pi4) [.Name n pn4, .Tuple [.Name c1 q4, .Name c2 q5] kt2 pt2] [] pc4) pu, .Call (.Name "isinstance" pi5) [.Attribute (.Name n pn5) "lacking" pa1, .Name ch q6] [] pc5] pb2)
            [.Assign [.Name x p2] (.Tuple [.Constant (.str wk) kw2 pw2, .Call (.Attribute (.Attribute (.Name n p3) "lacking" p4) "rows" apos2) [] [] cpos2] kt3 pt3) p5] [] pif2] [] pif1] pos'] [] [] pos)
      fun env => (W.want (env[i]? = some none)).bind fun _ => (po env).bind fun d => (objW 0 d).bind fun d => (pe env).bind fun d2 => (leftTry wl wk (lessW [d, d2])).bind fun t => W.ret (.nx (env.set j (some t))) := by
  have nl : ("less" : Str) ∉ Γ.fl 0 := by
    rw [M.s.fl]
    decide +kernel
  have nr : ("rows" : Str) ∉ Γ.fl 0 := by
    rw [M.s.fl]
    decide +kernel
  obtain ⟨xI, ⟨A1, m1, z1⟩, ⟨A2, m2, z2⟩, z3, A3, A4, m3, m4, z4⟩ := Fm
  subst hmg
  refine wkS (L2N.ps_try_as (i := i) (c := .ref CF) (Wout := fun _ _ _ _ => False)
    (tb := fun W => tAsg (tTup (tCons (tC (.str wl)) (tCons (tMeth C "rows" (liF Γ rowsW) [] (fun _ _ _ => True) (tMethX C "less" (liF Γ lessW) (WE W) (liE ⟨Γ, fe⟩ H0 O po) (tCons (liE ⟨Γ, fe⟩ H0 O pe) tNil)) tNil) tNil))) (gName j))
    (ts := fun a cls d => tIfS (tAnd (tB fun σ H Q => (tCons (tVar i) (tCons (tC (.ref A1)) tNil)) σ H fun xs H1 => rIsXc X.K cls d a xs H1 Q) (tAnd (tB fun σ H Q => (tCons (tVar i) (tCons (tC (.ref A2)) tNil)) σ H fun xs H1 => rIsXc X.K cls d a xs H1 Q) (tB fun σ H Q => (tCons (tVar i) (tCons (tC (.ty "ValueError")) tNil)) σ H fun xs H1 => rIsXc X.K cls d a xs H1 Q)))
      (tIfS (tAnd (tNot (tB fun σ H Q => (tCons (tVar i) (tCons (tTup (tCons (tC (.ref A3)) (tCons (tC (.ref A4)) tNil))) tNil)) σ H fun xs H1 => rIsXc X.K cls d a xs H1 Q)) (tB fun σ H Q => (tCons (tXf a cls d CN "lacking" (tVar i)) (tCons (tC (.ref C)) tNil)) σ H fun xs H1 => rIsi X.K xs H1 Q))
        (tAsg (tTup (tCons (tC (.str wk)) (tCons (tMeth0H C "rows" (liF Γ rowsW) (tXf a cls d CN "lacking" (tVar i))) tNil))) (gName j)) tNext) tNext)
    hs hfr hN hi hln ⟨hgl, hdb, .inl Ec.g⟩ (fun _ _ ⟨_, _, _, _, _, _, _, _, _, _, _, _, _, _, _, _, z⟩ => z.elim)
    (fun W pn xe tk _ => pss_one (ps_set hN hj hx (pe_tup (pa_cons pe_str (pa_cons (pe_meth0 (pl := pl3) (X := X.tr pn xe) (E := fun _ _ _ => True) (pe_methX (pl := pl) (X := X.tr pn xe) (ho pn xe) (by show Cls X.K C; rw [hK]; exact M.cls) (by show Meth X.K C _ f; rw [hK]; exact M.me) (by show FnOk X.prog X.w X.K X.mg X.base (L2N.CX X.prog X.w) _ _ _ _ _; rw [hP, hw, hK, hbs]; exact M.ok) hr (by show Binds X.K fd _ _; rw [hK]; exact M.b) (fun σ => L2N.passAt tk σ) (pa_cons (he pn xe) pa_nil hst) hst hpl ht)
      (by show Cls X.K C; rw [hK]; exact Rw.cls) (by show Meth X.K C _ f3; rw [hK]; exact Rw.me) (by show FnOk X.prog X.w X.K X.mg X.base CX0 _ _ _ _ _; rw [hP, hw, hK, hbs]; exact Rw.ok) hr3 (by show Binds X.K fd3 _ _; rw [hK]; exact Rw.b) .nil pass0 ht3) pa_nil sl1) sl2)) hs1 (.inr hxl)))
    (fun a oe cls d pn hz hf => pss_one (ps_if (PW.pt (pw_and (pt_val (pe_callB (call_isXc hz.zc hf) gi mi (by decide +kernel) (pa_cons (hv1 a _) (pa_cons (pe_glob (v := .ref A1) gb1 m1 rfl d1) pa_nil e1') e1) (by decide) (by decide) e1 k1) t1) (pw_and (pt_val (pe_callB (call_isXc hz.zc hf) gi mi (by decide +kernel) (pa_cons (hv2 a _) (pa_cons (pe_glob (v := .ref A2) gb2 m2 rfl d2) pa_nil e2') e2) (by decide) (by decide) e2 k2') t2)
        (pw_and1 (pt_val (pe_callB (call_isXc hz.zc hf) gi mi (by decide +kernel) (pa_cons (hv3 a _) (pa_cons (pe_bltn (v := .ty "ValueError") gv mv (by decide +kernel) rfl) pa_nil e3') e3) (by decide) (by decide) e3 k3') t3)))))
      (pss_one (ps_if (PW.pt (pw_and (pt_not (pt_val (pe_callB (call_isXc hz.zc hf) gi mi (by decide +kernel) (pa_cons (hv4 a _) (pa_cons (pe_tup (pa_cons (pe_glob (v := .ref A3) gc1 m3 rfl d3) (pa_cons (pe_glob (v := .ref A4) gc2 m4 rfl d4) pa_nil s2) s1)) pa_nil e4') e4) (by decide) (by decide) e4 k4) t4)) (pw_and1 (pt_val (pe_callB (X := X.suite a ((a, oe) :: pn)) (k_isi X.K) gi mi (by decide +kernel) (pa_cons (pe_xf (X := X) (C := CN) (by rw [hK]; exact Ec.xf) (by rw [hK]; exact Ec.no) hz.zc hf (hv5 a _) hba2) (pa_cons (pe_glob (v := .ref C) gch hch rfl d5) pa_nil e5') e5) (by decide) (by decide) e5 k5) t5))))
        (pss_one (ps_set hN hj hx (pe_tup (pa_cons pe_str (pa_cons (pe_meth0H (pl := pl2) (X := X.suite a ((a, oe) :: pn)) (pe_xf (X := X) (C := CN) (by rw [hK]; exact Ec.xf) (by rw [hK]; exact Ec.no) hz.zc hf (hvar a _) hba) (by show Cls X.K C; rw [hK]; exact M.cls) (by show Meth X.K C _ f2; rw [hK]; exact Rh.me) (by show L2H.FnH X.prog X.w X.K X.mg X.base CX0 _ _ _ _ _; rw [hP, hw, hK, hbs]; exact Rh.ok) ⟨hr2.dp, hr2.un⟩ ⟨(a, oe), ⟨rfl, hf.choose, hf.choose_spec, hz.2.2 _ hf.choose_spec⟩, List.mem_cons_self⟩ (by show Binds X.K fd2 _ _; rw [hK]; exact Rh.b) ht2) pa_nil sk1) sk2)) hs2 (.inr hxl))) pss_nil)) pss_nil))) ?_
  rintro De σ H ⟨S, A, G, env, E, hA, r, hi0, q⟩
  have nA : ∀ a, (j, a) ∉ A := fun a ha => hjO (by rw [← hA]; exact List.mem_map.mpr ⟨_, ha, rfl⟩)
  have il : i < env.length := (List.getElem?_eq_some_iff.mp hi0).1
  have isC : ∀ {C'}, Γ.cl 0 = some C' → C' = C := fun z => (Option.some.inj (M.s.cl.symm.trans z)).symm
  have sigl : σ.length = env.length := r.len
  refine ⟨S, A, G, env, E, hA, r, (po env).mono (fun d k y H1 g1 r1 hy => ?_) (fun _ z => z) q⟩
  obtain ⟨l, rfl, k⟩ := objW_wp k
  have hy0 := hy
  cases hy with
  | obj h1 h2 hl =>
    rename_i a C' dx xs
    obtain rfl := isC h2
    refine ⟨a, dx, _, rfl, ms_sub _ _ h1, lookup_zip nl, S, A, G, env, E, hA, r1, (pe env).mono (fun d2 k2 y2 H2 g2 r2 hy2 => ?_) (fun _ z => z) k⟩
    refine ⟨fe, S ++ A.map (·.2), [.obj 0 l, d2], fun ex => ((lackX ex).bind fun h => (objW 0 h).bind fun h => (rowsW [h]).bind fun r => W.ret (D.tup [.str wk, r])).wp (fun t => FQ ⟨Γ, fe⟩ H0 S G O Ob De (.nx (env.set j (some t)))) E, r2.muA, r2.ffM, r2.fi, .cons (hy0.same (g2.ms r1.ffM)) (.cons hy2 .nil), fun ex hex C1 d1 H3 g3 f3 nd3 at3 => ?_, (lessW _).mono (fun h k v H3 g3 f3 hv => ?_) (fun _ z => z) k2⟩
    · obtain ⟨c1, xs1, hd1, hxs1⟩ := at3
      match ex, hex, c1, xs1, hd1, hxs1 with
      | ⟨1, [h]⟩, hex, c1, [v], hd1, .cons hv .nil =>
        obtain rfl : C1 = CN := (Option.some.inj (M.z.cl.symm.trans c1)).symm
        refine ⟨true, by rw [hK]; exact Ec.te, fun _ b nb => ?_, fun z => Bool.noConfusion z⟩
        have lsig : i < σ.length := by rw [sigl]; exact il
        have gb : (σ.set i (some (.ref b)))[i]? = some (some (.ref b)) := List.getElem?_set_self lsig
        have hd1' : H3 d1 = some (.xd [("lacking", v)]) := by
          have fl : (Ctx.mk Γ fe).fl 1 = [("lacking" : Str)] := M.z.fl
          rw [hd1, fl]
          rfl
        obtain ⟨l2, rfl, hex⟩ := objW_wp hex
        have R3 := r2.grow g3 f3
        refine ⟨.ref b, gb, C1, d1, rfl, rfl, by rw [hK]; exact xI, .inl ⟨.ref A1, .ref A1, true, _, rfl, fun u hu => by cases hu; rfl, by rw [hK]; exact z1, hd1', true, rfl, iteT ?_⟩⟩
        refine ⟨.ref b, gb, C1, d1, rfl, rfl, by rw [hK]; exact xI, .inl ⟨.ref A2, .ref A2, true, _, rfl, fun u hu => by cases hu; rfl, by rw [hK]; exact z2, hd1', true, rfl, iteT ?_⟩⟩
        refine ⟨.ref b, gb, C1, d1, rfl, rfl, by rw [hK]; exact xI, .inl ⟨.ty "ValueError", .type "ValueError", true, _, rfl, fun u hu => by cases hu; rfl, by rw [hK]; exact z3, hd1', true, rfl, iteT ?_⟩⟩
        refine ⟨.ref b, gb, by show 2 ≤ sizeLine; decide, fun p np => ?_⟩
        have sm1 : Same H3 (upd H3 p (.tup [.ref A3, .ref A4])) := same_new (Same.refl H3) np
        refine ⟨C1, d1, rfl, rfl, by rw [hK]; exact xI, .inr ⟨p, [A3, A4], false, _, rfl, upd_same, by rw [hK]; exact z4, sm1 _ _ hd1', false, rfl, iteT ?_⟩⟩
        have hd4 := sm1 _ _ hd1'
        have R4 := R3.same sm1
        have hv4 := hv.same (same_ms sm1 (M := S ++ A.map (·.2)))
        generalize upd H3 p (.tup [.ref A3, .ref A4]) = H4 at sm1 hd4 R4 hv4
        have hv40 := hv4
        cases hv4 with
        | obj i1 i2 il2 =>
          rename_i a2 C2 dx2 xs2
          obtain rfl := isC i2
          have i1' := ms_sub _ _ i1
          refine ⟨.ref b, gb, rfl, rfl, d1, _, .ref a2, rfl, hd4, rfl, .ref a2, .ref C2, .ref C2, .ref C2, true, rfl, .own C2, .base (.ins i1' (by rw [hK]; exact Hc.cl) (by rw [hK]; exact Hi.ca) (by rw [hK]; exact Hi.cg) (by rw [hK]; exact Hi.ct) (by rw [hK]; exact Hi.cm)), by rw [hK]; exact kit_self _ _, true, rfl, iteT ?_⟩
          refine ⟨.ref b, gb, rfl, rfl, d1, _, .ref a2, rfl, hd4, rfl, a2, dx2, _, rfl, i1', lookup_zip nr, ?_⟩
          refine ⟨fe, S ++ A.map (·.2), [.obj 0 l2], E, R4.muA, R4.ffM, R4.fi, .cons hv40 .nil, fun _ _ _ _ _ _ _ _ _ => trivial, (rowsW _).mono (fun rr k4 v4 H5 g4 f4 hv5 => ?_) (fun _ z => z) hex⟩
          refine ⟨by show 2 ≤ sizeLine; decide, fun p2 np2 => ?_⟩
          have sm2 : Same H5 (upd H5 p2 (.tup [.str wk, v4])) := same_new (Same.refl H5) np2
          have R5 := (R4.grow g4 f4).same sm2
          have hv6 := hv5.same (same_ms sm2 (M := S ++ A.map (·.2)))
          show De.nx (((σ.set i (some (.ref b))).set j (some (.ref p2))).set i none) _
          rw [List.set_comm _ _ hij, List.set_set]
          have e0 : (env.set j (some (D.tup [.str wk, rr])))[i]? = some none := by
            rw [List.getElem?_set_ne fun z => hij z.symm]
            exact hi0
          have R := R5.set nA (v := .ref p2) (d := .tup [.str wk, rr]) (.tup (sqT_mu (SqT.of upd_same) R5.muA) (.cons (.str wk okk) (.cons hv6 .nil)))
          exact k4 A _ _ hA (R.setN e0 none)
    · have R3 := r2.grow g3 f3
      obtain ⟨l2, rfl, k⟩ := objW_wp k
      have hv0 := hv
      cases hv with
      | obj i1 i2 il2 =>
        rename_i a2 C2 dx2 xs2
        obtain rfl := isC i2
        have i1' := ms_sub _ _ i1
        refine ⟨a2, dx2, _, rfl, i1', lookup_zip nr, ?_⟩
        refine ⟨fe, S ++ A.map (·.2), [.obj 0 l2], _, R3.muA, R3.ffM, R3.fi, .cons hv0 .nil, fun _ _ _ _ _ _ _ _ _ => trivial, (rowsW _).mono (fun rr k4 v4 H5 g4 f4 hv5 => ?_) (fun _ z => z) k⟩
        refine ⟨by show 2 ≤ sizeLine; decide, fun p2 np2 => ?_⟩
        have sm2 : Same H5 (upd H5 p2 (.tup [.str wl, v4])) := same_new (Same.refl H5) np2
        have R5 := (R3.grow g4 f4).same sm2
        have hv6 := hv5.same (same_ms sm2 (M := S ++ A.map (·.2)))
        have R := R5.set nA (v := .ref p2) (d := .tup [.str wl, rr]) (.tup (sqT_mu (SqT.of upd_same) R5.muA) (.cons (.str wl okl) (.cons hv6 .nil)))
        exact k4 A _ _ hA R
end
end LP
namespace LP.K04
open PySem PySem.Spec PyProof.Rows L2 PK LP
def bNear_1 (env : Env) : W Fl := ((((getW env 3).bind fun d => ((getW env 4).bind fun d => (((((W.ret (.int 10)).bind fun x => (W.ret (.int 9)).bind fun y => powW x y).bind fun d => ((getW env 6).bind fun d => (W.ret []).bind fun ds => W.ret (d :: ds)).bind fun ds => W.ret (d :: ds)).bind min2W).bind fun d => (W.ret []).bind fun ds => W.ret (d :: ds)).bind fun ds => W.ret (d :: ds)).bind fun ds => W.ret (d :: ds)).bind tupW).bind fun d => putW env 2 (appW d))
def bNear_2 (env : Env) : W Fl := (((((getW env 6).bind fun x => (W.ret (.int 0)).bind fun y => gtW x y).bind asB).bind fun k => W.ite k (((((getW env 0).bind fun d => ((W.ret (.int 5)).bind fun d => (W.ret []).bind fun ds => W.ret (d :: ds)).bind fun ds => W.ret (d :: ds)).bind drawW).bind fun x => (W.ret (.int 0)).bind fun y => gtW x y).bind asB) (W.ret false)).bind fun k => W.ite k (bNear_1 env) (W.ret (.nx env)))
def bNear_3 (env : Env) : W Fl := (thenW (((getW env 5).bind fun x => ((((W.ret (.int 0)).bind fun d => ((W.ret (.int 0)).bind fun d => (((W.ret (.int 1)).bind negW).bind fun d => ((W.ret (.int 1)).bind fun d => (W.ret []).bind fun ds => W.ret (d :: ds)).bind fun ds => W.ret (d :: ds)).bind fun ds => W.ret (d :: ds)).bind fun ds => W.ret (d :: ds)).bind lstW).bind fun x => (((getW env 0).bind fun d => ((W.ret (.int 4)).bind fun d => (W.ret []).bind fun ds => W.ret (d :: ds)).bind fun ds => W.ret (d :: ds)).bind drawW).bind fun y => ixW x y).bind fun y => addW x y).bind fun d => W.ret (.nx (env.set 6 (some d))))
  fun env => (bNear_2 env))
def bNear_4 (env : Env) : W Fl := (thenW (((((getW env 1).bind fun d => (W.ret []).bind fun ds => W.ret (d :: ds)).bind fSummed).bind walkTW).bind fun ds => forW (tupG 3 (gsW (fun d env => W.ret (env.set 3 (some d))) (gsW (fun d env => W.ret (env.set 4 (some d))) (gsW (fun d env => W.ret (env.set 5 (some d))) (fun ds env => match ds with | [] => W.ret env | _ => W.fail))))) (fun env => (bNear_3 env)) ds env)
  fun env => ((((getW env 2).bind fun d => (W.ret []).bind fun ds => W.ret (d :: ds)).bind tupleW).bind fun d => W.ret (.rt d)))
def bNear (env : Env) : W Fl := (thenW (((W.ret []).bind lstW).bind fun d => (W.want (2 < env.length)).bind fun _ => W.ret (.nx (env.set 2 (some d))))
  fun env => (bNear_4 env))
def fNear : List D → W D := runB 2 7 bNear
def bOver_1 (env : Env) : W Fl := ((((getW env 3).bind fun d => ((getW env 4).bind fun d => ((getW env 6).bind fun d => (W.ret []).bind fun ds => W.ret (d :: ds)).bind fun ds => W.ret (d :: ds)).bind fun ds => W.ret (d :: ds)).bind tupW).bind fun d => putW env 2 (appW d))
def bOver_2 (env : Env) : W Fl := ((((getW env 6).bind fun x => (W.ret (.int 0)).bind fun y => gtW x y).bind asB).bind fun k => W.ite k (bOver_1 env) (W.ret (.nx env)))
def bOver_3 (env : Env) : W Fl := (thenW (((getW env 5).bind fun x => (((lcD (fun d env => W.ret (env.set 7 (some d))) (fun env => ((((getW env 7).bind fun d => (W.ret none).bind fun l => ((W.ret (.int 2)).bind partW).bind fun u => slW d l u).bind fun x => (((getW env 3).bind fun d => ((getW env 4).bind fun d => (W.ret []).bind fun ds => W.ret (d :: ds)).bind fun ds => W.ret (d :: ds)).bind tupW).bind fun y => eqW x y).bind asB)) (fun env => ((getW env 7).bind fun x => (W.ret (.int 2)).bind fun y => ixW x y)) [7] (fun env => ((getW env 1).bind walkTW)) env).bind fun d => (W.ret []).bind fun ds => W.ret (d :: ds)).bind sumW).bind fun y => subW x y).bind fun d => W.ret (.nx (env.set 6 (some d))))
  fun env => (bOver_2 env))
def bOver_4 (env : Env) : W Fl := (thenW (((((getW env 0).bind fun d => (W.ret []).bind fun ds => W.ret (d :: ds)).bind fSummed).bind walkTW).bind fun ds => forW (tupG 3 (gsW (fun d env => W.ret (env.set 3 (some d))) (gsW (fun d env => W.ret (env.set 4 (some d))) (gsW (fun d env => W.ret (env.set 5 (some d))) (fun ds env => match ds with | [] => W.ret env | _ => W.fail))))) (fun env => (bOver_3 env)) ds env)
  fun env => ((((getW env 2).bind fun d => (W.ret []).bind fun ds => W.ret (d :: ds)).bind tupleW).bind fun d => W.ret (.rt d)))
def bOver (env : Env) : W Fl := (thenW (((W.ret []).bind lstW).bind fun d => (W.want (2 < env.length)).bind fun _ => W.ret (.nx (env.set 2 (some d))))
  fun env => (bOver_4 env))
def fOver : List D → W D := runB 2 8 bOver
def bLeft_1 (env : Env) : W Fl := (thenW ((W.want (env[3]? = some none)).bind fun _ => (getW env 0).bind fun d => (objW 0 d).bind fun d => (getW env 1).bind fun d2 => (leftTry "left" "lacks" (lessW [d, d2])).bind fun t => W.ret (.nx (env.set 2 (some t))))
  fun env => ((getW env 2).bind fun d => W.ret (.rt d)))
def bLeft (env : Env) : W Fl := (thenW ((((W.ret (.str "other")).bind fun d => ((W.ret .non).bind fun d => (W.ret []).bind fun ds => W.ret (d :: ds)).bind fun ds => W.ret (d :: ds)).bind tupW).bind fun d => W.ret (.nx (env.set 2 (some d))))
  fun env => (bLeft_1 env))
def fLeft : List D → W D := runB 2 4 bLeft
def bLaw_1 (env : Env) : W Fl := ((((W.ret (.str "left")).bind fun d => (((((getW env 4).bind fun x => (getW env 5).bind fun y => ixW x y).bind fun d => (((getW env 4).bind fun x => (getW env 8).bind fun y => ixW x y).bind fun d => (W.ret []).bind fun ds => W.ret (d :: ds)).bind fun ds => W.ret (d :: ds)).bind fOver).bind fun d => (W.ret []).bind fun ds => W.ret (d :: ds)).bind fun ds => W.ret (d :: ds)).bind tupW).bind fun d => W.ret (.nx (env.set 11 (some d))))
def bLaw_2 (env : Env) : W Fl := (((((((((getW env 6).bind fun x => (getW env 5).bind fun y => ixW x y).bind fun d => (((getW env 6).bind fun x => (getW env 8).bind fun y => ixW x y).bind fun d => (W.ret []).bind fun ds => W.ret (d :: ds)).bind fun ds => W.ret (d :: ds)).bind fLeft).bind fun d => (W.ret []).bind fun ds => W.ret (d :: ds)).bind reprD).bind fun x => (((getW env 11).bind fun d => (W.ret []).bind fun ds => W.ret (d :: ds)).bind reprD).bind fun y => neW x y).bind asB).bind fun k => W.ite k ((W.ret (.bl false)).bind fun d => W.ret (.rt d)) (W.ret (.nx env)))
def bLaw_3 (env : Env) : W Fl := (thenW ((((getW env 10).bind fun x => ((W.ret []).bind tupW).bind fun y => eqW x y).bind asB).bind fun k => W.ite k (bLaw_1 env) (W.ret (.nx env)))
  fun env => (bLaw_2 env))
def bLaw_4 (env : Env) : W Fl := (thenW ((((W.ret (.str "lacks")).bind fun d => ((getW env 10).bind fun d => (W.ret []).bind fun ds => W.ret (d :: ds)).bind fun ds => W.ret (d :: ds)).bind tupW).bind fun d => W.ret (.nx (env.set 11 (some d))))
  fun env => (bLaw_3 env))
def bLaw_5 (env : Env) : W Fl := (thenW ((((((((getW env 6).bind fun x => (getW env 5).bind fun y => ixW x y).bind fun d => (objW 0 d).bind fun d => (((getW env 6).bind fun x => (getW env 8).bind fun y => ixW x y).bind fun d => (W.ret []).bind fun ds => W.ret (d :: ds)).bind fun ds => holdsW (d :: ds)).bind fun d => (W.ret []).bind fun ds => W.ret (d :: ds)).bind reprD).bind fun x => ((((getW env 10).bind fun x => ((W.ret []).bind tupW).bind fun y => eqW x y).bind fun d => (W.ret []).bind fun ds => W.ret (d :: ds)).bind reprD).bind fun y => neW x y).bind asB).bind fun k => W.ite k ((W.ret (.bl false)).bind fun d => W.ret (.rt d)) (W.ret (.nx env)))
  fun env => (bLaw_4 env))
def bLaw_6 (env : Env) : W Fl := (thenW (((((getW env 4).bind fun x => (getW env 8).bind fun y => ixW x y).bind fun d => (((getW env 4).bind fun x => (getW env 5).bind fun y => ixW x y).bind fun d => (W.ret []).bind fun ds => W.ret (d :: ds)).bind fun ds => W.ret (d :: ds)).bind fOver).bind fun d => W.ret (.nx (env.set 10 (some d))))
  fun env => (bLaw_5 env))
def bLaw_7 (env : Env) : W Fl := (thenW (((((((getW env 9).bind fun d => (objW 0 d).bind fun d => (W.ret []).bind fun ds => rowsW (d :: ds)).bind fun d => (W.ret []).bind fun ds => W.ret (d :: ds)).bind reprD).bind fun x => (((((((getW env 4).bind fun x => (getW env 5).bind fun y => ixW x y).bind fun x => ((getW env 4).bind fun x => (getW env 8).bind fun y => ixW x y).bind fun y => addW x y).bind fun d => (W.ret []).bind fun ds => W.ret (d :: ds)).bind fSummed).bind fun d => (W.ret []).bind fun ds => W.ret (d :: ds)).bind reprD).bind fun y => neW x y).bind asB).bind fun k => W.ite k ((W.ret (.bl false)).bind fun d => W.ret (.rt d)) (W.ret (.nx env)))
  fun env => (bLaw_6 env))
def bLaw_8 (env : Env) : W Fl := (thenW ((((getW env 6).bind fun x => (getW env 5).bind fun y => ixW x y).bind fun d => (objW 0 d).bind fun d => (((getW env 6).bind fun x => (getW env 8).bind fun y => ixW x y).bind fun d => (W.ret []).bind fun ds => W.ret (d :: ds)).bind fun ds => plusW (d :: ds)).bind fun d => W.ret (.nx (env.set 9 (some d))))
  fun env => (bLaw_7 env))
def bLaw_9 (env : Env) : W Fl := ((((W.ret (.int 4)).bind fun d => (W.ret []).bind fun ds => W.ret (d :: ds)).bind range1W).bind fun ds => forW (fun d env => W.ret (env.set 8 (some d))) (fun env => (bLaw_8 env)) ds env)
def bLaw_10 (env : Env) : W Fl := (thenW ((((W.ret (.int 4)).bind fun d => (W.ret []).bind fun ds => W.ret (d :: ds)).bind range1W).bind fun ds => forW (fun d env => W.ret (env.set 5 (some d))) (fun env => (bLaw_9 env)) ds env)
  fun env => (((lcD (fun d env => W.ret (env.set 12 (some d))) (fun env => (W.ret true)) (fun env => ((getW env 12).bind fun d => (objW 0 d).bind fun d => (W.ret []).bind fun ds => rowsW (d :: ds))) [12] (fun env => ((getW env 6).bind walkLW)) env).bind fun x => (lcD (fun d env => W.ret (env.set 7 (some d))) (fun env => (W.ret true)) (fun env => (((getW env 7).bind fun d => (W.ret []).bind fun ds => W.ret (d :: ds)).bind fSummed)) [7] (fun env => ((getW env 4).bind walkLW)) env).bind fun y => eqW x y).bind fun d => W.ret (.rt d)))
def bLaw_11 (env : Env) : W Fl := (thenW ((lcD (fun d env => W.ret (env.set 7 (some d))) (fun env => (W.ret true)) (fun env => ((getW env 7).bind heapW)) [7] (fun env => ((getW env 4).bind walkLW)) env).bind fun d => W.ret (.nx (env.set 6 (some d))))
  fun env => (bLaw_10 env))
def bLaw_12 (env : Env) : W Fl := (thenW ((((getW env 1).bind fun d => (((getW env 4).bind fun x => (W.ret (.int 0)).bind fun y => ixW x y).bind fun d => (W.ret []).bind fun ds => W.ret (d :: ds)).bind fun ds => W.ret (d :: ds)).bind fNear).bind fun d => putW env 4 (appW d))
  fun env => (bLaw_11 env))
def bLaw_13 (env : Env) : W Fl := (thenW (((lcD (fun d env => W.ret (env.set 5 (some d))) (fun env => (W.ret true)) (fun env => (((getW env 1).bind fun d => ((getW env 2).bind fun d => ((getW env 3).bind fun d => ((W.ret (.int 8)).bind fun d => (W.ret []).bind fun ds => W.ret (d :: ds)).bind fun ds => W.ret (d :: ds)).bind fun ds => W.ret (d :: ds)).bind fun ds => W.ret (d :: ds)).bind fLRows)) [5] (fun env => (((W.ret (.int 2)).bind fun d => (W.ret []).bind fun ds => W.ret (d :: ds)).bind range1W)) env).bind fun x => ((((W.ret []).bind tupW).bind fun d => (W.ret []).bind fun ds => W.ret (d :: ds)).bind lstW).bind fun y => catLW x y).bind fun d => (W.want (4 < env.length)).bind fun _ => W.ret (.nx (env.set 4 (some d))))
  fun env => (bLaw_12 env))
def bLaw (env : Env) : W Fl := (thenW ((((((getW env 1).bind fun d => (((W.ret (.int 1)).bind fun x => (((getW env 1).bind fun d => ((W.ret (.int 4)).bind fun d => (W.ret []).bind fun ds => W.ret (d :: ds)).bind fun ds => W.ret (d :: ds)).bind drawW).bind fun y => addW x y).bind fun d => (W.ret []).bind fun ds => W.ret (d :: ds)).bind fun ds => W.ret (d :: ds)).bind fLNames).bind fun d => ((((getW env 1).bind fun d => (((W.ret (.int 1)).bind fun x => (((getW env 1).bind fun d => ((W.ret (.int 4)).bind fun d => (W.ret []).bind fun ds => W.ret (d :: ds)).bind fun ds => W.ret (d :: ds)).bind drawW).bind fun y => addW x y).bind fun d => (W.ret []).bind fun ds => W.ret (d :: ds)).bind fun ds => W.ret (d :: ds)).bind fLNames).bind fun d => (W.ret []).bind fun ds => W.ret (d :: ds)).bind fun ds => W.ret (d :: ds)).bind tupW).bind fun d => ((tupG 2 (gsW (fun d env => W.ret (env.set 2 (some d))) (gsW (fun d env => W.ret (env.set 3 (some d))) (fun ds env => match ds with | [] => W.ret env | _ => W.fail)))) d env).bind fun env' => W.ret (.nx env'))
  fun env => (bLaw_13 env))
end LP.K04
namespace K04
open PySem PySem.Spec PyProof.Rows L2 PK
def topS (i : Nat) : Stmt := PySem.Challenge.pw_partkits_k04_together_and_less.main.body.getD i (.Pass ⟨0, 0, 0, 0⟩)
abbrev NFeed : List Str := ["_law_script"]
theorem scFeed : FnScope NFeed ["_law_script"] (defScope (topS 12)) := ⟨rfl, rfl, rfl, by decide +kernel, rfl, by decide +kernel, by decide +kernel⟩
section
variable {P : Program} {w : World} {K : PySem.W.Frag} {mg : Str → Option Value} {base : Heap}
def spFeed (K : PySem.W.Frag) : Sp := fun vs H Q _ => ∃ (a : Addr) (ns : List Int), vs = [.ref a] ∧ SqL K H a (ns.map V.int) ∧
  ∀ p c H', H p = none → Same H H' → IsFeed H' p c → Q (.ref p) H'
theorem ok_feed {f : Addr} {fd : FuncData} {k : Nat} (F : Fun K "_law_feed" "_law_feed" (topS 12) f fd) (hL : mg "list" = none) :
    FnOk P w K mg base CX0 (k + 1) f fd ["_law_script"] (spFeed K) := by
  refine F.ok scFeed (fun vs H Q E h => ?_) (fun cdv A outer s H vs Q E hr h => ?_)
  · obtain ⟨a, ns, rfl, _⟩ := h
    rfl
  · obtain ⟨a, ns, rfl, hS, q⟩ := h
    refine ⟨_, (pss_one (ps_ret (pe_disp (pps_cons pe_str (pe_callTy (k_list K) (by rfl) hL (by decide +kernel) (pa_cons (pe_slice (ks_list K) (pv 0) po_none (po_some pe_int)) pa_nil)) (pps_cons pe_str pe_int (pps_cons pe_str pe_int (pps_cons pe_str pe_int pps_nil)))) (by rfl) (by rfl) (fun z => by cases z) (by decide)))), ?_⟩
    intro p np
    have sp : Same H (upd H p (.dK [])) := same_new (Same.refl H) np
    refine ⟨.ref a, rfl, 63, rfl, a, ns.map V.int, rfl, sp.seq hS, fun c nc => ?_⟩
    have ncp : c ≠ p := fun e => by
      rw [e, upd_same] at nc
      cases nc
    refine ⟨c, _, rfl, .inl (.inl (.inl upd_same)), fun d nd => ?_⟩
    have ndp : d ≠ p := fun e => by
      rw [e, upd_ne ncp.symm, upd_same] at nd
      cases nd
    refine ⟨?_, feed d 0 0 0, rfl, by show 4 ≤ 15; decide, ?_⟩
    · rw [upd_ne ndp.symm, upd_ne ncp.symm, upd_same]
    · rw [feed_merge]
      have s2 : Same H (upd (upd (upd H p (.dK [])) c (.lst (cutV (ns.map V.int) none (some 63)))) d (.lst (cutV (ns.map V.int) none (some 63)))) := same_new (same_new sp nc) nd
      refine q p d _ np (same_own s2 np) ⟨(ns.drop (HT.sIx ns.length 0 none)).take (HT.sIx ns.length ns.length (some 63) - HT.sIx ns.length 0 none), 0, 0, 0, upd_same, ?_, by decide⟩
      rw [upd_ne ndp, upd_same]
      unfold cutV
      rw [List.map_take, List.map_drop, List.length_map]
end
abbrev NDraw : List Str := ["_law_feed_here", "_law_many_here", "_law_figure", "_law_at", "_law_cell", "_law_mixed"]
theorem scDraw : FnScope NDraw ["_law_feed_here", "_law_many_here"] (defScope (topS 13)) := ⟨rfl, rfl, rfl, by decide +kernel, rfl, by decide +kernel, by decide +kernel⟩
section
variable {P : Program} {w : World} {K : PySem.W.Frag} {mg : Str → Option Value} {base : Heap}
theorem ok_draw {f : Addr} {fd : FuncData} {k : Nat} (F : Fun K "_law_draw" "_law_draw" (topS 13) f fd) (hl : mg "len" = none) :
    FnOk P w K mg base CX0 (k + 1) f fd ["_law_feed_here", "_law_many_here"] spDraw := by
  refine F.ok scDraw (fun vs H Q E h => ?_) (fun cdv A outer s H vs Q E hr h => ?_)
  · obtain ⟨a, c, m, rfl, _⟩ := h
    rfl
  · obtain ⟨a, c, m, rfl, ⟨cs, i, l, n, fd⟩, m0, m1, q⟩ := h
    have e0 : Ext a H H := Ext.refl a H
    refine ⟨_, (pss_cons (ps_dput (hu_of hr) (pv 0) pe_str (pe_op op_add (pe_dget (hu_of hr) (pv 0) pe_str (fun _ _ => rfl)) pe_int) rfl)
  (pss_cons (ps_if (pt_cmpR op_gt (pe_dget (hu_of hr) (pv 0) pe_str (fun _ _ => rfl)) pe_int (nomark _))
  (pss_cons (ps_set (i := 2) scDraw.nd rfl (.inl rfl) (pe_op op_mod (pe_dget (hu_of hr) (pv 0) pe_str (fun _ _ => rfl)) (pv 1)))
  (pss_cons (ps_dput (hu_of hr) (pv 0) pe_str (pe_op op_fdiv (pe_dget (hu_of hr) (pv 0) pe_str (fun _ _ => rfl)) (pv 1)) rfl)
  (pss_one (ps_ret (pv 2))))) pss_nil)
  (pss_cons (ps_set (i := 3) scDraw.nd rfl (.inl rfl) (pe_dget (hu_of hr) (pv 0) pe_str (fun _ _ => rfl)))
  (pss_cons (ps_dput (hu_of hr) (pv 0) pe_str (pe_op op_add (pv 3) pe_int) rfl)
  (Evl.pss_cut (ps_set (i := 4) scDraw.nd rfl (.inl rfl) (pe_ifExp (pt_cmpR (ko_neNil K hr) (pe_dget (hu_of hr) (pv 0) pe_str (fun _ _ => rfl)) (pe_lst pa_nil) (nomark _)) (pe_ix (kx_list K) (pe_dget (hu_of hr) (pv 0) pe_str (fun _ _ => rfl)) (pe_op op_mod (pv 3) (pe_callB (k_len K) (by rfl) hl PySem.boot_len (pa_cons (pe_dget (hu_of hr) (pv 0) pe_str (fun _ _ => rfl)) pa_nil))) (fun _ _ => rfl)) pe_int))
  (Evl.pss_cut (ps_if (PW.pt (pw_and (pt_cmpR op_ge (pv 4) (pe_op op_pow pe_int pe_int) (nomark _)) (pw_and1 (pt_cmpR op_lt (pv 3) (pe_callB (k_len K) (by rfl) hl PySem.boot_len (pa_cons (pe_dget (hu_of hr) (pv 0) pe_str (fun _ _ => rfl)) pa_nil)) (nomark _)))))
  (pss_cons (ps_dput (hu_of hr) (pv 0) pe_str (pe_op op_fdiv (pv 4) (pv 1)) rfl)
  (pss_one (ps_ret (pe_op op_mod (pv 4) (pv 1))))) pss_nil)
  (pss_cons (ps_set (i := 5) scDraw.nd rfl (.inl rfl) (pe_op op_mod (pe_op op_add (pe_op op_add (pe_op op_mod (pv 4) pe_int) (pe_op op_mul pe_int (pe_dget (hu_of hr) (pv 0) pe_str (fun _ _ => rfl)))) pe_int) pe_int))
  (pss_cons (ps_set (i := 5) scDraw.nd rfl (.inl rfl) (pe_op op_mod (pe_op op_add (pe_op op_add (pe_op op_mul (pv 5) (pv 5)) (pe_op op_mul pe_int (pe_dget (hu_of hr) (pv 0) pe_str (fun _ _ => rfl)))) pe_int) pe_int))
  (pss_one (ps_ret (pe_op op_mod (pe_op op_fdiv (pe_op op_mod (pe_op op_add (pe_op op_mul (pv 5) (pv 5)) (pe_op op_mul pe_int (pv 5))) pe_int) pe_int) (pv 1)))))))))))), ?_⟩
    refine ⟨.ref a, rfl, a, .int n, rfl, DGet.k (k := kN) fd.d, n, 1, rfl, rfl, .ref a, rfl, a, _, rfl, DPut.k (k := kN) fd.d (feed_len c i l n), ?_⟩
    rw [feed_putN]
    have f1 := fd.put (l' := l) (n' := n + 1) fd.i0
    have e1 : Ext a H (upd H a (.dK (feed c i l (n + 1)))) := e0.at
    generalize upd H a (.dK (feed c i l (n + 1))) = H1 at f1 e1
    refine ⟨.ref a, rfl, a, .int l, rfl, DGet.k (k := kL) f1.d, l, 0, rfl, rfl, _, rfl, ite2 (fun hl0 => ?_) (fun hl0 => ?_)⟩
    · have hl0 : 0 < l := of_decide_eq_true hl0
      refine ⟨.ref a, rfl, a, .int l, rfl, DGet.k (k := kL) f1.d, .int m, rfl, l, m, rfl, rfl, m0, ?_⟩
      refine ⟨.ref a, rfl, a, .int l, rfl, DGet.k (k := kL) f1.d, .int m, rfl, l, m, rfl, rfl, ⟨m0, by omega⟩, .ref a, rfl, a, _, rfl, DPut.k (k := kL) f1.d (feed_len c i l (n + 1)), ?_⟩
      rw [feed_putL]
      refine ⟨.int (l % m), rfl, q _ _ (Int.emod_nonneg _ (by omega)) (Int.emod_lt_of_pos _ m0) e1.at ?_⟩
      exact ⟨cs, _, _, _, f1.put f1.i0⟩
    · refine ⟨.ref a, rfl, a, .int i, rfl, DGet.k (k := kA) f1.d, .int i, rfl, i, 1, rfl, rfl, .ref a, rfl, a, _, rfl, DPut.k (k := kA) f1.d (feed_len c i l (n + 1)), ?_⟩
      rw [feed_putA]
      have i1 : 0 ≤ i + 1 := by have := f1.i0; omega
      have f2 := f1.put (l' := l) (n' := n + 1) i1
      have e2 : Ext a H (upd H1 a (.dK (feed c (i + 1) l (n + 1)))) := e1.at
      generalize upd H1 a (.dK (feed c (i + 1) l (n + 1))) = H2 at f2 e2
      -- the cell
      refine ⟨fun σ H3 => ∃ z, σ = [some (.ref a), some (.int m), none, some (.int i), some (.int z), none] ∧ Feed H3 a c cs (i + 1) l (n + 1) ∧ Ext a H H3, ?_, ?_⟩
      · refine ⟨.ref a, rfl, a, .ref c, rfl, DGet.k (k := kC) f2.d, Nat.zero_le _, fun p np => ⟨c, p, cs.map V.int, rfl, rfl, .inl (.inl ((f2.new np).l)), .inl (.inl upd_same), ?_⟩⟩
        have f3 := f2.new (o := .lst []) np
        have e3 : Ext a H (upd H2 p (.lst [])) := e2.new np
        generalize upd H2 p (.lst []) = H3 at f3 e3
        cases cs with
        | nil => exact ⟨_, rfl, iteF ⟨8, rfl, f3, e3⟩⟩
        | cons x r =>
          have hlen : (((x :: r).map V.int).length : Int) = ((r.length + 1 : Nat) : Int) := by
            rw [List.length_map, List.length_cons]
          refine ⟨_, rfl, iteT ⟨.ref a, rfl, a, .ref c, rfl, DGet.k (k := kC) f3.d, .int i, rfl, .ref a, rfl, a, .ref c, rfl, DGet.k (k := kC) f3.d, c, _, rfl, .inl (.inl (.inl f3.l)), i, _, rfl, rfl, ?_, ?_⟩⟩
          · rw [hlen]
            omega
          · have hb : (i % ((((x :: r).map V.int).length : Nat) : Int)).toNat < (x :: r).length := by
              rw [hlen, List.length_cons]
              have h1 := Int.emod_nonneg i (show ((r.length + 1 : Nat) : Int) ≠ 0 by omega)
              have h2 := Int.emod_lt_of_pos i (show (0 : Int) < ((r.length + 1 : Nat) : Int) by omega)
              omega
            have h0 : 0 ≤ i % ((((x :: r).map V.int).length : Nat) : Int) := Int.emod_nonneg _ (by rw [hlen]; omega)
            refine ⟨c, _, _, .int ((x :: r)[(i % ((((x :: r).map V.int).length : Nat) : Int)).toNat]), rfl, rfl, .inl (.inl f3.l), at_of (j := (i % ((((x :: r).map V.int).length : Nat) : Int)).toNat) (by omega) ?_, ?_⟩
            · rw [List.getElem?_map, List.getElem?_eq_getElem hb]
              rfl
            · exact ⟨_, rfl, f3, e3⟩
      · rintro σ H3 ⟨z, rfl, f3, e3⟩
        -- a great cell, or a lesser one
        refine ⟨fun σ H4 => σ = [some (.ref a), some (.int m), none, some (.int i), some (.int z), none] ∧ H4 = H3, ?_, ?_⟩
        · refine ⟨.int z, rfl, 10, 18, rfl, rfl, ⟨by decide, by decide, by decide⟩, _, _, rfl, rfl, _, rfl, ite2 (fun hz => ?_) (fun hz => iteF ⟨rfl, rfl⟩)⟩
          refine ⟨.int i, rfl, .ref a, rfl, a, .ref c, rfl, DGet.k (k := kC) f3.d, c, _, rfl, .inl (.inl (.inl f3.l)), _, _, rfl, rfl, _, rfl, ite2 (fun h2 => ?_) (fun h2 => ⟨rfl, rfl⟩)⟩
          refine ⟨.int z, rfl, .int m, rfl, z, m, rfl, rfl, ⟨m0, by omega⟩, .ref a, rfl, a, _, rfl, DPut.k (k := kL) f3.d (feed_len c (i + 1) l (n + 1)), ?_⟩
          rw [feed_putL]
          refine ⟨.int z, rfl, .int m, rfl, z, m, rfl, rfl, m0, q _ _ (Int.emod_nonneg _ (by omega)) (Int.emod_lt_of_pos _ m0) e3.at ?_⟩
          exact ⟨cs, _, _, _, f3.put f3.i0⟩
        · rintro σ H4 ⟨rfl, rfl⟩
          have fin : IsFeed H4 a c := ⟨cs, _, _, _, f3⟩
          refine ⟨.int z, rfl, z, 1000000033, rfl, rfl, (show (0 : Int) < 1000000033 by decide), .ref a, rfl, a, .int (n + 1), rfl, DGet.k (k := kN) f3.d, 70001, n + 1, rfl, rfl, .inl ⟨by decide, by decide⟩, _, _, rfl, rfl, _, 37, rfl, rfl, _, 2147483587, rfl, rfl, (show (0 : Int) < 2147483587 by decide), ?_⟩
          dsimp only
          have hx0 := Int.emod_nonneg (z % 1000000033 + 70001 * (n + 1) + 37) (show (2147483587 : Int) ≠ 0 by decide)
          have hx1 := Int.emod_lt_of_pos (z % 1000000033 + 70001 * (n + 1) + 37) (show (0 : Int) < 2147483587 by decide)
          generalize (z % 1000000033 + 70001 * (n + 1) + 37) % 2147483587 = x at hx0 hx1
          refine ⟨.int x, rfl, .int x, rfl, x, x, rfl, rfl, .inl ⟨by omega, by omega⟩, .ref a, rfl, a, .int (n + 1), rfl, DGet.k (k := kN) f3.d, 6700417, n + 1, rfl, rfl, .inl ⟨by decide, by decide⟩, _, _, rfl, rfl, _, 7, rfl, rfl, _, 2147483563, rfl, rfl, (show (0 : Int) < 2147483563 by decide), ?_⟩
          dsimp only
          have hy0 := Int.emod_nonneg (x * x + 6700417 * (n + 1) + 7) (show (2147483563 : Int) ≠ 0 by decide)
          have hy1 := Int.emod_lt_of_pos (x * x + 6700417 * (n + 1) + 7) (show (0 : Int) < 2147483563 by decide)
          generalize (x * x + 6700417 * (n + 1) + 7) % 2147483563 = y at hy0 hy1
          refine ⟨.int y, rfl, .int y, rfl, y, y, rfl, rfl, .inl ⟨by omega, by omega⟩, .int y, rfl, 17, y, rfl, rfl, .inl ⟨by decide, by decide⟩, _, _, rfl, rfl, _, 2147483549, rfl, rfl, (show (0 : Int) < 2147483549 by decide), _, 8, rfl, rfl, ⟨by decide, by decide⟩, .int m, rfl, _, m, rfl, rfl, m0, ?_⟩
          exact q _ _ (Int.emod_nonneg _ (by omega)) (Int.emod_lt_of_pos _ m0) e3 fin
end
end K04
namespace LP.K04
open PySem PySem.Spec PyProof.Rows L2 PK LP RZ
open _root_.K04 (topS)
section
variable {Γ : Sig} {mg : Str → Option Value} {base : Heap}
abbrev NLNames : List Str := ["_law_feed_here", "_law_many_here", "_law_letters", "_law_found", "_law_at", "_law_k", "_law_tail", "_law_j"]
theorem scLNames : FnScope NLNames ["_law_feed_here", "_law_many_here"] (defScope (topS 14)) := ⟨rfl, rfl, rfl, by decide +kernel, rfl, by decide +kernel, by decide +kernel⟩
theorem ok_LNames {f : Addr} {fd : FuncData} (F : Fun Γ.K "_law_names" "_law_names" (topS 14) f fd) (hB : NoB mg BL)  {gDraw : Addr} {dDraw : FuncData} (CDraw : CalV Γ mg base 1 "_law_draw" gDraw dDraw ["_law_feed_here", "_law_many_here"] drawW) :
    FnOk Γ.P Γ.w Γ.K mg base CX0 2 f fd ["_law_feed_here", "_law_many_here"] (liF Γ fLNames) :=
  ok_run F scLNames rfl rfl (fun fe cdv A outer s H E hr =>
  (lss_cons (O2 := []) (ls_set (O' := []) (i := 2) scLNames.nd rfl (.inr rfl) le_str)
  (lss_cons (O2 := [3]) (ls_own (O' := []) (i := 3) scLNames.nd rfl (.inl rfl) (ln_lst la_nil))
  (lss_cons (O2 := [3]) (ls_set (O' := [3]) (i := 4) scLNames.nd rfl (.inl rfl) (le_call CDraw rfl rfl rfl rfl rfl (hr.mono (by decide)) (by rfl) (la_cons (le_var 0 (by decide) (pv 0)) (la_cons le_int la_nil))))
  (lss_cons (O2 := []) (ls_for (vs := [5]) PassesOwn.never rfl (li_range (by rfl) (hB "range" (by decide +kernel)) (la_cons (le_var 1 (by decide) (pv 1)) la_nil)) (lg_name 5 (by decide) (by decide) (pg_name (i := 5) scLNames.nd rfl (.inl rfl)))
  (lss_last (ls_if (O' := [3]) (PW.pt (lw_and (lt_ne hr rfl (lb_var 3 (pv 3)) (lb (le_lst la_nil))) (lw_and (lt_lt (lb (le_len rfl (by rfl) (hB "len" (by decide +kernel)) (lab_cons (lb (le_item rfl (fun _ _ => rfl) (lb_var 3 (pv 3)) (lb (le_neg le_int)))) lab_nil))) (lb le_int)) (lw_and1 (lt_eq hr rfl (lb (le_call CDraw rfl rfl rfl rfl rfl (hr.mono (by decide)) (by rfl) (la_cons (le_var 0 (by decide) (pv 0)) (la_cons le_int la_nil)))) (lb le_int))))))
  (lss_last (ls_append (i := 3) (by decide) (pe_bm PySem.F.plainAttrs_list PySem.F.slot_list_append PySem.F.type_list_append mt_append (pv 3) (pa_cons (le_add rfl (lb (le_item rfl (fun _ _ => rfl) (lb_var 3 (pv 3)) (lb (le_neg le_int)))) (lb (le_item rfl (fun _ _ => rfl) (lb_var 2 (pv 2)) (lb (le_call CDraw rfl rfl rfl rfl rfl (hr.mono (by decide)) (by rfl) (la_cons (le_var 0 (by decide) (pv 0)) (la_cons le_int la_nil))))))) pa_nil)))) (lss_cons (O2 := [3]) (ls_set (O' := [3]) (i := 4) scLNames.nd rfl (.inl rfl) (le_add rfl (lb_var 4 (pv 4)) (lb le_int)))
  (lss_cons (O2 := [3]) (ls_lcF (O' := [3]) (i := 6) (own := [("_law_j", 7)]) rfl scLNames.nd rfl rfl (sw_true rfl rfl rfl (by decide +kernel)) (li_range (by rfl) (hB "range" (by decide +kernel)) (la_cons (le_item rfl (fun _ _ => rfl) (lb (le_lst (la_cons le_int (la_cons le_int (la_cons le_int (la_cons le_int la_nil)))))) (lb (le_call CDraw rfl rfl rfl rfl rfl (hr.mono (by decide)) (by rfl) (la_cons (le_var 0 (by decide) (pv 0)) (la_cons le_int la_nil))))) la_nil)) (blkOk_by (N := NLNames) (sc := defScope (topS 14)) (own := [("_law_j", 7)]) (by decide +kernel)) (by decide) (fun _ _ _ _ _ => (lg_name 7 (by decide) (by decide) (pg_name (i := 7) scLNames.nd rfl (.inl rfl)))) (fun _ _ _ _ _ => lts_nil) (fun _ _ _ _ _ => (le_item rfl (fun _ _ => rfl) (lb_var 2 (pv 2)) (lb (le_call CDraw rfl rfl rfl rfl rfl (hr.mono (by decide)) (by rfl) (la_cons (le_var 0 (by decide) (pv 0)) (la_cons le_int la_nil)))))))
  (lss_last (ls_append (i := 3) (by decide) (pe_bm PySem.F.plainAttrs_list PySem.F.slot_list_append PySem.F.type_list_append mt_append (pv 3) (pa_cons (le_add rfl (lb (le_item rfl (fun _ _ => rfl) (lb_var 2 (pv 2)) (lb (le_mod (lb_var 4 (pv 4)) (lb le_int))))) (lb (le_join rfl (lb le_str) (lb_var 6 (pv 6))))) pa_nil)))))))))
  (lss_one (ls_ret (le_var 3 (by decide) (pv 3)))))))))
abbrev NLMany : List Str := ["_law_feed_here"]
theorem scLMany : FnScope NLMany ["_law_feed_here"] (defScope (topS 15)) := ⟨rfl, rfl, rfl, by decide +kernel, rfl, by decide +kernel, by decide +kernel⟩
theorem ok_LMany {f : Addr} {fd : FuncData} (F : Fun Γ.K "_law_many" "_law_many" (topS 15) f fd) (hB : NoB mg BL)  {gDraw : Addr} {dDraw : FuncData} (CDraw : CalV Γ mg base 1 "_law_draw" gDraw dDraw ["_law_feed_here", "_law_many_here"] drawW) :
    FnOk Γ.P Γ.w Γ.K mg base CX0 2 f fd ["_law_feed_here"] (liF Γ fLMany) :=
  ok_run F scLMany rfl rfl (fun fe cdv A outer s H E hr =>
  (lss_one (ls_ret (le_item rfl (fun _ _ => rfl) (lb (le_lst (la_cons le_int (la_cons (le_add rfl (lb le_int) (lb (le_call CDraw rfl rfl rfl rfl rfl (hr.mono (by decide)) (by rfl) (la_cons (le_var 0 (by decide) (pv 0)) (la_cons le_int la_nil))))) (la_cons (le_sub (lb (le_pow (lb le_int) (lb le_int))) (lb (le_call CDraw rfl rfl rfl rfl rfl (hr.mono (by decide)) (by rfl) (la_cons (le_var 0 (by decide) (pv 0)) (la_cons le_int la_nil))))) (la_cons (le_add rfl (lb le_int) (lb (le_call CDraw rfl rfl rfl rfl rfl (hr.mono (by decide)) (by rfl) (la_cons (le_var 0 (by decide) (pv 0)) (la_cons (le_pow (lb le_int) (lb le_int)) la_nil))))) la_nil)))))) (lb (le_call CDraw rfl rfl rfl rfl rfl (hr.mono (by decide)) (by rfl) (la_cons (le_var 0 (by decide) (pv 0)) (la_cons le_int la_nil))))))))
abbrev NLRows : List Str := ["_law_feed_here", "_law_forms", "_law_shades", "_law_most_now", "_law_found", "_law_k", "_law_form", "_law_shade"]
theorem scLRows : FnScope NLRows ["_law_feed_here", "_law_forms", "_law_shades", "_law_most_now"] (defScope (topS 16)) := ⟨rfl, rfl, rfl, by decide +kernel, rfl, by decide +kernel, by decide +kernel⟩
theorem ok_LRows {f : Addr} {fd : FuncData} (F : Fun Γ.K "_law_rows" "_law_rows" (topS 16) f fd) (hB : NoB mg BL)  {gDraw : Addr} {dDraw : FuncData} (CDraw : CalV Γ mg base 1 "_law_draw" gDraw dDraw ["_law_feed_here", "_law_many_here"] drawW) {gLMany : Addr} {dLMany : FuncData} (CLMany : CalV Γ mg base 2 "_law_many" gLMany dLMany ["_law_feed_here"] fLMany) :
    FnOk Γ.P Γ.w Γ.K mg base CX0 3 f fd ["_law_feed_here", "_law_forms", "_law_shades", "_law_most_now"] (liF Γ fLRows) :=
  ok_run F scLRows rfl rfl (fun fe cdv A outer s H E hr =>
  (lss_cons (O2 := [4]) (ls_own (O' := []) (i := 4) scLRows.nd rfl (.inl rfl) (ln_lst la_nil))
  (lss_cons (O2 := []) (ls_for (vs := [5]) PassesOwn.never rfl (li_range (by rfl) (hB "range" (by decide +kernel)) (la_cons (le_call CDraw rfl rfl rfl rfl rfl (hr.mono (by decide)) (by rfl) (la_cons (le_var 0 (by decide) (pv 0)) (la_cons (le_add rfl (lb_var 3 (pv 3)) (lb le_int)) la_nil))) la_nil)) (lg_name 5 (by decide) (by decide) (pg_name (i := 5) scLRows.nd rfl (.inl rfl)))
  (lss_cons (O2 := [4]) (ls_set (O' := [4]) (i := 6) scLRows.nd rfl (.inl rfl) (le_item rfl (fun _ _ => rfl) (lb_var 1 (pv 1)) (lb (le_call CDraw rfl rfl rfl rfl rfl (hr.mono (by decide)) (by rfl) (la_cons (le_var 0 (by decide) (pv 0)) (la_cons (le_len rfl (by rfl) (hB "len" (by decide +kernel)) (lab_cons (lb_var 1 (pv 1)) lab_nil)) la_nil))))))
  (lss_cons (O2 := [4]) (ls_set (O' := [4]) (i := 7) scLRows.nd rfl (.inl rfl) (le_item rfl (fun _ _ => rfl) (lb_var 2 (pv 2)) (lb (le_call CDraw rfl rfl rfl rfl rfl (hr.mono (by decide)) (by rfl) (la_cons (le_var 0 (by decide) (pv 0)) (la_cons (le_len rfl (by rfl) (hB "len" (by decide +kernel)) (lab_cons (lb_var 2 (pv 2)) lab_nil)) la_nil))))))
  (lss_last (ls_append (i := 4) (by decide) (pe_bm PySem.F.plainAttrs_list PySem.F.slot_list_append PySem.F.type_list_append mt_append (pv 4) (pa_cons (le_tup (la_cons (le_var 6 (by decide) (pv 6)) (la_cons (le_var 7 (by decide) (pv 7)) (la_cons (le_call CLMany rfl rfl rfl rfl rfl (hr.mono (by decide)) (by rfl) (la_cons (le_var 0 (by decide) (pv 0)) la_nil)) la_nil)))) pa_nil)))))))
  (lss_one (ls_ret (le_tuple rfl (by rfl) (hB "tuple" (by decide +kernel)) (lab_cons (lb_var 4 (pv 4)) lab_nil)))))))
abbrev NSummed : List Str := ["_law_rows_here", "_law_found", "_law_rest", "_law_row", "_law_part", "_law_one"]
theorem scSummed : FnScope NSummed ["_law_rows_here"] (defScope (topS 17)) := ⟨rfl, rfl, rfl, by decide +kernel, rfl, by decide +kernel, by decide +kernel⟩
theorem ok_Summed {f : Addr} {fd : FuncData} (F : Fun Γ.K "_law_summed" "_law_summed" (topS 17) f fd) (hB : NoB mg BL)  :
    FnOk Γ.P Γ.w Γ.K mg base CX0 1 f fd ["_law_rows_here"] (liF Γ fSummed) :=
  ok_run F scSummed rfl rfl (fun fe cdv A outer s H E hr =>
  (lss_cons (O2 := [1]) (ls_parN (i := 1) (j := 2) rfl scSummed.nd rfl rfl (by decide) rfl rfl (le_new (ln_lc (own := [("_law_row", 3)]) rfl scSummed.nd (li_tup (le_var 0 (by decide) (pv 0)) rfl) (blkOk_by (N := NSummed) (sc := defScope (topS 17)) (own := [("_law_row", 3)]) (by decide +kernel)) (by decide) (fun _ _ _ _ _ => (lg_name 3 (by decide) (by decide) (pg_name (i := 3) scSummed.nd rfl (.inl rfl)))) (fun _ _ _ _ _ => lts_nil) (fun _ _ _ _ _ => (le_slice rfl (lb_var 3 (pv 3)) lo_none (lo_some le_int))))) (by rfl) (by decide) (by decide))
  (lss_cons (O2 := []) (ls_while PassesOwn.never (lt_ne hr rfl (lb_var 2 (pv 2)) (lb (le_lst la_nil)))
  (lss_cons (O2 := [1]) (ls_set (O' := [1]) (i := 4) scSummed.nd rfl (.inr rfl) (le_minL rfl hr rfl (by rfl) (hB "min" (by decide +kernel)) (lab_cons (lb_var 2 (pv 2)) lab_nil)))
  (lss_cons (O2 := [1]) (ls_lcF (O' := [1]) (i := 2) (own := [("_law_one", 5)]) rfl scSummed.nd rfl rfl (sw_true rfl rfl rfl (by decide +kernel)) (li_list (le_var 2 (by decide) (pv 2)) rfl) (blkOk_by (N := NSummed) (sc := defScope (topS 17)) (own := [("_law_one", 5)]) (by decide +kernel)) (by decide) (fun _ _ _ _ _ => (lg_name 5 (by decide) (by decide) (pg_name (i := 5) scSummed.nd rfl (.inl rfl)))) (fun _ _ _ _ _ => (lts_one (lt_ne hr rfl (lb_var 5 (pv 5)) (lb_var 4 (pv 4))))) (fun _ _ _ _ _ => (le_var 5 (by decide) (pv 5))))
  (lss_last (ls_append (i := 1) (by decide) (pe_bm PySem.F.plainAttrs_list PySem.F.slot_list_append PySem.F.type_list_append mt_append (pv 1) (pa_cons (le_add rfl (lb_var 4 (pv 4)) (lb (le_tup (la_cons (le_sum rfl rfl (by rfl) (hB "sum" (by decide +kernel)) (lab_cons (lb (le_new (ln_lc (own := [("_law_row", 3)]) rfl scSummed.nd (li_tup (le_var 0 (by decide) (pv 0)) rfl) (blkOk_by (N := NSummed) (sc := defScope (topS 17)) (own := [("_law_row", 3)]) (by decide +kernel)) (by decide) (fun _ _ _ _ _ => (lg_name 3 (by decide) (by decide) (pg_name (i := 3) scSummed.nd rfl (.inl rfl)))) (fun _ _ _ _ _ => (lts_one (lt_eq hr rfl (lb (le_slice rfl (lb_var 3 (pv 3)) lo_none (lo_some le_int))) (lb_var 4 (pv 4))))) (fun _ _ _ _ _ => (le_item rfl (fun _ _ => rfl) (lb_var 3 (pv 3)) (lb le_int)))))) lab_nil)) la_nil)))) pa_nil)))))))
  (lss_one (ls_ret (le_tuple rfl (by rfl) (hB "tuple" (by decide +kernel)) (lab_cons (lb_var 1 (pv 1)) lab_nil)))))))
abbrev NNear : List Str := ["_law_feed_here", "_law_rows_here", "_law_found", "_law_form", "_law_shade", "_law_many_here", "_law_number"]
theorem scNear : FnScope NNear ["_law_feed_here", "_law_rows_here"] (defScope (topS 18)) := ⟨rfl, rfl, rfl, by decide +kernel, rfl, by decide +kernel, by decide +kernel⟩
theorem ok_Near {f : Addr} {fd : FuncData} (F : Fun Γ.K "_law_near" "_law_near" (topS 18) f fd) (hB : NoB mg BL)  {gDraw : Addr} {dDraw : FuncData} (CDraw : CalV Γ mg base 1 "_law_draw" gDraw dDraw ["_law_feed_here", "_law_many_here"] drawW) {gSummed : Addr} {dSummed : FuncData} (CSummed : CalV Γ mg base 1 "_law_summed" gSummed dSummed ["_law_rows_here"] fSummed) :
    FnOk Γ.P Γ.w Γ.K mg base CX0 2 f fd ["_law_feed_here", "_law_rows_here"] (liF Γ fNear) :=
  ok_run F scNear rfl rfl (fun fe cdv A outer s H E hr =>
  (lss_cons (O2 := [2]) (ls_own (O' := []) (i := 2) scNear.nd rfl (.inl rfl) (ln_lst la_nil))
  (lss_cons (O2 := []) (ls_for (vs := [3, 4, 5]) PassesOwn.never rfl (li_tup (le_call CSummed rfl rfl rfl rfl rfl (hr.mono (by decide)) (by rfl) (la_cons (le_var 1 (by decide) (pv 1)) la_nil)) rfl) (lg_tup (n := 3) rfl rfl (lgs_cons (lg_name 3 (by decide) (by decide) (pg_name (i := 3) scNear.nd rfl (.inl rfl))) (lgs_cons (lg_name 4 (by decide) (by decide) (pg_name (i := 4) scNear.nd rfl (.inl rfl))) (lgs_cons (lg_name 5 (by decide) (by decide) (pg_name (i := 5) scNear.nd rfl (.inl rfl))) lgs_nil))))
  (lss_cons (O2 := [2]) (ls_set (O' := [2]) (i := 6) scNear.nd rfl (.inl rfl) (le_add rfl (lb_var 5 (pv 5)) (lb (le_item rfl (fun _ _ => rfl) (lb (le_lst (la_cons le_int (la_cons le_int (la_cons (le_neg le_int) (la_cons le_int la_nil)))))) (lb (le_call CDraw rfl rfl rfl rfl rfl (hr.mono (by decide)) (by rfl) (la_cons (le_var 0 (by decide) (pv 0)) (la_cons le_int la_nil))))))))
  (lss_last (ls_if (O' := [2]) (PW.pt (lw_and (lt_gt (lb_var 6 (pv 6)) (lb le_int)) (lw_and1 (lt_gt (lb (le_call CDraw rfl rfl rfl rfl rfl (hr.mono (by decide)) (by rfl) (la_cons (le_var 0 (by decide) (pv 0)) (la_cons le_int la_nil)))) (lb le_int)))))
  (lss_last (ls_append (i := 2) (by decide) (pe_bm PySem.F.plainAttrs_list PySem.F.slot_list_append PySem.F.type_list_append mt_append (pv 2) (pa_cons (le_tup (la_cons (le_var 3 (by decide) (pv 3)) (la_cons (le_var 4 (by decide) (pv 4)) (la_cons (le_min2 rfl (by rfl) (hB "min" (by decide +kernel)) (lab_cons (lb (le_pow (lb le_int) (lb le_int))) (lab_cons (lb_var 6 (pv 6)) lab_nil))) la_nil)))) pa_nil)))) lss_nil))))
  (lss_one (ls_ret (le_tuple rfl (by rfl) (hB "tuple" (by decide +kernel)) (lab_cons (lb_var 2 (pv 2)) lab_nil)))))))
abbrev NOver : List Str := ["_law_one", "_law_other", "_law_found", "_law_form", "_law_shade", "_law_many_here", "_law_more", "_law_row"]
theorem scOver : FnScope NOver ["_law_one", "_law_other"] (defScope (topS 19)) := ⟨rfl, rfl, rfl, by decide +kernel, rfl, by decide +kernel, by decide +kernel⟩
theorem ok_Over {f : Addr} {fd : FuncData} (F : Fun Γ.K "_law_over" "_law_over" (topS 19) f fd) (hB : NoB mg BL)  {gSummed : Addr} {dSummed : FuncData} (CSummed : CalV Γ mg base 1 "_law_summed" gSummed dSummed ["_law_rows_here"] fSummed) :
    FnOk Γ.P Γ.w Γ.K mg base CX0 2 f fd ["_law_one", "_law_other"] (liF Γ fOver) :=
  ok_run F scOver rfl rfl (fun fe cdv A outer s H E hr =>
  (lss_cons (O2 := [2]) (ls_own (O' := []) (i := 2) scOver.nd rfl (.inl rfl) (ln_lst la_nil))
  (lss_cons (O2 := []) (ls_for (vs := [3, 4, 5]) PassesOwn.never rfl (li_tup (le_call CSummed rfl rfl rfl rfl rfl (hr.mono (by decide)) (by rfl) (la_cons (le_var 0 (by decide) (pv 0)) la_nil)) rfl) (lg_tup (n := 3) rfl rfl (lgs_cons (lg_name 3 (by decide) (by decide) (pg_name (i := 3) scOver.nd rfl (.inr rfl))) (lgs_cons (lg_name 4 (by decide) (by decide) (pg_name (i := 4) scOver.nd rfl (.inr rfl))) (lgs_cons (lg_name 5 (by decide) (by decide) (pg_name (i := 5) scOver.nd rfl (.inl rfl))) lgs_nil))))
  (lss_cons (O2 := [2]) (ls_set (O' := [2]) (i := 6) scOver.nd rfl (.inl rfl) (le_sub (lb_var 5 (pv 5)) (lb (le_sum rfl rfl (by rfl) (hB "sum" (by decide +kernel)) (lab_cons (lb (le_new (ln_lc (own := [("_law_row", 7)]) rfl scOver.nd (li_tup (le_var 1 (by decide) (pv 1)) rfl) (blkOk_by (N := NOver) (sc := defScope (topS 19)) (own := [("_law_row", 7)]) (by decide +kernel)) (by decide) (fun _ _ _ _ _ => (lg_name 7 (by decide) (by decide) (pg_name (i := 7) scOver.nd rfl (.inl rfl)))) (fun _ _ _ _ _ => (lts_one (lt_eq hr rfl (lb (le_slice rfl (lb_var 7 (pv 7)) lo_none (lo_some le_int))) (lb (le_tup (la_cons (le_var 3 (by decide) (pv 3)) (la_cons (le_var 4 (by decide) (pv 4)) la_nil))))))) (fun _ _ _ _ _ => (le_item rfl (fun _ _ => rfl) (lb_var 7 (pv 7)) (lb le_int)))))) lab_nil)))))
  (lss_last (ls_if (O' := [2]) (lt_gt (lb_var 6 (pv 6)) (lb le_int))
  (lss_last (ls_append (i := 2) (by decide) (pe_bm PySem.F.plainAttrs_list PySem.F.slot_list_append PySem.F.type_list_append mt_append (pv 2) (pa_cons (le_tup (la_cons (le_var 3 (by decide) (pv 3)) (la_cons (le_var 4 (by decide) (pv 4)) (la_cons (le_var 6 (by decide) (pv 6)) la_nil)))) pa_nil)))) lss_nil))))
  (lss_one (ls_ret (le_tuple rfl (by rfl) (hB "tuple" (by decide +kernel)) (lab_cons (lb_var 2 (pv 2)) lab_nil)))))))
abbrev NLeft : List Str := ["_law_one", "_law_other", "_law_found", "e"]
theorem scLeft : FnScope NLeft ["_law_one", "_law_other"] (defScope (topS 20)) := ⟨rfl, rfl, rfl, by decide +kernel, rfl, by decide +kernel, by decide +kernel⟩
theorem ok_Left {f : Addr} {fd : FuncData} (F : Fun Γ.K "_law_left" "_law_left" (topS 20) f fd) (hB : NoB mg BL)  {C : Addr} (Hs : HSig Γ C) (Hc : HCls Γ.K mg C) (Hi : HIs Γ.K C) {CN CF : Addr} {fLz : Addr} {dLz : FuncData} (MLn : LessN Γ mg base 4 C CN fLz dLz) (Ec : ErrV Γ.K mg CN "NoParts" CF) (Fm : FamL Γ mg CN "HeapError" "KitError" "NoThing" "PaperError") (mVE : mg "ValueError" = none) {fRw : Addr} {dRw : FuncData} (MRw : MetV Γ mg base 1 0 C "rows" fRw dRw ["self"] rowsW) {fRh : Addr} {dRh : FuncData} (MRh : RowsH Γ mg base 1 C fRh dRh) :
    FnOk Γ.P Γ.w Γ.K mg base CX0 5 f fd ["_law_one", "_law_other"] (liF Γ fLeft) :=
  ok_run F scLeft rfl rfl (fun fe cdv A outer s H E hr =>
  (lss_cons (O2 := []) (ls_set (O' := []) (i := 2) scLeft.nd rfl (.inl rfl) (le_tup (la_cons le_str (la_cons le_non la_nil))))
  (lss_cons (O2 := []) (ls_tryLeft (i := 3) (j := 2) MLn MRh MRw Ec Fm Hc Hi Hc.mg rfl rfl rfl rfl rfl (hr.mono (by decide)) (hr.mono (by decide)) (hr.mono (by decide)) rfl rfl scLeft.nd rfl rfl (by rfl) (by decide) rfl (.inl rfl) rfl (by decide) (by decide) (fun _ _ => (le_var 0 (by decide) (pv 0))) (fun _ _ => (le_var 1 (by decide) (pv 1))) (by rfl) (hB "isinstance" (by decide +kernel)) (by rfl) mVE (by rfl) (by rfl) (by rfl) (by rfl) (by rfl) (by decide) (by decide) (by decide) (by decide) (by decide) (by decide +kernel) (by decide +kernel) (fun _ _ => pv 3) (fun _ _ => pv 3) (fun _ _ => pv 3) (fun _ _ => pv 3) (fun _ _ => pv 3) (fun _ _ => pv 3))
  (lss_one (ls_ret (le_var 2 (by decide) (pv 2)))))))
abbrev NLaw : List Str := ["_law_script", "_law_feed_here", "_law_forms", "_law_shades", "_law_lots", "_law_k", "_law_heaps", "_law_rows_here", "_law_j", "_law_both", "_law_lacks", "_law_due", "_law_heap"]
theorem scLaw : FnScope NLaw ["_law_script"] (defScope (topS 21)) := ⟨rfl, rfl, rfl, by decide +kernel, rfl, by decide +kernel, by decide +kernel⟩
theorem ok_law {f fF : Addr} {fd fdF : FuncData} (F : Fun Γ.K "law" "law" (topS 21) f fd) (hB : NoB mg BL) (Fe : Cal Γ.P Γ.w Γ.K mg base 1 "_law_feed" fF fdF ["_law_script"] (spFeedOf Γ.fk Γ.K)) {gDraw : Addr} {dDraw : FuncData} (CDraw : CalV Γ mg base 1 "_law_draw" gDraw dDraw ["_law_feed_here", "_law_many_here"] drawW) {gLeft : Addr} {dLeft : FuncData} (CLeft : CalV Γ mg base 5 "_law_left" gLeft dLeft ["_law_one", "_law_other"] fLeft) {gLNames : Addr} {dLNames : FuncData} (CLNames : CalV Γ mg base 2 "_law_names" gLNames dLNames ["_law_feed_here", "_law_many_here"] fLNames) {gNear : Addr} {dNear : FuncData} (CNear : CalV Γ mg base 2 "_law_near" gNear dNear ["_law_feed_here", "_law_rows_here"] fNear) {gOver : Addr} {dOver : FuncData} (COver : CalV Γ mg base 2 "_law_over" gOver dOver ["_law_one", "_law_other"] fOver) {gLRows : Addr} {dLRows : FuncData} (CLRows : CalV Γ mg base 3 "_law_rows" gLRows dLRows ["_law_feed_here", "_law_forms", "_law_shades", "_law_most_now"] fLRows) {gSummed : Addr} {dSummed : FuncData} (CSummed : CalV Γ mg base 1 "_law_summed" gSummed dSummed ["_law_rows_here"] fSummed) {C : Addr} (Hs : HSig Γ C) {fI : Addr} {dI : FuncData} (Hm : HMk Γ.P Γ.w Γ.K mg base 2 C fI dI) {fHo : Addr} {dHo : FuncData} (MHo : MetV Γ mg base 3 0 C "holds" fHo dHo ["self", "other"] holdsW) {fPl : Addr} {dPl : FuncData} (MPl : MetV Γ mg base 4 0 C "plus" fPl dPl ["self", "other"] plusW) {fRw : Addr} {dRw : FuncData} (MRw : MetV Γ mg base 1 0 C "rows" fRw dRw ["self"] rowsW)
    (hp : (bLaw (lawE 13)).wp (fun f => ∃ b, f = .rt (.bl b) ∧ b = true) fun _ => False) :
    FnG Γ.P Γ.w Γ.K mg base CX0 6 f fd ["_law_script"] (spLawK Γ.K) :=
  law_by F scLaw rfl (by decide) (fun cdv A outer s H E hgd hr => pss_cons (ps_set (i := 1) scLaw.nd rfl (.inr rfl) (pe_call (E := fun _ _ _ => True) Fe.ok (hr.mono (by decide)) (by rfl) Fe.g Fe.kp Fe.b .nil pass0 (pa_cons (pv 0) pa_nil))) (pss_rest fun a c H0 =>
  (lss_cons (O2 := []) (ls_asg (vs := [2, 3]) (le_tup (la_cons (le_call CLNames rfl rfl rfl rfl rfl (hr.mono (by decide)) (by rfl) (la_cons (le_var 1 (by decide) (pv 1)) (la_cons (le_add rfl (lb le_int) (lb (le_call CDraw rfl rfl rfl rfl rfl (hr.mono (by decide)) (by rfl) (la_cons (le_var 1 (by decide) (pv 1)) (la_cons le_int la_nil))))) la_nil))) (la_cons (le_call CLNames rfl rfl rfl rfl rfl (hr.mono (by decide)) (by rfl) (la_cons (le_var 1 (by decide) (pv 1)) (la_cons (le_add rfl (lb le_int) (lb (le_call CDraw rfl rfl rfl rfl rfl (hr.mono (by decide)) (by rfl) (la_cons (le_var 1 (by decide) (pv 1)) (la_cons le_int la_nil))))) la_nil))) la_nil))) (lg_tup (n := 2) rfl rfl (lgs_cons (lg_name 2 (by decide) (by decide) (pg_name (i := 2) scLaw.nd rfl (.inr rfl))) (lgs_cons (lg_name 3 (by decide) (by decide) (pg_name (i := 3) scLaw.nd rfl (.inr rfl))) lgs_nil))))
  (lss_cons (O2 := [4]) (ls_own (O' := []) (i := 4) scLaw.nd rfl (.inl rfl) (ln_cat (lb (le_new (ln_lc (own := [("_law_k", 5)]) rfl scLaw.nd (li_range (by rfl) (hB "range" (by decide +kernel)) (la_cons le_int la_nil)) (blkOk_by (N := NLaw) (sc := defScope (topS 21)) (own := [("_law_k", 5)]) (by decide +kernel)) (by decide) (fun _ _ _ _ _ => (lg_name 5 (by decide) (by decide) (pg_name (i := 5) scLaw.nd rfl (.inl rfl)))) (fun _ _ _ _ _ => lts_nil) (fun _ _ _ _ _ => (le_call CLRows rfl rfl rfl rfl rfl (hr.mono (by decide)) (by rfl) (la_cons (le_var 1 (by decide) (pv 1)) (la_cons (le_var 2 (by decide) (pv 2)) (la_cons (le_var 3 (by decide) (pv 3)) (la_cons le_int la_nil))))))))) (lb (le_lst (la_cons (le_tup la_nil) la_nil)))))
  (lss_cons (O2 := []) (ls_append (i := 4) (by decide) (pe_bm PySem.F.plainAttrs_list PySem.F.slot_list_append PySem.F.type_list_append mt_append (pv 4) (pa_cons (le_call CNear rfl rfl rfl rfl rfl (hr.mono (by decide)) (by rfl) (la_cons (le_var 1 (by decide) (pv 1)) (la_cons (le_item rfl (fun _ _ => rfl) (lb_var 4 (pv 4)) (lb le_int)) la_nil))) pa_nil)))
  (lss_cons (O2 := []) (ls_lcF (O' := []) (i := 6) (own := [("_law_rows_here", 7)]) rfl scLaw.nd rfl rfl (sw_true rfl rfl rfl (by decide +kernel)) (li_list (le_var 4 (by decide) (pv 4)) rfl) (blkOk_by (N := NLaw) (sc := defScope (topS 21)) (own := [("_law_rows_here", 7)]) (by decide +kernel)) (by decide) (fun _ _ _ _ _ => (lg_name 7 (by decide) (by decide) (pg_name (i := 7) scLaw.nd rfl (.inl rfl)))) (fun _ _ _ _ _ => lts_nil) (fun _ _ _ _ _ => (le_heap1 Hs Hm rfl rfl rfl rfl rfl (hr.mono (by decide)) (by rfl) (le_var 7 (by decide) (pv 7)))))
  (lss_cons (O2 := []) (ls_for (vs := [5]) PassesOwn.never rfl (li_range (by rfl) (hB "range" (by decide +kernel)) (la_cons le_int la_nil)) (lg_name 5 (by decide) (by decide) (pg_name (i := 5) scLaw.nd rfl (.inl rfl)))
  (lss_last (ls_for (vs := [8]) PassesOwn.never rfl (li_range (by rfl) (hB "range" (by decide +kernel)) (la_cons le_int la_nil)) (lg_name 8 (by decide) (by decide) (pg_name (i := 8) scLaw.nd rfl (.inl rfl)))
  (lss_cons (O2 := []) (ls_set (O' := []) (i := 9) scLaw.nd rfl (.inl rfl) (le_meth MPl rfl rfl rfl rfl rfl (hr.mono (by decide)) (le_item rfl (fun _ _ => rfl) (lb_var 6 (pv 6)) (lb_var 5 (pv 5))) (la_cons (le_item rfl (fun _ _ => rfl) (lb_var 6 (pv 6)) (lb_var 8 (pv 8))) la_nil)))
  (lss_cons (O2 := []) (ls_if (O' := []) (lt_ne hr rfl (lb (le_repr hgd hr rfl (by rfl) (hB "repr" (by decide +kernel)) (lab_cons (lb (le_meth0 MRw rfl rfl rfl rfl rfl (hr.mono (by decide)) (le_var 9 (by decide) (pv 9)))) lab_nil))) (lb (le_repr hgd hr rfl (by rfl) (hB "repr" (by decide +kernel)) (lab_cons (lb (le_call CSummed rfl rfl rfl rfl rfl (hr.mono (by decide)) (by rfl) (la_cons (le_add rfl (lb (le_item rfl (fun _ _ => rfl) (lb_var 4 (pv 4)) (lb_var 5 (pv 5)))) (lb (le_item rfl (fun _ _ => rfl) (lb_var 4 (pv 4)) (lb_var 8 (pv 8))))) la_nil))) lab_nil))))
  (lss_one (ls_ret le_bl)) lss_nil)
  (lss_cons (O2 := []) (ls_set (O' := []) (i := 10) scLaw.nd rfl (.inl rfl) (le_call COver rfl rfl rfl rfl rfl (hr.mono (by decide)) (by rfl) (la_cons (le_item rfl (fun _ _ => rfl) (lb_var 4 (pv 4)) (lb_var 8 (pv 8))) (la_cons (le_item rfl (fun _ _ => rfl) (lb_var 4 (pv 4)) (lb_var 5 (pv 5))) la_nil))))
  (lss_cons (O2 := []) (ls_if (O' := []) (lt_ne hr rfl (lb (le_repr hgd hr rfl (by rfl) (hB "repr" (by decide +kernel)) (lab_cons (lb (le_meth MHo rfl rfl rfl rfl rfl (hr.mono (by decide)) (le_item rfl (fun _ _ => rfl) (lb_var 6 (pv 6)) (lb_var 5 (pv 5))) (la_cons (le_item rfl (fun _ _ => rfl) (lb_var 6 (pv 6)) (lb_var 8 (pv 8))) la_nil))) lab_nil))) (lb (le_repr hgd hr rfl (by rfl) (hB "repr" (by decide +kernel)) (lab_cons (lb (le_eq hr rfl (lb_var 10 (pv 10)) (lb (le_tup la_nil)))) lab_nil))))
  (lss_one (ls_ret le_bl)) lss_nil)
  (lss_cons (O2 := []) (ls_set (O' := []) (i := 11) scLaw.nd rfl (.inl rfl) (le_tup (la_cons le_str (la_cons (le_var 10 (by decide) (pv 10)) la_nil))))
  (lss_cons (O2 := []) (ls_if (O' := []) (lt_eq hr rfl (lb_var 10 (pv 10)) (lb (le_tup la_nil)))
  (lss_last (ls_set (O' := []) (i := 11) scLaw.nd rfl (.inl rfl) (le_tup (la_cons le_str (la_cons (le_call COver rfl rfl rfl rfl rfl (hr.mono (by decide)) (by rfl) (la_cons (le_item rfl (fun _ _ => rfl) (lb_var 4 (pv 4)) (lb_var 5 (pv 5))) (la_cons (le_item rfl (fun _ _ => rfl) (lb_var 4 (pv 4)) (lb_var 8 (pv 8))) la_nil))) la_nil))))) lss_nil)
  (lss_last (ls_if (O' := []) (lt_ne hr rfl (lb (le_repr hgd hr rfl (by rfl) (hB "repr" (by decide +kernel)) (lab_cons (lb (le_call CLeft rfl rfl rfl rfl rfl (hr.mono (by decide)) (by rfl) (la_cons (le_item rfl (fun _ _ => rfl) (lb_var 6 (pv 6)) (lb_var 5 (pv 5))) (la_cons (le_item rfl (fun _ _ => rfl) (lb_var 6 (pv 6)) (lb_var 8 (pv 8))) la_nil)))) lab_nil))) (lb (le_repr hgd hr rfl (by rfl) (hB "repr" (by decide +kernel)) (lab_cons (lb_var 11 (pv 11)) lab_nil))))
  (lss_one (ls_ret le_bl)) lss_nil)))))))))))
  (lss_one (ls_ret (le_eq hr rfl (lb (le_new (ln_lc (own := [("_law_heap", 12)]) rfl scLaw.nd (li_list (le_var 6 (by decide) (pv 6)) rfl) (blkOk_by (N := NLaw) (sc := defScope (topS 21)) (own := [("_law_heap", 12)]) (by decide +kernel)) (by decide) (fun _ _ _ _ _ => (lg_name 12 (by decide) (by decide) (pg_name (i := 12) scLaw.nd rfl (.inl rfl)))) (fun _ _ _ _ _ => lts_nil) (fun _ _ _ _ _ => (le_meth0 MRw rfl rfl rfl rfl rfl (hr.mono (by decide)) (le_var 12 (by decide) (pv 12))))))) (lb (le_new (ln_lc (own := [("_law_rows_here", 7)]) rfl scLaw.nd (li_list (le_var 4 (by decide) (pv 4)) rfl) (blkOk_by (N := NLaw) (sc := defScope (topS 21)) (own := [("_law_rows_here", 7)]) (by decide +kernel)) (by decide) (fun _ _ _ _ _ => (lg_name 7 (by decide) (by decide) (pg_name (i := 7) scLaw.nd rfl (.inl rfl)))) (fun _ _ _ _ _ => lts_nil) (fun _ _ _ _ _ => (le_call CSummed rfl rfl rfl rfl rfl (hr.mono (by decide)) (by rfl) (la_cons (le_var 7 (by decide) (pv 7)) la_nil)))))))))))))))) hp
end
end LP.K04
namespace K04
open PySem PySem.Spec PyProof.Rows L2 PK
abbrev NAdded : List Str := ["rows", "counts", "form", "shade", "many"]
theorem scAdded : FnScope NAdded ["rows"] (defScope (topS 8)) := ⟨rfl, rfl, rfl, by decide +kernel, rfl, by decide +kernel, by decide +kernel⟩
section
variable {P : Program} {w : World} {K : PySem.W.Frag} {mg : Str → Option Value} {base : Heap}
-- names: ["rows", "counts", "form", "shade", "many"] cells {'counts'}
theorem ok_added {f : Addr} {fd : FuncData} {k : Nat} (F : Fun K "added_rows" "added_rows" (topS 8) f fd) (hT : mg "tuple" = none) (hS : mg "sorted" = none) :
    FnOk P w K mg base CX0 (k + 1) f fd ["rows"] (spAdded K) := by
  refine F.ok scAdded (fun vs H Q E h => ?_) (fun cdv A outer s H vs Q E hr h => ?_)
  · obtain ⟨v, L, rfl, _⟩ := h
    rfl
  · obtain ⟨v, L, rfl, dv, hL, q⟩ := h
    obtain ⟨b, us, rfl, hb, du⟩ := Dp.tupE dv
    have lus : us.length = L.length := dp_lenM du
    refine ⟨_, (pss_cons (ps_set (i := 1) scAdded.nd rfl (.inr rfl) pe_dnewT)
  (pss_cons (ps_for PassesOwn.never rfl (pk_tup K (pv 0)) (pgk_tup K (n := 3) rfl (pgs_cons (pg_name (i := 2) scAdded.nd rfl (.inl rfl)) (pgs_cons (pg_name (i := 3) scAdded.nd rfl (.inl rfl)) (pgs_cons (pg_name (i := 4) scAdded.nd rfl (.inl rfl)) pgs_nil))))
  (pss_one (ps_dput (hu_of hr) (pv 1) (pe_tup (pa_cons (pv 2) (pa_cons (pv 3) pa_nil))) (pe_op op_add (pe_dget2 (hu_of hr) (pv 1) (pe_tup (pa_cons (pv 2) (pa_cons (pv 3) pa_nil))) pe_int ⟨rfl, rfl, rfl, rfl⟩) (pv 4)) rfl)))
  (pss_one (ps_ret (pe_callTy (k_tup K) (by rfl) hT (by decide +kernel) (pa_cons (pe_lc (own := [("form", 2), ("shade", 3)]) rfl scAdded.nd (pk_list K (pe_callB (call_srtT rfl hr) (by rfl) hS (by decide +kernel) (pa_cons (pv 1) pa_nil))) (blkOk_by (N := NAdded) (sc := defScope (topS 8)) (own := [("form", 2), ("shade", 3)]) (by decide +kernel)) (fun _ _ _ _ _ => (pgk_tup K (n := 2) rfl (pgs_cons (pg_name (i := 2) scAdded.nd rfl (.inl rfl)) (pgs_cons (pg_name (i := 3) scAdded.nd rfl (.inl rfl)) pgs_nil)))) (fun _ _ _ _ _ => pts_nil) (fun _ _ _ _ _ => (pe_tup (pa_cons (pv 2) (pa_cons (pv 3) (pa_cons (pe_dget (hu_of hr) (pv 1) (pe_tup (pa_cons (pv 2) (pa_cons (pv 3) pa_nil))) (fun _ _ => rfl)) pa_nil)))))) pa_nil)))))), ?_⟩
    -- counts = {}
    refine fun o no => ?_
    have s0 : Same H (upd H o (.dT [])) := same_new (Same.refl H) no
    refine ⟨.ref b, rfl, b, rfl, ⟨us, (TKeep.of s0).sq hb⟩, for_tup (K := K) (a := b) (xs := us) (fun i σ H2 => ∃ (ks : List PKey) (y2 y3 y4 : Option V), σ = [some (.ref b), some (.ref o), y2, y3, y4] ∧ Same H H2 ∧
      H2 o = some (.dT (ent ks (cnt (L.take i)))) ∧ ks.Nodup ∧ ks.length ≤ i ∧ ∀ k, k ∈ ks ↔ k ∈ (L.take i).map PK.pk) ?_ ?_ ?_ ?_⟩
    · exact ⟨[], none, none, none, rfl, s0, upd_same, List.nodup_nil, Nat.le_refl _, fun k => Iff.rfl⟩
    · rintro i σ H2 _ ⟨ks, y2, y3, y4, rfl, s2, _⟩
      exact (TKeep.of s2).sq hb
    · rintro i rv σ H2 hv ⟨ks, y2, y3, y4, rfl, s2, eo, nd, lk, mk⟩
      obtain ⟨e1, he, de⟩ := DpAll.getV du hv
      rw [List.getElem?_map] at he
      obtain ⟨r, hLi, rfl⟩ := Option.map_eq_some_iff.mp he
      obtain ⟨b1, rfl, hb1⟩ := Dp.prowE (Dp.same s2 de)
      have hi : i < L.length := (List.getElem?_eq_some_iff.mp hLi).1
      refine ⟨b1, _, rfl, hb1, rfl, _, _, rfl, _, _, rfl, _, _, rfl, rfl, ?_⟩
      refine ⟨.ref o, rfl, o, rfl, .inr ⟨_, .inl eo⟩, .str r.1, rfl, .str r.2.1, rfl, by show 2 ≤ sizeLine; decide, fun t nt => ?_⟩
      have eo1 : (upd H2 t (.tup [.str r.1, .str r.2.1])) o = some (.dT (ent ks (cnt (L.take i)))) := by rw [upd_ne (ne_of_none eo nt)]; exact eo
      have s3 : Same H (upd H2 t (.tup [.str r.1, .str r.2.1])) := same_new s2 nt
      have et : (upd H2 t (.tup [.str r.1, .str r.2.1])) t = some (.tup ((kk (PK.pk r)).map kV)) := upd_same
      generalize upd H2 t (.tup [.str r.1, .str r.2.1]) = H3 at eo1 s3 et
      refine ⟨_, DGet.t eo1 et, ?_⟩
      have hval : (valV (ent ks (cnt (L.take i))) (kk (PK.pk r))).getD (.int 0) = .int (cnt (L.take i) (PK.pk r)) := by
        rw [ent_val]
        by_cases z : PK.pk r ∈ ks
        · rw [if_pos z]
          rfl
        · rw [if_neg z, cnt_none (fun h => z ((mk _).mpr h))]
          rfl
      rw [hval]
      refine ⟨.int r.2.2, rfl, _, _, rfl, rfl, .ref o, rfl, .str r.1, rfl, .str r.2.1, rfl, by show 2 ≤ sizeLine; decide, fun t2 nt2 => ?_⟩
      have eo2 : (upd H3 t2 (.tup [.str r.1, .str r.2.1])) o = some (.dT (ent ks (cnt (L.take i)))) := by rw [upd_ne (ne_of_none eo1 nt2)]; exact eo1
      have s4 : Same H (upd H3 t2 (.tup [.str r.1, .str r.2.1])) := same_new s3 nt2
      have et2 : (upd H3 t2 (.tup [.str r.1, .str r.2.1])) t2 = some (.tup ((kk (PK.pk r)).map kV)) := upd_same
      generalize upd H3 t2 (.tup [.str r.1, .str r.2.1]) = H4 at eo2 s4 et2
      have lent : (ent ks (cnt (L.take i))).length < sizeLine := by
        unfold ent
        rw [List.length_map]
        exact small1000 (by omega)
      refine ⟨o, _, rfl, DPut.t eo2 et2 lent, ?_⟩
      refine ⟨if PK.pk r ∈ ks then ks else ks ++ [PK.pk r], _, _, _, rfl, same_own s4 no, ?_, ?_, ?_, fun k => ?_⟩
      · rw [upd_same, ent_put (c' := cnt (L.take (i + 1))) (by rw [cnt_snoc hLi, if_pos rfl]) (fun q hq => by rw [cnt_snoc hLi, if_neg (fun e => hq e.symm)]; omega)]
      · split
        · exact nd
        · rename_i z
          exact List.nodup_append.mpr ⟨nd, List.nodup_cons.mpr ⟨by simp, List.nodup_nil⟩, fun a ha b hb e => by
            rw [List.mem_singleton.mp hb] at e
            exact z (by rw [← e]; exact ha)⟩
      · split
        · omega
        · rw [List.length_append, List.length_singleton]; omega
      · rw [take_snoc hLi, List.map_append, List.mem_append, ← mk k]
        show _ ↔ k ∈ ks ∨ k ∈ [PK.pk r]
        rw [List.mem_singleton]
        split
        · rename_i z
          constructor
          · exact Or.inl
          · rintro (h | h)
            · exact h
            · rw [h]; exact z
        · rw [List.mem_append, List.mem_singleton]
    · rintro σ H2 ⟨ks, y2, y3, y4, rfl, s2, eo, nd, lk, mk⟩
      rw [lus, List.take_length] at eo mk
      refine ⟨.ref o, rfl, o, _, rfl, .inl eo, by rw [ent_keys]; exact pk_cmpb ks, fun sl Lp nsl ⟨bs, ik, eLp⟩ => ?_⟩
      have hdp : DpAll K H2 (bs.map V.ref) (ks.map pkD) := by
        have := keys_dp (K := K) ik
        rw [ent_keys] at this
        exact this
      rw [ent_keys] at eLp
      obtain ⟨z1, z2, z3⟩ := dp_zip hdp
      have hkeys : Lp.map (·.2) = (skeys L).map pkD := by
        have hr1 : Rises (Lp.map (·.2)) := by
          rw [eLp]
          exact srt_rises (by rw [z3]; exact pk_allAlike ks) (by rw [z3]; exact nodup_mapD nd)
        refine rises_ext hr1 (skeys_rises L) fun d => ?_
        rw [eLp, ((srt_perm false _ _).map _).mem_iff, z3, List.mem_map, List.mem_map]
        constructor
        · rintro ⟨k, hk, rfl⟩
          exact ⟨k, mem_skeys.mpr ((mk k).mp hk), rfl⟩
        · rintro ⟨k, hk, rfl⟩
          exact ⟨k, (mk k).mpr (mem_skeys.mp hk), rfl⟩
      have hdL : DpAll K H2 (Lp.map (·.1)) ((skeys L).map pkD) := by
        rw [← hkeys]
        exact dp_pairs fun p hp => z1 p (by rw [eLp] at hp; exact (srt_perm false _ _).mem_iff.mp hp)
      generalize Lp.map (·.1) = xs at hdL
      have s3 : Same H (upd H2 sl (.lst xs)) := same_new s2 nsl
      have eo3 : (upd H2 sl (.lst xs)) o = some (.dT (ent ks (cnt L))) := by rw [upd_ne (ne_of_none eo nsl)]; exact eo
      have esl : (upd H2 sl (.lst xs)) sl = some (.lst xs) := upd_same
      have hd3 := dp_move (f := pkD) flat_pk hdL (TKeep.new (o := .lst xs) nsl)
      generalize upd H2 sl (.lst xs) = H3 at s3 eo3 esl hd3
      have lks : (skeys L).length ≤ 900 := by
        have := sumR_len L
        unfold sumR at this
        rw [List.length_map] at this
        omega
      refine ⟨sl, rfl, ⟨xs, .inl (.inl esl)⟩, fun d ndd => ?_⟩
      refine lc_list (K := K) (a := sl) (xs := xs) (fun i H4 => ∃ zs : List V, H4 d = some (.lst zs) ∧ DpAll K H4 zs (((sumR L).take i).map prowD) ∧ Same H3 H4) ?_ ?_ ?_ ?_
      · exact ⟨[], upd_same, .nil, same_new (Same.refl H3) ndd⟩
      · rintro i H4 _ ⟨zs, _, _, s4⟩
        exact .inl (.inl (s4 _ _ esl))
      · rintro i v H4 hv ⟨zs, ed, dz, s4⟩
        obtain ⟨e1, he, de⟩ := DpAll.getV hd3 hv
        rw [List.getElem?_map] at he
        obtain ⟨k, hki, rfl⟩ := Option.map_eq_some_iff.mp he
        obtain ⟨b1, rfl, hb1⟩ := Dp.pkE (Dp.same s4 de)
        have hk : k ∈ ks := (mk k).mpr (mem_skeys.mp (List.mem_of_getElem? hki))
        have eo4 := s4 _ _ eo3
        refine ⟨b1, _, rfl, hb1, rfl, _, _, rfl, _, _, rfl, rfl, rfl, .str k.1, rfl, .str k.2, rfl, .ref o, rfl, .str k.1, rfl, .str k.2, rfl, by show 2 ≤ sizeLine; decide, fun t nt => ?_⟩
        have eo5 : (upd H4 t (.tup [.str k.1, .str k.2])) o = some (.dT (ent ks (cnt L))) := by rw [upd_ne (ne_of_none eo4 nt)]; exact eo4
        have ed5 : (upd H4 t (.tup [.str k.1, .str k.2])) d = some (.lst zs) := by rw [upd_ne (ne_of_none ed nt)]; exact ed
        have et : (upd H4 t (.tup [.str k.1, .str k.2])) t = some (.tup ((kk k).map kV)) := upd_same
        have s5 : Same H4 (upd H4 t (.tup [.str k.1, .str k.2])) := same_new (Same.refl H4) nt
        generalize upd H4 t (.tup [.str k.1, .str k.2]) = H5 at eo5 ed5 et s5
        have hg := DGet.t eo5 et
        rw [ent_val, if_pos hk] at hg
        refine ⟨o, _, rfl, hg, by show 3 ≤ sizeLine; decide, fun u nu => ?_⟩
        have ed6 : (upd H5 u (.tup [.str k.1, .str k.2, .int (cnt L k)])) d = some (.lst zs) := by rw [upd_ne (ne_of_none ed5 nu)]; exact ed5
        have eu : (upd H5 u (.tup [.str k.1, .str k.2, .int (cnt L k)])) u = some (.tup [.str k.1, .str k.2, .int (cnt L k)]) := upd_same
        have s6 : Same H4 (upd H5 u (.tup [.str k.1, .str k.2, .int (cnt L k)])) := same_new s5 nu
        generalize upd H5 u (.tup [.str k.1, .str k.2, .int (cnt L k)]) = H6 at ed6 eu s6
        have lz : zs.length < sizeLine := by
          rw [dp_lenM dz, List.length_take]
          have : (sumR L).length = (skeys L).length := by unfold sumR; rw [List.length_map]
          exact small1000 (by omega)
        have hsi : (sumR L)[i]? = some (k.1, k.2, cnt L k) := by
          unfold sumR
          rw [List.getElem?_map, hki]
          rfl
        refine ⟨zs, ed6, lz, zs ++ [.ref u], upd_same, ?_, same_own (s4.trans s6) ndd⟩
        rw [take_snoc hsi]
        have tkd := TKeep.lst (o := .lst (zs ++ [.ref u])) ed6
        exact dp_snoc flat_prow dz ((TKeep.of s6).trans tkd) (Dp.prow (r := (k.1, k.2, cnt L k)) (tkd.sq (SqT.of eu)))
      · rintro H4 ⟨zs, ed, dz, s4⟩
        have lx : xs.length = (sumR L).length := by
          rw [dp_lenM hd3]
          unfold sumR
          rw [List.length_map]
        rw [lx, List.take_length] at dz
        refine ⟨d, zs, rfl, .inl ⟨.inl (.inl ed), fun t nt => ?_⟩⟩
        have s5 := s3.trans s4
        exact q t zs _ (s5.free nt) (same_new s5 nt) upd_same (dp_move flat_prow dz (TKeep.new nt))
end
end K04
namespace K04
open PySem PySem.Spec PyProof.Rows L2 PK
abbrev NInit : List Str := ["self", "rows"]
theorem scInit : FnScope NInit ["self", "rows"] (defScope (inClass (topS 10) 0)) := ⟨rfl, rfl, rfl, by decide +kernel, rfl, by decide +kernel, by decide +kernel⟩
section
variable {P : Program} {w : World} {K : PySem.W.Frag} {mg : Str → Option Value} {base : Heap}
abbrev FunI (K : PySem.W.Frag) (f : Addr) (fd : FuncData) : Prop := FunD K "__init__" "Heap.__init__" (defArgs (inClass (topS 10) 0)) (defBody (inClass (topS 10) 0)) (defScope (inClass (topS 10) 0)) [.non] [] f fd
theorem ok_init {f fA C : Addr} {fd fdA : FuncData} {k : Nat} (F : FunI K f fd) (T : HCls K mg C)
    (Ad : Cal P w K mg base 1 "added_rows" fA fdA ["rows"] (spAdded K)) :
    FnOk P w K mg base CX0 (k + 2) f fd ["self", "rows"] (spInit K C) := by
  refine F.ok (CX := CX0) scInit (fun vs H Q E h => ?_) (fun cdv A outer s H vs Q E hr h => ?_)
  · obtain ⟨p, dx, x, L, rfl, _⟩ := h
    rfl
  · obtain ⟨p, dx, x, L, rfl, hp, hx, hL, q⟩ := h
    refine ⟨_, (pss_one (ps_fld (pv 0) (pe_call Ad.ok (hr.mono (Nat.le_add_left 1 k)) (by rfl) Ad.g Ad.kp Ad.b .nil pass0 (pa_cons (pe_ifExp (pt_cmpR op_isN (pv 1) pe_non (nomark _)) (pe_tup pa_nil) (pv 1)) pa_nil)) rfl)), ?_⟩
    refine ⟨x, rfl, rfl, _, rfl, ite2 (fun hn => ?_) (fun hn => ?_)⟩
    · have hn : x = .non := of_decide_eq_true hn
      refine ⟨Nat.zero_le _, fun e ne => ?_⟩
      have eL : L = [] := by
        rcases hx with ⟨_, h⟩ | h
        · exact h
        · rw [hn] at h
          cases h
      subst eL
      have s1 : Same H (upd H e (.tup [])) := same_new (Same.refl H) ne
      have d1 : Dp K (upd H e (.tup [])) (.ref e) (rowsD []) := .tup (SqT.of upd_same) .nil
      generalize upd H e (.tup []) = H1 at s1 d1
      refine ⟨.ref e, [], rfl, d1, hL, fun t us H2 nt s2 et du => ⟨_, rfl, p, C, dx, [], rfl, s2 _ _ (s1 _ _ hp), T.cl, T.nh, (by show 0 < 1000; decide), ?_⟩⟩
      have hp2 := s2 _ _ (s1 _ _ hp)
      have tp : t ≠ p := ne_of et hp2 (by intro z; cases z)
      have tk : TKeep H2 (upd H2 p (.ins C dx (putF "held" (.ref t) []))) := fun b o z h => by
        rw [upd_ne (ne_of h hp2 (by rintro rfl; exact z))]
        exact h
      refine q _ (fun b o e hb => ?_) ⟨dx, t, upd_same, .tup (SqT.of (by rw [upd_ne tp]; exact et)) (dp_move flat_prow du tk)⟩
      rw [upd_ne hb]
      exact s2 _ _ (s1 _ _ e)
    · have hn : ¬ x = .non := fun z => hn (decide_eq_true z)
      have hd : Dp K H x (rowsD L) := by
        rcases hx with ⟨h, _⟩ | h
        · exact absurd h hn
        · exact h
      refine ⟨x, rfl, x, L, rfl, hd, hL, fun t us H2 nt s2 et du => ⟨_, rfl, p, C, dx, [], rfl, s2 _ _ hp, T.cl, T.nh, (by show 0 < 1000; decide), ?_⟩⟩
      have hp2 := s2 _ _ hp
      have tp : t ≠ p := ne_of et hp2 (by intro z; cases z)
      have tk : TKeep H2 (upd H2 p (.ins C dx (putF "held" (.ref t) []))) := fun b o z h => by
        rw [upd_ne (ne_of h hp2 (by rintro rfl; exact z))]
        exact h
      refine q _ (fun b o e hb => ?_) ⟨dx, t, upd_same, .tup (SqT.of (by rw [upd_ne tp]; exact et)) (dp_move flat_prow du tk)⟩
      rw [upd_ne hb]
      exact s2 _ _ e
theorem kb_init2 {f : Addr} {fd : FuncData} (F : FunI K f fd) : KB K fd ["self", "rows"] 2 [] (fun vs _ => vs) :=
  kb_of F 2 [] (fun vs _ _ => vs) (by simp) (fun r _ _ => r) fun T kV doc pm an cdv ct us its ws h1 h2 h3 => by
    match us, its, ws, h1, h2, h3 with
    | [a, b], [c], [], _, _, _ => exact ⟨_, rfl, rfl⟩
theorem kb_initK {f : Addr} {fd : FuncData} (F : FunI K f fd) : KB K fd ["self", "rows"] 1 ["rows"] (fun vs zs => vs ++ zs) :=
  kb_of F 1 ["rows"] (fun vs _ zs => vs ++ zs) (by simp) (fun r _ q => r.append q) fun T kV doc pm an cdv ct us its ws h1 h2 h3 => by
    match us, its, ws, h1, h2, h3 with
    | [a], [c], [d], _, _, _ => exact ⟨_, rfl, rfl⟩
theorem b_init0 {f : Addr} {fd : FuncData} (F : FunI K f fd) : ∃ ds, Vals [V.non] ds ∧ Binds K fd ["self", "rows"] ds := by
  refine F.binds1 (ps := ["self", "rows"]) 1 0 (by simp) rfl fun T kV doc pm an cdv ct us its h1 h2 => ?_
  match us, its, h1, h2 with
  | [a], [c], _, _ => exact ⟨_, rfl, rfl⟩
end
end K04
namespace K04
open PySem PySem.Spec PyProof.Rows L2 PK
abbrev NRows : List Str := ["self", "form", "shade", "many"]
theorem scRows : FnScope NRows ["self"] (defScope (inClass (topS 10) 1)) := ⟨rfl, rfl, rfl, by decide +kernel, rfl, by decide +kernel, by decide +kernel⟩
section
variable {P : Program} {w : World} {K : PySem.W.Frag} {mg : Str → Option Value} {base : Heap}
-- names: ["self", "form", "shade", "many"] cells set()
theorem ok_rows {f C : Addr} {fd : FuncData} {k : Nat} (F : Fun K "rows" "Heap.rows" (inClass (topS 10) 1) f fd) (T : HCls K mg C) (hT : mg "tuple" = none) :
    FnOk P w K mg base CX0 (k + 1) f fd ["self"] (spRows K C) := by
  refine F.ok scRows (fun vs H Q E h => ?_) (fun cdv A outer s H vs Q E hr h => ?_)
  · obtain ⟨p, L, rfl, _⟩ := h
    rfl
  · obtain ⟨p, L, rfl, ⟨dx, t0, hp, dt⟩, hL, q⟩ := h
    obtain ⟨b, us, eb, hb, du⟩ := Dp.tupE dt
    cases eb
    have lus : us.length = L.length := dp_lenM du
    refine ⟨_, (pss_one (ps_ret (pe_callTy (k_tup K) (by rfl) hT (by decide +kernel) (pa_cons (pe_lc (own := [("form", 1), ("shade", 2), ("many", 3)]) rfl scRows.nd (pk_tup K (pe_fld (pv 0) rfl)) (blkOk_by (N := NRows) (sc := defScope (inClass (topS 10) 1)) (own := [("form", 1), ("shade", 2), ("many", 3)]) (by decide +kernel)) (fun _ _ _ _ _ => (pgk_tup K (n := 3) rfl (pgs_cons (pg_name (i := 1) scRows.nd rfl (.inl rfl)) (pgs_cons (pg_name (i := 2) scRows.nd rfl (.inl rfl)) (pgs_cons (pg_name (i := 3) scRows.nd rfl (.inl rfl)) pgs_nil))))) (fun _ _ _ _ _ => pts_nil) (fun _ _ _ _ _ => (pe_tup (pa_cons (pv 1) (pa_cons (pv 2) (pa_cons (pv 3) pa_nil)))))) pa_nil)))), ?_⟩
    refine ⟨.ref p, rfl, p, C, dx, _, _, rfl, hp, T.cl, T.nh, hf_held _, t0, rfl, ⟨us, hb⟩, fun d nd => ?_⟩
    refine lc_tup (K := K) (a := t0) (xs := us) (fun i H2 => ∃ zs : List V, H2 d = some (.lst zs) ∧ DpAll K H2 zs ((L.take i).map prowD) ∧ Same H H2) ?_ ?_ ?_ ?_
    · exact ⟨[], upd_same, .nil, same_new (Same.refl H) nd⟩
    · rintro i H2 _ ⟨zs, _, _, s2⟩
      exact (TKeep.of s2).sq hb
    · rintro i v H2 hv ⟨zs, ed, dz, s2⟩
      obtain ⟨e, he, de⟩ := DpAll.getV du hv
      rw [List.getElem?_map] at he
      obtain ⟨r, hxi, rfl⟩ := Option.map_eq_some_iff.mp he
      have hi := (List.getElem?_eq_some_iff.mp hxi).1
      obtain ⟨b1, rfl, hb1⟩ := Dp.prowE (Dp.same s2 de)
      refine ⟨b1, _, rfl, hb1, rfl, _, _, rfl, _, _, rfl, _, _, rfl, rfl, rfl, .str r.1, rfl, .str r.2.1, rfl, .int r.2.2, rfl, by show 3 ≤ sizeLine; decide, fun u nu => ?_⟩
      have ed6 : (upd H2 u (.tup [.str r.1, .str r.2.1, .int r.2.2])) d = some (.lst zs) := by rw [upd_ne (ne_of_none ed nu)]; exact ed
      have eu : (upd H2 u (.tup [.str r.1, .str r.2.1, .int r.2.2])) u = some (.tup [.str r.1, .str r.2.1, .int r.2.2]) := upd_same
      have s6 : Same H2 (upd H2 u (.tup [.str r.1, .str r.2.1, .int r.2.2])) := same_new (Same.refl H2) nu
      generalize upd H2 u (.tup [.str r.1, .str r.2.1, .int r.2.2]) = H6 at ed6 eu s6
      have lz : zs.length < sizeLine := by
        rw [dp_lenM dz, List.length_take]
        exact small1000 (by omega)
      refine ⟨zs, ed6, lz, zs ++ [.ref u], upd_same, ?_, same_own (s2.trans s6) nd⟩
      rw [take_snoc hxi]
      have tkd := TKeep.lst (o := .lst (zs ++ [.ref u])) ed6
      exact dp_snoc flat_prow dz ((TKeep.of s6).trans tkd) (Dp.prow (tkd.sq (SqT.of eu)))
    · rintro H2 ⟨zs, ed, dz, s2⟩
      rw [lus, List.take_length] at dz
      refine ⟨d, zs, rfl, .inl ⟨.inl (.inl ed), fun t nt => ?_⟩⟩
      exact q (.ref t) _ (same_new s2 nt) (.tup (SqT.of upd_same) (dp_move flat_prow dz (TKeep.new nt)))
end
end K04
namespace K04
open PySem PySem.Spec PyProof.Rows L2 PK
abbrev NManyM : List Str := ["self", "form", "shade", "own", "tint", "many"]
theorem scManyM : FnScope NManyM ["self", "form", "shade"] (defScope (inClass (topS 10) 2)) := ⟨rfl, rfl, rfl, by decide +kernel, rfl, by decide +kernel, by decide +kernel⟩
abbrev FunM (K : PySem.W.Frag) (f : Addr) (fd : FuncData) : Prop := FunD K "many" "Heap.many" (defArgs (inClass (topS 10) 2)) (defBody (inClass (topS 10) 2)) (defScope (inClass (topS 10) 2)) [.non] [] f fd
section
variable {P : Program} {w : World} {K : PySem.W.Frag} {mg : Str → Option Value} {base : Heap}
-- names: ["self", "form", "shade", "own", "tint", "many"] cells {'shade', 'form'}
theorem ok_manym {f C : Addr} {fd : FuncData} {k : Nat} (F : FunM K f fd) (T : HCls K mg C) (hSu : mg "sum" = none) :
    FnOk P w K mg base CX0 (k + 1) f fd ["self", "form", "shade"] (spManyM K C) := by
  refine F.ok (CX := CX0) scManyM (fun vs H Q E h => ?_) (fun cdv A outer s H vs Q E hr h => ?_)
  · obtain ⟨p, fo, x, o, L, rfl, _⟩ := h
    rfl
  · obtain ⟨p, fo, x, o, L, rfl, ⟨dx, t0, hp, dt⟩, hL, hx, q⟩ := h
    obtain ⟨b, us, eb, hb, du⟩ := Dp.tupE dt
    cases eb
    have lus : us.length = L.length := dp_lenM du
    refine ⟨_, (pss_one (ps_ret (pe_callB (k_sum K rfl) (by rfl) hSu (by decide +kernel) (pa_cons (pe_lc (own := [("own", 3), ("tint", 4), ("many", 5)]) rfl scManyM.nd (pk_tup K (pe_fld (pv 0) rfl)) (blkOk_by (N := NManyM) (sc := defScope (inClass (topS 10) 2)) (own := [("own", 3), ("tint", 4), ("many", 5)]) (by decide +kernel)) (fun _ _ _ _ _ => (pgk_tup K (n := 3) rfl (pgs_cons (pg_name (i := 3) scManyM.nd rfl (.inl rfl)) (pgs_cons (pg_name (i := 4) scManyM.nd rfl (.inl rfl)) (pgs_cons (pg_name (i := 5) scManyM.nd rfl (.inl rfl)) pgs_nil))))) (fun _ _ _ _ _ => pts_one (PW.pt (pw_and (pt_cmpR op_eq (pv 3) (pv 1) (nomark _)) (pw_and1 (PW.pt (pw_or (pt_cmpR op_isN (pv 2) pe_non (nomark _)) (pw_or1 (pt_cmpR op_eq (pv 4) (pv 2) (nomark _))))))))) (fun _ _ _ _ _ => (pv 5))) pa_nil)))), ?_⟩
    refine ⟨.ref p, rfl, p, C, dx, _, _, rfl, hp, T.cl, T.nh, hf_held _, t0, rfl, ⟨us, hb⟩, fun d nd => ?_⟩
    refine lc_tup (K := K) (a := t0) (xs := us) (fun i H2 => H2 d = some (.lst ((selL (L.take i) fo o).map V.int)) ∧ Same H H2) ⟨upd_same, same_new (Same.refl H) nd⟩ ?_ ?_ ?_
    · rintro i H2 _ ⟨_, s2⟩
      exact (TKeep.of s2).sq hb
    · rintro i v H2 hv ⟨ed, s2⟩
      obtain ⟨e, he, de⟩ := DpAll.getV du hv
      rw [List.getElem?_map] at he
      obtain ⟨r, hxi, rfl⟩ := Option.map_eq_some_iff.mp he
      have hi := (List.getElem?_eq_some_iff.mp hxi).1
      obtain ⟨b1, rfl, hb1⟩ := Dp.prowE (Dp.same s2 de)
      have add : sel fo o r = true → ∃ acc, H2 d = some (.lst acc) ∧ acc.length < sizeLine ∧ (upd H2 d (.lst (acc ++ [.int r.2.2]))) d = some (.lst ((selL (L.take (i + 1)) fo o).map V.int)) ∧ Same H (upd H2 d (.lst (acc ++ [.int r.2.2]))) := fun hs => by
        refine ⟨_, ed, ?_, ?_, same_own s2 nd⟩
        · rw [List.length_map]
          have := selL_len (L.take i) fo o
          rw [List.length_take] at this
          exact small1000 (by omega)
        · rw [upd_same, selL_snoc hxi, if_pos hs, List.map_append]
          rfl
      have skip : ¬ sel fo o r = true → H2 d = some (.lst ((selL (L.take (i + 1)) fo o).map V.int)) ∧ Same H H2 := fun hs => by
        refine ⟨?_, s2⟩
        rw [ed, selL_snoc hxi, if_neg hs, List.append_nil]
      refine ⟨b1, _, rfl, hb1, rfl, _, _, rfl, _, _, rfl, _, _, rfl, rfl, rfl, ?_⟩
      have dstr : ∀ a b : Str, decide (V.str a = V.str b) = decide (a = b) := fun a b => by
        by_cases z : a = b
        · rw [z, decide_eq_true rfl, decide_eq_true rfl]
        · rw [decide_eq_false z]
          exact decide_eq_false fun y => z (V.str.inj y)
      refine ⟨.str r.1, rfl, .str fo, rfl, rfl, _, rfl, ?_⟩
      rw [dstr]
      refine ite2 (fun h1 => ?_) (fun h1 => ?_)
      · refine ⟨x, rfl, rfl, _, rfl, ite2 (fun h2 => ?_) (fun h2 => ?_)⟩
        · have hn : x = .non := of_decide_eq_true h2
          refine iteT ⟨.int r.2.2, rfl, add ?_⟩
          rcases hx with ⟨_, rfl⟩ | ⟨t, e, _⟩
          · unfold sel
            rw [h1]
            rfl
          · rw [hn] at e
            cases e
        · have hn : ¬ x = .non := fun z => h2 (decide_eq_true z)
          rcases hx with ⟨e, _⟩ | ⟨t, rfl, rfl⟩
          · exact absurd e hn
          refine ⟨.str r.2.1, rfl, .str t, rfl, rfl, _, rfl, ?_⟩
          rw [dstr]
          refine ite2 (fun h3 => ⟨.int r.2.2, rfl, add ?_⟩) (fun h3 => skip ?_)
          · unfold sel
            rw [h1]
            exact h3
          · intro z
            unfold sel at z
            rw [h1] at z
            exact h3 z
      · refine iteF (skip fun z => h1 ?_)
        unfold sel at z
        exact (Bool.and_eq_true_iff.mp z).1
    · rintro H2 ⟨ed, s2⟩
      rw [lus, List.take_length] at ed
      exact ⟨d, _, rfl, .inl (.inl ed), q H2 s2⟩
end
end K04
namespace K04
open PySem PySem.Spec PyProof.Rows L2 PK
abbrev NAbove : List Str := ["heap", "other", "above", "form", "shade", "many", "more"]
theorem scAbove : FnScope NAbove ["heap", "other"] (defScope (topS 9)) := ⟨rfl, rfl, rfl, by decide +kernel, rfl, by decide +kernel, by decide +kernel⟩
section
variable {P : Program} {w : World} {K : PySem.W.Frag} {mg : Str → Option Value} {base : Heap}
-- names: ["heap", "other", "above", "form", "shade", "many", "more"] cells set()
/-- many, all its arguments given or its last left out -/
structure MMany (P : Program) (w : World) (K : PySem.W.Frag) (mg : Str → Option Value) (base : Heap) (k : Nat) (C f : Addr) (fd : FuncData) : Prop where
  ok : FnOk P w K mg base CX0 k f fd ["self", "form", "shade"] (spManyM K C)
  m : Meth K C "many" f
  b2 : ∃ ds, Vals ([] : List V) ds ∧ Binds K fd ["self", "form", "shade"] ds
theorem ok_above {f fR fM C : Addr} {fd fdR fdM : FuncData} {k : Nat} (F : Fun K "rows_above" "rows_above" (topS 9) f fd) (T : HCls K mg C)
    (Rw : MCal P w K mg base 1 C "rows" fR fdR ["self"] (spRows K C)) (Mm : MMany P w K mg base 1 C fM fdM) (hT : mg "tuple" = none) :
    FnOk P w K mg base CX0 (k + 2) f fd ["heap", "other"] (spAbove K C) := by
  obtain ⟨dsM, dM, bM⟩ := Mm.b2
  refine F.ok scAbove (fun vs H Q E h => ?_) (fun cdv A outer s H vs Q E hr h => ?_)
  · obtain ⟨p, q, L, M, rfl, _⟩ := h
    rfl
  · obtain ⟨p, r, L, M, rfl, hp, hq, lL, lM, q⟩ := h
    refine ⟨_, (pss_cons (ps_set (i := 2) scAbove.nd rfl (.inl rfl) (pe_lst pa_nil))
  (pss_cons (ps_for PassesOwn.never rfl (pk_tup K (pe_meth0 (pv 0) T.cl Rw.m Rw.ok (hr.mono (Nat.le_add_left 1 k)) Rw.b .nil pass0)) (pgk_tup K (n := 3) rfl (pgs_cons (pg_name (i := 3) scAbove.nd rfl (.inl rfl)) (pgs_cons (pg_name (i := 4) scAbove.nd rfl (.inl rfl)) (pgs_cons (pg_name (i := 5) scAbove.nd rfl (.inl rfl)) pgs_nil))))
  (Evl.pss_cut (ps_set (i := 6) scAbove.nd rfl (.inl rfl) (pe_op op_sub (pv 5) (pe_meth (pv 1) T.cl Mm.m Mm.ok (hr.mono (Nat.le_add_left 1 k)) bM dM pass0 (pa_cons (pv 3) (pa_cons (pv 4) pa_nil)))))
  (pss_one (ps_if (pt_cmpR op_gt (pv 6) pe_int (nomark _))
  (pss_one (ps_expr (pe_bm PySem.F.plainAttrs_list PySem.F.slot_list_append PySem.F.type_list_append mt_append (pv 2) (pa_cons (pe_tup (pa_cons (pv 3) (pa_cons (pv 4) (pa_cons (pv 6) pa_nil)))) pa_nil)))) pss_nil))))
  (pss_one (ps_ret (pe_callTy (k_tup K) (by rfl) hT (by decide +kernel) (pa_cons (pv 2) pa_nil)))))), ?_⟩
    refine ⟨Nat.zero_le _, fun o no => ?_⟩
    have s0 : Same H (upd H o (.lst [])) := same_new (Same.refl H) no
    have eo0 : (upd H o (.lst [])) o = some (.lst []) := upd_same
    generalize upd H o (.lst []) = H0 at s0 eo0
    have hp0 := hp.same s0
    obtain ⟨dx, fz, e1, e2⟩ := hp0.no (m := "rows") (by decide +kernel)
    refine ⟨.ref p, rfl, p, dx, fz, rfl, e1, e2, p, L, rfl, hp0, lL, fun v H1 s1 dv => ?_⟩
    obtain ⟨b, us, rfl, hb, du⟩ := Dp.tupE dv
    have lus : us.length = L.length := dp_lenM du
    have s01 : Same H H1 := s0.trans s1
    refine ⟨b, rfl, ⟨us, hb⟩, for_tup (K := K) (a := b) (xs := us) (fun i σ H2 => ∃ (zs : List V) (y3 y4 y5 y6 : Option V), σ = [some (.ref p), some (.ref r), some (.ref o), y3, y4, y5, y6] ∧ Same H H2 ∧ TKeep H1 H2 ∧
      H2 o = some (.lst zs) ∧ DpAll K H2 zs ((aboveR (L.take i) M).map prowD)) ⟨[], none, none, none, none, rfl, s01, TKeep.refl _, s1 _ _ eo0, .nil⟩ ?_ ?_ ?_⟩
    · rintro i σ H2 _ ⟨zs, y3, y4, y5, y6, rfl, s2, tk2, _⟩
      exact tk2.sq hb
    · rintro i rv σ H2 hv ⟨zs, y3, y4, y5, y6, rfl, s2, tk2, eo, dz⟩
      obtain ⟨e1', he, de⟩ := DpAll.getV du hv
      rw [List.getElem?_map] at he
      obtain ⟨ro, hLi, rfl⟩ := Option.map_eq_some_iff.mp he
      obtain ⟨b1, rfl, hb1⟩ := Dp.prowE (Dp.keepT tk2 (flat_prow ro) de)
      have hi := (List.getElem?_eq_some_iff.mp hLi).1
      refine ⟨b1, _, rfl, hb1, rfl, _, _, rfl, _, _, rfl, _, _, rfl, rfl, ?_⟩
      have hq2 := hq.same s2
      obtain ⟨dy, fy, g1, g2⟩ := hq2.no (m := "many") (by decide +kernel)
      refine ⟨fun σ H3 => σ = [some (.ref p), some (.ref r), some (.ref o), some (.str ro.1), some (.str ro.2.1), some (.int ro.2.2), some (.int (ro.2.2 - cnt M (PK.pk ro)))] ∧ Same H2 H3, ?_, ?_⟩
      · refine ⟨.int ro.2.2, rfl, .ref r, rfl, r, dy, fy, rfl, g1, g2, .str ro.1, rfl, .str ro.2.1, rfl, r, ro.1, .str ro.2.1, some ro.2.1, M, rfl, hq2, lM, .inr ⟨_, rfl, rfl⟩, fun H3 s3 => ?_⟩
        rw [show manyR M ro.1 (some ro.2.1) = cnt M (PK.pk ro) from manyR_cnt M (PK.pk ro)]
        exact ⟨_, _, rfl, rfl, rfl, s3⟩
      · rintro σ H3 ⟨rfl, s3⟩
        have eo3 := s3 _ _ eo
        have dz3 := DpAll.same s3 dz
        have tk3 : TKeep H1 H3 := tk2.trans (TKeep.of s3)
        refine ⟨.int (ro.2.2 - cnt M (PK.pk ro)), rfl, _, _, rfl, rfl, _, rfl, ite2 (fun h1 => ?_) (fun h1 => ?_)⟩
        · have h1 : 0 < ro.2.2 - cnt M (PK.pk ro) := of_decide_eq_true h1
          refine ⟨.ref o, rfl, .inl ⟨rfl, _, .inl (.inl eo3)⟩, .str ro.1, rfl, .str ro.2.1, rfl, .int _, rfl, by show 3 ≤ sizeLine; decide, fun u nu => ?_⟩
          have s4 : Same H3 (upd H3 u (.tup [.str ro.1, .str ro.2.1, .int (ro.2.2 - cnt M (PK.pk ro))])) := same_new (Same.refl H3) nu
          have eu : (upd H3 u (.tup [.str ro.1, .str ro.2.1, .int (ro.2.2 - cnt M (PK.pk ro))])) u = some (.tup [.str ro.1, .str ro.2.1, .int (ro.2.2 - cnt M (PK.pk ro))]) := upd_same
          generalize upd H3 u (.tup [.str ro.1, .str ro.2.1, .int (ro.2.2 - cnt M (PK.pk ro))]) = H4 at s4 eu
          have eo4 := s4 _ _ eo3
          have tk := TKeep.lst (o := .lst (zs ++ [.ref u])) eo4
          refine ⟨o, zs, .ref u, rfl, rfl, eo4, ?_, zs ++ [.ref u], _, _, _, _, rfl, same_own ((s2.trans s3).trans s4) no, (tk3.trans (TKeep.of s4)).trans tk, upd_same, ?_⟩
          · rw [dp_lenM dz]
            have h2 := aboveR_len (L.take i) M
            rw [List.length_take] at h2
            exact small1000 (by omega)
          · rw [aboveR_snoc hLi, if_pos h1]
            exact dp_snoc flat_prow dz3 ((TKeep.of s4).trans tk) (Dp.prow (r := (ro.1, ro.2.1, ro.2.2 - cnt M (PK.pk ro))) (tk.sq (SqT.of eu)))
        · have h1 : ¬ 0 < ro.2.2 - cnt M (PK.pk ro) := fun z => h1 (decide_eq_true z)
          refine ⟨zs, _, _, _, _, rfl, s2.trans s3, tk3, eo3, ?_⟩
          rw [aboveR_snoc hLi, if_neg h1, List.append_nil]
          exact dz3
    · rintro σ H2 ⟨zs, y3, y4, y5, y6, rfl, s2, tk2, eo, dz⟩
      rw [lus, List.take_length] at dz
      refine ⟨.ref o, rfl, o, zs, rfl, .inl ⟨.inl (.inl eo), fun t nt => ?_⟩⟩
      exact q (.ref t) _ (same_new s2 nt) (.tup (SqT.of upd_same) (dp_move flat_prow dz (TKeep.new nt)))
end
end K04
namespace K04
open PySem PySem.Spec PyProof.Rows L2 PK
abbrev NPlus : List Str := ["self", "other"]
theorem scPlus : FnScope NPlus ["self", "other"] (defScope (inClass (topS 10) 4)) := ⟨rfl, rfl, rfl, by decide +kernel, rfl, by decide +kernel, by decide +kernel⟩
section
variable {P : Program} {w : World} {K : PySem.W.Frag} {mg : Str → Option Value} {base : Heap}
theorem ok_plus {f fI C : Addr} {fd fdI : FuncData} {k : Nat} (F : Fun K "plus" "Heap.plus" (inClass (topS 10) 4) f fd) (T : HCls K mg C) (Hm : HMk P w K mg base 2 C fI fdI) :
    FnOk P w K mg base CX0 (k + 4) f fd ["self", "other"] (spPlus K C) := by
  refine F.ok scPlus (fun vs H Q E h => ?_) (fun cdv A outer s H vs Q E hr h => ?_)
  · obtain ⟨p, q, L, M, rfl, _⟩ := h
    rfl
  · obtain ⟨p, r, L, M, rfl, ⟨dx, t0, hp, dt⟩, ⟨dy, t1, hq, du⟩, hl, q⟩ := h
    refine ⟨_, (pss_one (ps_ret (kheap1 K Hm (hr.mono (Nat.le_add_left 3 k)) (by rfl) (pe_op (ko_catA K) (pe_fld (pv 0) rfl) (pe_fld (pv 1) rfl))))), ?_⟩
    obtain ⟨b0, us, e0, hb0, du0⟩ := Dp.tupE dt
    cases e0
    obtain ⟨b1, vs1, e1, hb1, du1⟩ := Dp.tupE du
    cases e1
    have l0 : us.length = L.length := dp_lenM du0
    have l1 : vs1.length = M.length := dp_lenM du1
    refine ⟨.ref p, rfl, p, C, dx, _, _, rfl, hp, T.cl, T.nh, hf_held _, .ref r, rfl, r, C, dy, _, _, rfl, hq, T.cl, T.nh, hf_held _, t0, t1, us, vs1, rfl, rfl, hb0, hb1, ?_, fun h0 => ?_, fun _ h1 => ?_, fun _ _ u nu => ?_⟩
    · rw [l0, l1]
      exact Nat.le_of_lt (small1000 (by omega))
    · have eL : L = [] := List.eq_nil_of_length_eq_zero (by rw [← l0, h0]; rfl)
      refine ⟨L ++ M, .inr ?_, by rw [List.length_append]; exact hl, fun p' H' n' s' h' => q p' H' n' s' h'⟩
      rw [eL, List.nil_append]
      exact .tup hb1 du1
    · have eM : M = [] := List.eq_nil_of_length_eq_zero (by rw [← l1, h1]; rfl)
      refine ⟨L ++ M, .inr ?_, by rw [List.length_append]; exact hl, fun p' H' n' s' h' => q p' H' n' s' h'⟩
      rw [eM, List.append_nil]
      exact .tup hb0 du0
    · have s1 : Same H (upd H u (.tup (us ++ vs1))) := same_new (Same.refl H) nu
      refine ⟨L ++ M, .inr (.tup (SqT.of upd_same) ?_), by rw [List.length_append]; exact hl, fun p' H' n' s' h' => q p' H' (s1.free n') (s1.trans s') h'⟩
      rw [List.map_append]
      exact DpAll.app (DpAll.same s1 du0) (DpAll.same s1 du1)
end
end K04
namespace K04
open PySem PySem.Spec PyProof.Rows L2 PK
abbrev NHolds : List Str := ["self", "other"]
theorem scHolds : FnScope NHolds ["self", "other"] (defScope (inClass (topS 10) 6)) := ⟨rfl, rfl, rfl, by decide +kernel, rfl, by decide +kernel, by decide +kernel⟩
section
variable {P : Program} {w : World} {K : PySem.W.Frag} {mg : Str → Option Value} {base : Heap}
theorem ok_holds {f fA C : Addr} {fd fdA : FuncData} {k : Nat} (F : Fun K "holds" "Heap.holds" (inClass (topS 10) 6) f fd) (Ab : Cal P w K mg base 2 "rows_above" fA fdA ["heap", "other"] (spAbove K C)) :
    FnOk P w K mg base CX0 (k + 3) f fd ["self", "other"] (spHolds K C) := by
  refine F.ok scHolds (fun vs H Q E h => ?_) (fun cdv A outer s H vs Q E hr h => ?_)
  · obtain ⟨p, q, L, M, n, b, rfl, _⟩ := h
    rfl
  · obtain ⟨p, r, L, M, n, b, rfl, hp, hq, okL, okM, hn, q⟩ := h
    refine ⟨_, (pss_one (ps_ret (pe_cmpR (ko_eqD K hr) (pe_call Ab.ok (hr.mono (Nat.le_add_left 2 k)) (by rfl) Ab.g Ab.kp Ab.b .nil pass0 (pa_cons (pv 1) (pa_cons (pv 0) pa_nil))) (pe_tup pa_nil) (nomark _)))), ?_⟩
    have lL := okL.len
    have lM := okM.len
    refine ⟨.ref r, rfl, .ref p, rfl, r, p, M, L, rfl, hq, hp, by omega, by omega, fun v H1 s1 dv => ⟨Nat.zero_le _, fun e ne => ?_⟩⟩
    have s2 : Same H1 (upd H1 e (.tup [])) := same_new (Same.refl H1) ne
    refine ⟨_, rowsD [], Dp.same s2 dv, .tup (SqT.of upd_same) .nil, rows_shaped (aboveR_ok okM okL), rows_shaped (n := 0) (b := 0) ⟨Nat.le_refl _, fun _ h => (nomatch h)⟩, ?_⟩
    rw [rows_eqv]
    exact q _ (s1.trans s2)
end
end K04
namespace K04
open PySem PySem.Spec PyProof.Rows L2 PK
abbrev NLess : List Str := ["self", "other", "lacking"]
theorem scLess : FnScope NLess ["self", "other"] (defScope (inClass (topS 10) 5)) := ⟨rfl, rfl, rfl, by decide +kernel, rfl, by decide +kernel, by decide +kernel⟩
section
variable {P : Program} {w : World} {K : PySem.W.Frag} {mg : Str → Option Value} {base : Heap}
theorem ok_less {f fA fI fN C CN : Addr} {fd fdA fdI fdN : FuncData} {k : Nat} (F : Fun K "less" "Heap.less" (inClass (topS 10) 5) f fd) (Ab : Cal P w K mg base 2 "rows_above" fA fdA ["heap", "other"] (spAbove K C))
    (Hm : HMk P w K mg base 2 C fI fdI) (U : SupC K mg CN) (iN : PySem.W.findIn K (.ref CN) "__init__" = some (some (.ref fN))) (tN : PySem.W.typeIn K (.ref fN) = some (.type "function"))
    (Er : FnOk P w K mg base CX0 1 fN fdN ["self", "lacking"] (spErr1 CN "lacking")) (bN : Binds K fdN ["self", "lacking"] []) (gN : mg "NoParts" = some (.ref CN)) :
    FnOk P w K mg base (L2.CX P w) (k + 4) f fd ["self", "other"] (spLess K C CN) := by
  refine F.okX scLess (fun vs H Q E h => ?_) (fun cdv A outer s H vs Q E hr h => ?_)
  · obtain ⟨p, q, L, M, n, b, rfl, _⟩ := h
    rfl
  · obtain ⟨p, r, L, M, n, b, rfl, hp, hq, okL, okM, hn, rL, rM, q, qe⟩ := h
    refine ⟨_, (pss_cons (ps_set (i := 2) scLess.nd rfl (.inl rfl) (pe_call Ab.ok (hr.mono (Nat.le_add_left 2 (k + 1))) (by rfl) Ab.g Ab.kp Ab.b .nil pass0 (pa_cons (pv 1) (pa_cons (pv 0) pa_nil))))
  (pss_cons (ps_if (pt_cmpR (ko_neD K hr) (pv 2) (pe_tup pa_nil) (nomark _))
  (pss_one (ps_raise rfl (takes_of rfl rfl rfl rfl) (pmk_oex U.ex iN tN Er (hr.mono (Nat.le_add_left 2 (k + 1))) bN .nil pass0 (by rfl) gN (pa_cons (kheap1 K Hm (hr.mono (Nat.le_add_left 3 k)) (by rfl) (pv 2)) pa_nil)))) pss_nil)
  (pss_one (ps_ret (kheap1 K Hm (hr.mono (Nat.le_add_left 3 k)) (by rfl) (pe_call Ab.ok (hr.mono (Nat.le_add_left 2 (k + 1))) (by rfl) Ab.g Ab.kp Ab.b .nil pass0 (pa_cons (pv 0) (pa_cons (pv 1) pa_nil)))))))), ?_⟩
    have lL := okL.len
    have lM := okM.len
    refine ⟨.ref r, rfl, .ref p, rfl, r, p, M, L, rfl, hq, hp, by omega, by omega, fun v H1 s1 dv => ?_⟩
    refine ⟨v, rfl, Nat.zero_le _, fun e ne => ?_⟩
    have s2 : Same H1 (upd H1 e (.tup [])) := same_new (Same.refl H1) ne
    have de : Dp K (upd H1 e (.tup [])) (.ref e) (rowsD []) := .tup (SqT.of upd_same) .nil
    generalize upd H1 e (.tup []) = H2 at s2 de
    have s12 : Same H H2 := s1.trans s2
    have dv2 := Dp.same s2 dv
    refine ⟨_, rowsD [], dv2, de, rows_shaped (aboveR_ok okM okL), rows_shaped (n := 0) (b := 0) ⟨Nat.le_refl _, fun _ h => (nomatch h)⟩, _, rfl, ?_⟩
    rw [rows_eqv]
    refine ite2 (fun h1 => ?_) (fun h1 => ?_)
    · have h1 : aboveR M L ≠ [] := by simpa using h1
      have la := aboveR_len M L
      refine ⟨v, rfl, aboveR M L, .inr dv2, by omega, fun p' H3 n3 s3 h3 => ⟨by show 1 ≤ 1000; decide, fun a na => ?_⟩⟩
      rw [sumR_id (rises_above rM)] at h3
      refine ⟨a, .ref p', rfl, upd_same, fun dx ndx ndxa => ⟨rfl, dx, [("lacking", .ref p')], upd_same, ?_, ?_, ?_⟩⟩
      · rw [upd_ne ndxa, upd_same]
      · rw [upd_ne ndxa] at ndx
        exact ndx
      · have nd3 : H3 dx = none := by
          rw [upd_ne ndxa] at ndx
          exact ndx
        have s4 : Same H3 (upd (del (upd (upd (upd H3 a (exo a CN none)) dx (exd dx [("lacking", .ref p')])) a (exo a CN (some dx))) a) dx (.xd [("lacking", .ref p')])) := fun b o z => by
          have z1 : b ≠ dx := ne_of_none z nd3
          have z2 : b ≠ a := ne_of_none z na
          rw [upd_ne z1, del_ne z2, upd_ne z2, upd_ne z1, upd_ne z2]
          exact z
        have s34 := (s12.trans s3).trans s4
        exact qe h1 p' dx _ ((s12.trans s3).free nd3) (s12.free n3) s34 (h3.same s4) upd_same
    · have h1 : aboveR M L = [] := by simpa using h1
      refine ⟨.ref p, rfl, .ref r, rfl, p, r, L, M, rfl, hp.same s12, hq.same s12, by omega, by omega, fun v3 H3 s3 dv3 => ?_⟩
      have la := aboveR_len L M
      refine ⟨aboveR L M, .inr dv3, by omega, fun p' H4 n4 s4 h4 => ?_⟩
      rw [sumR_id (rises_above rL)] at h4
      have s13 := s12.trans s3
      exact q h1 p' H4 (s13.free n4) (s13.trans s4) h4
end
end K04
namespace K04
open PySem PySem.Spec PyProof.Rows L2 PK
abbrev NNoParts : List Str := ["self", "lacking"]
theorem scNoParts : SScope NNoParts ["self", "lacking"] (defScope (inClass (topS 5) 0)) := ⟨rfl, rfl, rfl, by decide +kernel, rfl, by decide +kernel, by decide +kernel, by decide +kernel, rfl, rfl⟩
section
variable {P : Program} {w : World} {K : PySem.W.Frag} {mg : Str → Option Value} {base : Heap}
theorem ok_NoParts {f C : Addr} {fd : FuncData} {k : Nat} (F : FunS P K "__init__" "NoParts.__init__" (inClass (topS 5) 0) C f fd) (U : SupC K mg C) (nf : PySem.W.findIn K (.ref C) "lacking" = some none) :
    FnOk P w K mg base CX0 (k + 1) f fd ["self", "lacking"] (spErr1 C "lacking") := by
  refine fn_super (N := NNoParts) F U scNoParts rfl rfl rfl (fun _ => rfl) (fun _ => ⟨_, rfl⟩) (fun _ => rfl) (fun vs H Q E h => ?_) (fun cdv cc A outer s H vs Q E hr h => ?_)
  · obtain ⟨a, v, rfl, _⟩ := h
    rfl
  · obtain ⟨a, v, rfl, ha, q⟩ := h
    refine ⟨a, _, _, rfl, ha, pa_cons pe_str pa_nil, pss_one (ps_ost (pv 0) (pv 1)), by show 1 ≤ 1000; decide, ha, ?_⟩
    exact ⟨v, rfl, .ref a, rfl, a, C, rfl, U.ex, nf, .inl ⟨ha, fun dx nd ne => q dx nd ne⟩⟩
end
end K04
namespace LP
open PySem PySem.Spec PyProof.Rows L2 PK RZ
/-! ### shades -/
/-! ### wants, ways -/
theorem Sz.un {m dp n : Nat} {l : List D} (h : Sz m dp n (.tup l)) : Szs m dp n l ∧ wts (D.toPs l) + 3 ≤ n := by
  have h3 : (PyData.tuple (D.toPs l)).depth ≤ dp := h.dep
  rw [depth_tuple] at h3
  have h4 : wts (D.toPs l) + 3 ≤ n := h.wt
  exact ⟨⟨h.pl, h.mx, by omega, by omega⟩, h4⟩
end LP
namespace LP
open PySem PySem.Spec PyProof.Rows L2 PK RZ
theorem many_wp {Q : D → Prop} {E : Ex → Prop} (q : ∀ r : Int, 1 ≤ r → r ≤ 1000000000 → Q (.int r)) : (fLMany [.tok 0]).wp Q E := by
  refine ⟨rfl, ?_⟩
  show (endW (bLMany (startE 1 [.tok 0]))).wp Q E
  simp only [bLMany, W.bind_wp, W.ret_wp, W.want_wp, W.any_wp, s_ite, s_get0, s_get, s_then, s_end, s_run, s_calm, s_fail, s_start1, s_start2, s_start3, s_start4, s_start5, List.replicate, List.set_cons_zero, List.set_cons_succ, asB_bl, asS_str, Nat.reduceSub, Nat.reduceAdd, addW.eq_1, addW.eq_2, addW.eq_3, addW.eq_4, addW.eq_5, subW.eq_1, subW.eq_2, mulW.eq_1, mulW.eq_2, mulW.eq_3, intOp.eq_1, negW.eq_1, ordW.eq_1, ordW.eq_2, isW.eq_1, isntW.eq_1, ixW.eq_1, ixW.eq_2, ixW.eq_3, slW.eq_1, slW.eq_2, slW.eq_3, revTW.eq_1, revLW.eq_1, lenW.eq_1, lenW.eq_2, lenW.eq_3, tupleW.eq_1, tupleW.eq_2, listW.eq_1, listW.eq_2, min2W.eq_1, max2W.eq_1, strW.eq_1, strW.eq_2, joinW.eq_1, joinW.eq_2, walkLW.eq_1, walkTW.eq_1, walkSW.eq_1, range1W.eq_1, zipW.eq_1, zipW.eq_2, tupG.eq_1, gsW.eq_1, gsW.eq_2, par2.eq_1, extW.eq_1, extW.eq_2, partW.eq_1, optW.eq_1, optW.eq_2, modW, fdivW, powW, ltW, leW, gtW, geW, isNone, isi_non, isi_bl, isi_int, isi_str, isi_tup, isi_lst, upperW, putW, appW, tupW, lstW, asB_bl, String.reduceBEq, beq_self_eq_true, Bool.or_true, Bool.true_or, Bool.or_false, Bool.false_or, Bool.and_true, Bool.true_and, Bool.and_false, Bool.false_and, Bool.not_true, Bool.not_false, forall_const, true_implies, true_and, and_true, false_implies, reduceCtorEq, List.length_cons, List.length_nil, forall_eq, imp_self, implies_true, if_true, if_false, Bool.false_eq_true, Bool.true_eq_false]
  refine draw_wp (by decide) (by decide) fun r1 a1 b1 => ⟨⟨by decide, by decide, by decide⟩, draw_wp (by decide) (by decide) fun r2 a2 b2 => ⟨⟨by decide, by decide, by decide⟩, draw_wp (by decide) (by decide) fun r3 a3 b3 => ⟨small (by decide), draw_wp (by decide) (by decide) fun r4 a4 b4 => ?_⟩⟩⟩
  have b3 : r3 < 1000000 := b3
  have e : r4 = 0 ∨ r4 = 1 ∨ r4 = 2 ∨ r4 = 3 := by omega
  rcases e with rfl | rfl | rfl | rfl
  · exact q 1 (by decide) (by decide)
  · exact q (1 + r1) (by omega) (by omega)
  · exact q (1000000000 - r2) (by omega) (by omega)
  · exact q (1 + r3) (by omega) (by omega)
theorem plains_strs (ws : List Str) : D.plains (ws.map D.str) = true := by
  rw [plains_all, List.all_map]
  exact List.all_eq_true.mpr fun _ _ => rfl
theorem depths_strs (ws : List Str) : PyData.depthAll (D.toPs (ws.map D.str)) = 0 := by
  induction ws with
  | nil => rfl
  | cons y ws ih => show max 0 (PyData.depthAll (D.toPs (ws.map D.str))) = 0; rw [ih]; rfl
theorem sh_strs (ws : List Str) : D.sh (.lst (ws.map D.str)) := by
  refine ⟨plains_strs ws, ?_⟩
  show (PyData.list (D.toPs (ws.map D.str))).depth ≤ 64
  rw [depth_list, depths_strs]
  decide
theorem neW_nil (ws : List Str) : neW (.lst (ws.map D.str)) (.lst []) = W.ret (.bl (!ws.isEmpty)) := by
  refine (neW_sh (sh_strs ws) (sh_strs [])).trans ?_
  cases ws <;> rfl
theorem last_strs {ws : List Str} (h : ws ≠ []) : atI (ws.map D.str) (-1) = some (.str (ws.getLast h)) := by
  have e : ws.map D.str = ws.dropLast.map D.str ++ [.str (ws.getLast h)] := by
    rw [← List.map_singleton (f := D.str), ← List.map_append, List.dropLast_concat_getLast]
  rw [e]
  exact atI_last _ _
theorem Word.ok {y : Str} (h : Word y) : PyData.strOk y = true := strOk_mem.mpr fun c hc => by
  have := (h.low c hc).2
  omega
theorem ssOf_ones (l : List Nat) : ssOf (l.map fun k => D.str ⟨#[k]⟩) = some (l.map fun k => (⟨#[k]⟩ : Str)) := by
  have e : (l.map fun k => D.str ⟨#[k]⟩) = (l.map fun k => (⟨#[k]⟩ : Str)).map D.str := by rw [List.map_map]; rfl
  rw [e, ssOf_map]
/-- so many words, unlike -/
theorem names_wp {n : Int} {Q : D → Prop} {E : Ex → Prop} (h0 : 0 ≤ n) (h1 : n ≤ 20) (q : ∀ ws : List Str, (ws.length : Int) = n → (∀ y ∈ ws, Word y) → ws.Nodup → Q (.lst (ws.map D.str))) : (fLNames [.tok 0, .int n]).wp Q E := by
  refine ⟨rfl, ?_⟩
  show (endW (bLNames (startE 8 [.tok 0, .int n]))).wp Q E
  simp only [bLNames, W.bind_wp, W.ret_wp, W.want_wp, W.any_wp, s_ite, s_get0, s_get, s_then, s_end, s_run, s_calm, s_fail, s_start1, s_start2, s_start3, s_start4, s_start5, List.replicate, List.set_cons_zero, List.set_cons_succ, asB_bl, asS_str, Nat.reduceSub, Nat.reduceAdd, addW.eq_1, addW.eq_2, addW.eq_3, addW.eq_4, addW.eq_5, subW.eq_1, subW.eq_2, mulW.eq_1, mulW.eq_2, mulW.eq_3, intOp.eq_1, negW.eq_1, ordW.eq_1, ordW.eq_2, isW.eq_1, isntW.eq_1, ixW.eq_1, ixW.eq_2, ixW.eq_3, slW.eq_1, slW.eq_2, slW.eq_3, revTW.eq_1, revLW.eq_1, lenW.eq_1, lenW.eq_2, lenW.eq_3, tupleW.eq_1, tupleW.eq_2, listW.eq_1, listW.eq_2, min2W.eq_1, max2W.eq_1, strW.eq_1, strW.eq_2, joinW.eq_1, joinW.eq_2, walkLW.eq_1, walkTW.eq_1, walkSW.eq_1, range1W.eq_1, zipW.eq_1, zipW.eq_2, tupG.eq_1, gsW.eq_1, gsW.eq_2, par2.eq_1, extW.eq_1, extW.eq_2, partW.eq_1, optW.eq_1, optW.eq_2, modW, fdivW, powW, ltW, leW, gtW, geW, isNone, isi_non, isi_bl, isi_int, isi_str, isi_tup, isi_lst, upperW, putW, appW, tupW, lstW, asB_bl, String.reduceBEq, beq_self_eq_true, Bool.or_true, Bool.true_or, Bool.or_false, Bool.false_or, Bool.and_true, Bool.true_and, Bool.and_false, Bool.false_and, Bool.not_true, Bool.not_false, forall_const, true_implies, true_and, and_true, false_implies, reduceCtorEq, List.length_cons, List.length_nil, forall_eq, imp_self, implies_true, if_true, if_false, Bool.false_eq_true, Bool.true_eq_false]
  refine ⟨small (by decide), by decide, draw_wp (by decide) (by decide) fun a0 a1 a2 => ⟨⟨by omega, by omega⟩, ?_⟩⟩
  refine forW_wp0 (fun i env => ∃ (ws : List Str) (z : Int) (y5 y6 y7 : Option D), env = [some (.tok 0), some (.int n), some (.str abc), some (.lst (ws.map D.str)), some (.int z), y5, y6, y7] ∧ ws.length = i ∧ (∀ y ∈ ws, Word y) ∧ NmOk a0 z ws)
    ⟨[], a0, none, none, none, rfl, rfl, fun _ h => (nomatch h), NmOk.nil a0⟩ ?_ ?_
  · rintro i d env hd ⟨ws, z, y5, y6, y7, rfl, lw, hw, nm⟩
    have hi : i < n.toNat := by
      have := (List.getElem?_eq_some_iff.mp hd).1
      simpa [rangeD] using this
    have lo := nm.lo
    have few := nm.few
    have put : ∀ (y : Str) (z' : Int) (y5 y6 y7 : Option D), Word y → NmOk a0 z' (ws ++ [y]) → ∃ (ws' : List Str) (z : Int) (x5 x6 x7 : Option D), [some (.tok 0), some (.int n), some (.str abc), some (.lst (ws.map D.str ++ [.str y])), some (.int z'), y5, y6, y7] = [some (.tok 0), some (.int n), some (.str abc), some (.lst (ws'.map D.str)), some (.int z), x5, x6, x7] ∧ ws'.length = i + 1 ∧ (∀ y ∈ ws', Word y) ∧ NmOk a0 z ws' := by
      intro y z' y5 y6 y7 hy nm'
      refine ⟨ws ++ [y], z', y5, y6, y7, by rw [List.map_append]; rfl, by rw [List.length_append, lw]; rfl, fun v hv => ?_, nm'⟩
      rcases List.mem_append.mp hv with h | h
      · exact hw v h
      · rw [List.mem_singleton.mp h]
        exact hy
    show (bLNames_3 [some (.tok 0), some (.int n), some (.str abc), some (.lst (ws.map D.str)), some (.int z), some d, y6, y7]).wp _ E
    have els : ∀ R : Fl → Prop, (∀ e, (∃ (ws : List Str) (z : Int) (y5 y6 y7 : Option D), e = [some (.tok 0), some (.int n), some (.str abc), some (.lst (ws.map D.str)), some (.int z), y5, y6, y7] ∧ ws.length = i + 1 ∧ (∀ y ∈ ws, Word y) ∧ NmOk a0 z ws) → R (.nx e)) →
      (bLNames_2 [some (.tok 0), some (.int n), some (.str abc), some (.lst (ws.map D.str)), some (.int z), some d, y6, y7]).wp R E := by
      intro R hR
      simp only [bLNames_2, W.bind_wp, W.ret_wp, W.want_wp, W.any_wp, s_ite, s_get0, s_get, s_then, s_end, s_run, s_calm, s_fail, s_start1, s_start2, s_start3, s_start4, s_start5, List.replicate, List.set_cons_zero, List.set_cons_succ, asB_bl, asS_str, Nat.reduceSub, Nat.reduceAdd, addW.eq_1, addW.eq_2, addW.eq_3, addW.eq_4, addW.eq_5, subW.eq_1, subW.eq_2, mulW.eq_1, mulW.eq_2, mulW.eq_3, intOp.eq_1, negW.eq_1, ordW.eq_1, ordW.eq_2, isW.eq_1, isntW.eq_1, ixW.eq_1, ixW.eq_2, ixW.eq_3, slW.eq_1, slW.eq_2, slW.eq_3, revTW.eq_1, revLW.eq_1, lenW.eq_1, lenW.eq_2, lenW.eq_3, tupleW.eq_1, tupleW.eq_2, listW.eq_1, listW.eq_2, min2W.eq_1, max2W.eq_1, strW.eq_1, strW.eq_2, joinW.eq_1, joinW.eq_2, walkLW.eq_1, walkTW.eq_1, walkSW.eq_1, range1W.eq_1, zipW.eq_1, zipW.eq_2, tupG.eq_1, gsW.eq_1, gsW.eq_2, par2.eq_1, extW.eq_1, extW.eq_2, partW.eq_1, optW.eq_1, optW.eq_2, modW, fdivW, powW, ltW, leW, gtW, geW, isNone, isi_non, isi_bl, isi_int, isi_str, isi_tup, isi_lst, upperW, putW, appW, tupW, lstW, asB_bl, String.reduceBEq, beq_self_eq_true, Bool.or_true, Bool.true_or, Bool.or_false, Bool.false_or, Bool.and_true, Bool.true_and, Bool.and_false, Bool.false_and, Bool.not_true, Bool.not_false, forall_const, true_implies, true_and, and_true, false_implies, reduceCtorEq, List.length_cons, List.length_nil, forall_eq, imp_self, implies_true, if_true, if_false, Bool.false_eq_true, Bool.true_eq_false]
      refine lcD_go ?_
      simp only [W.bind_wp, W.ret_wp, W.want_wp, W.any_wp, s_ite, s_get0, s_get, s_then, s_end, s_run, s_calm, s_fail, s_start1, s_start2, s_start3, s_start4, s_start5, List.replicate, List.set_cons_zero, List.set_cons_succ, asB_bl, asS_str, Nat.reduceSub, Nat.reduceAdd, addW.eq_1, addW.eq_2, addW.eq_3, addW.eq_4, addW.eq_5, subW.eq_1, subW.eq_2, mulW.eq_1, mulW.eq_2, mulW.eq_3, intOp.eq_1, negW.eq_1, ordW.eq_1, ordW.eq_2, isW.eq_1, isntW.eq_1, ixW.eq_1, ixW.eq_2, ixW.eq_3, slW.eq_1, slW.eq_2, slW.eq_3, revTW.eq_1, revLW.eq_1, lenW.eq_1, lenW.eq_2, lenW.eq_3, tupleW.eq_1, tupleW.eq_2, listW.eq_1, listW.eq_2, min2W.eq_1, max2W.eq_1, strW.eq_1, strW.eq_2, joinW.eq_1, joinW.eq_2, walkLW.eq_1, walkTW.eq_1, walkSW.eq_1, range1W.eq_1, zipW.eq_1, zipW.eq_2, tupG.eq_1, gsW.eq_1, gsW.eq_2, par2.eq_1, extW.eq_1, extW.eq_2, partW.eq_1, optW.eq_1, optW.eq_2, modW, fdivW, powW, ltW, leW, gtW, geW, isNone, isi_non, isi_bl, isi_int, isi_str, isi_tup, isi_lst, upperW, putW, appW, tupW, lstW, asB_bl, String.reduceBEq, beq_self_eq_true, Bool.or_true, Bool.true_or, Bool.or_false, Bool.false_or, Bool.and_true, Bool.true_and, Bool.and_false, Bool.false_and, Bool.not_true, Bool.not_false, forall_const, true_implies, true_and, and_true, false_implies, reduceCtorEq, List.length_cons, List.length_nil, forall_eq, imp_self, implies_true, if_true, if_false, Bool.false_eq_true, Bool.true_eq_false]
      refine ⟨small (by decide), draw_wp (by decide) (by decide) fun r r0 r1 => ?_⟩
      have e4 : r = 0 ∨ r = 1 ∨ r = 2 ∨ r = 3 := by omega
      have key : ∃ k : Nat, k ≤ 7 ∧ atI [D.int 0, .int 0, .int 1, .int 7] r = some (.int k) := by
        rcases e4 with rfl | rfl | rfl | rfl
        · exact ⟨0, by decide, rfl⟩
        · exact ⟨0, by decide, rfl⟩
        · exact ⟨1, by decide, rfl⟩
        · exact ⟨7, by decide, rfl⟩
      obtain ⟨k, hk, ek⟩ := key
      simp only [W.bind_wp, W.ret_wp, W.want_wp, W.any_wp, s_ite, s_get0, s_get, s_then, s_end, s_run, s_calm, s_fail, s_start1, s_start2, s_start3, s_start4, s_start5, List.replicate, List.set_cons_zero, List.set_cons_succ, asB_bl, asS_str, Nat.reduceSub, Nat.reduceAdd, addW.eq_1, addW.eq_2, addW.eq_3, addW.eq_4, addW.eq_5, subW.eq_1, subW.eq_2, mulW.eq_1, mulW.eq_2, mulW.eq_3, intOp.eq_1, negW.eq_1, ordW.eq_1, ordW.eq_2, isW.eq_1, isntW.eq_1, ixW.eq_1, ixW.eq_2, ixW.eq_3, slW.eq_1, slW.eq_2, slW.eq_3, revTW.eq_1, revLW.eq_1, lenW.eq_1, lenW.eq_2, lenW.eq_3, tupleW.eq_1, tupleW.eq_2, listW.eq_1, listW.eq_2, min2W.eq_1, max2W.eq_1, strW.eq_1, strW.eq_2, joinW.eq_1, joinW.eq_2, walkLW.eq_1, walkTW.eq_1, walkSW.eq_1, range1W.eq_1, zipW.eq_1, zipW.eq_2, tupG.eq_1, gsW.eq_1, gsW.eq_2, par2.eq_1, extW.eq_1, extW.eq_2, partW.eq_1, optW.eq_1, optW.eq_2, modW, fdivW, powW, ltW, leW, gtW, geW, isNone, isi_non, isi_bl, isi_int, isi_str, isi_tup, isi_lst, upperW, putW, appW, tupW, lstW, asB_bl, String.reduceBEq, beq_self_eq_true, Bool.or_true, Bool.true_or, Bool.or_false, Bool.false_or, Bool.and_true, Bool.true_and, Bool.and_false, Bool.false_and, Bool.not_true, Bool.not_false, forall_const, true_implies, true_and, and_true, false_implies, reduceCtorEq, List.length_cons, List.length_nil, forall_eq, imp_self, implies_true, if_true, if_false, Bool.false_eq_true, Bool.true_eq_false, ek]
      refine ⟨⟨by omega, by omega⟩, ?_⟩
      refine lcW_go (fun j acc => ∃ l : List Nat, acc = l.map (fun c => D.str ⟨#[c]⟩) ∧ l.length = j ∧ ∀ c ∈ l, Lw c) ⟨[], rfl, rfl, fun _ h => (nomatch h)⟩ ?_ ?_
      · rintro j e acc he ⟨l, rfl, lj, hl⟩
        have hj : j < k := by
          have := (List.getElem?_eq_some_iff.mp he).1
          simpa [rangeD] using this
        simp only [wipeE, W.bind_wp, W.ret_wp, W.want_wp, W.any_wp, s_ite, s_get0, s_get, s_then, s_end, s_run, s_calm, s_fail, s_start1, s_start2, s_start3, s_start4, s_start5, List.replicate, List.set_cons_zero, List.set_cons_succ, asB_bl, asS_str, Nat.reduceSub, Nat.reduceAdd, addW.eq_1, addW.eq_2, addW.eq_3, addW.eq_4, addW.eq_5, subW.eq_1, subW.eq_2, mulW.eq_1, mulW.eq_2, mulW.eq_3, intOp.eq_1, negW.eq_1, ordW.eq_1, ordW.eq_2, isW.eq_1, isntW.eq_1, ixW.eq_1, ixW.eq_2, ixW.eq_3, slW.eq_1, slW.eq_2, slW.eq_3, revTW.eq_1, revLW.eq_1, lenW.eq_1, lenW.eq_2, lenW.eq_3, tupleW.eq_1, tupleW.eq_2, listW.eq_1, listW.eq_2, min2W.eq_1, max2W.eq_1, strW.eq_1, strW.eq_2, joinW.eq_1, joinW.eq_2, walkLW.eq_1, walkTW.eq_1, walkSW.eq_1, range1W.eq_1, zipW.eq_1, zipW.eq_2, tupG.eq_1, gsW.eq_1, gsW.eq_2, par2.eq_1, extW.eq_1, extW.eq_2, partW.eq_1, optW.eq_1, optW.eq_2, modW, fdivW, powW, ltW, leW, gtW, geW, isNone, isi_non, isi_bl, isi_int, isi_str, isi_tup, isi_lst, upperW, putW, appW, tupW, lstW, asB_bl, String.reduceBEq, beq_self_eq_true, Bool.or_true, Bool.true_or, Bool.or_false, Bool.false_or, Bool.and_true, Bool.true_and, Bool.and_false, Bool.false_and, Bool.not_true, Bool.not_false, forall_const, true_implies, true_and, and_true, false_implies, reduceCtorEq, List.length_cons, List.length_nil, forall_eq, imp_self, implies_true, if_true, if_false, Bool.false_eq_true, Bool.true_eq_false]
        refine draw_wp (by decide) (by decide) fun r r0 r1 => ?_
        obtain ⟨c, ec, hc⟩ := abc_at r0 r1
        simp only [W.bind_wp, W.ret_wp, W.want_wp, W.any_wp, s_ite, s_get0, s_get, s_then, s_end, s_run, s_calm, s_fail, s_start1, s_start2, s_start3, s_start4, s_start5, List.replicate, List.set_cons_zero, List.set_cons_succ, asB_bl, asS_str, Nat.reduceSub, Nat.reduceAdd, addW.eq_1, addW.eq_2, addW.eq_3, addW.eq_4, addW.eq_5, subW.eq_1, subW.eq_2, mulW.eq_1, mulW.eq_2, mulW.eq_3, intOp.eq_1, negW.eq_1, ordW.eq_1, ordW.eq_2, isW.eq_1, isntW.eq_1, ixW.eq_1, ixW.eq_2, ixW.eq_3, slW.eq_1, slW.eq_2, slW.eq_3, revTW.eq_1, revLW.eq_1, lenW.eq_1, lenW.eq_2, lenW.eq_3, tupleW.eq_1, tupleW.eq_2, listW.eq_1, listW.eq_2, min2W.eq_1, max2W.eq_1, strW.eq_1, strW.eq_2, joinW.eq_1, joinW.eq_2, walkLW.eq_1, walkTW.eq_1, walkSW.eq_1, range1W.eq_1, zipW.eq_1, zipW.eq_2, tupG.eq_1, gsW.eq_1, gsW.eq_2, par2.eq_1, extW.eq_1, extW.eq_2, partW.eq_1, optW.eq_1, optW.eq_2, modW, fdivW, powW, ltW, leW, gtW, geW, isNone, isi_non, isi_bl, isi_int, isi_str, isi_tup, isi_lst, upperW, putW, appW, tupW, lstW, asB_bl, String.reduceBEq, beq_self_eq_true, Bool.or_true, Bool.true_or, Bool.or_false, Bool.false_or, Bool.and_true, Bool.true_and, Bool.and_false, Bool.false_and, Bool.not_true, Bool.not_false, forall_const, true_implies, true_and, and_true, false_implies, reduceCtorEq, List.length_cons, List.length_nil, forall_eq, imp_self, implies_true, if_true, if_false, Bool.false_eq_true, Bool.true_eq_false, ec]
        refine ⟨abc_len, ?_, l ++ [c], by rw [List.map_append]; rfl, by rw [List.length_append, lj]; rfl, fun x hx => ?_⟩
        · rw [List.length_map]
          exact smallT (by omega)
        · rcases List.mem_append.mp hx with h | h
          · exact hl x h
          · rw [List.mem_singleton.mp h]
            exact hc
      · rintro acc ⟨l, rfl, lj, hl⟩
        have lk : l.length = k := by rw [lj]; simp [rangeD]
        have m0 := Int.emod_nonneg (z + 1) (show (26 : Int) ≠ 0 by decide)
        have m1 := Int.emod_lt_of_pos (z + 1) (show (0 : Int) < 26 by decide)
        obtain ⟨c, ec, hc⟩ := abc_at m0 m1
        have hw2 := word_join hc (show l.length ≤ 7 by omega) hl
        rw [TL.join_eq] at hw2
        have hsum : ((l.map fun k => (⟨#[k]⟩ : Str)).map (·.length)).sum + (l.map fun k => (⟨#[k]⟩ : Str)).length * Str.length ("" : String) ≤ 16777216 := by
          have e1 : ((l.map fun k => (⟨#[k]⟩ : Str)).map (·.length)).sum = l.length := by
            rw [List.map_map]
            clear hw2 hl lk lj
            induction l with
            | nil => rfl
            | cons a l ih => rw [List.map_cons, List.sum_cons, ih, List.length_cons]; show 1 + _ = _; omega
          rw [e1, List.length_map, show Str.length ("" : String) = 0 from rfl]
          omega
        simp only [W.bind_wp, W.ret_wp, W.want_wp, W.any_wp, s_ite, s_get0, s_get, s_then, s_end, s_run, s_calm, s_fail, s_start1, s_start2, s_start3, s_start4, s_start5, List.replicate, List.set_cons_zero, List.set_cons_succ, asB_bl, asS_str, Nat.reduceSub, Nat.reduceAdd, addW.eq_1, addW.eq_2, addW.eq_3, addW.eq_4, addW.eq_5, subW.eq_1, subW.eq_2, mulW.eq_1, mulW.eq_2, mulW.eq_3, intOp.eq_1, negW.eq_1, ordW.eq_1, ordW.eq_2, isW.eq_1, isntW.eq_1, ixW.eq_1, ixW.eq_2, ixW.eq_3, slW.eq_1, slW.eq_2, slW.eq_3, revTW.eq_1, revLW.eq_1, lenW.eq_1, lenW.eq_2, lenW.eq_3, tupleW.eq_1, tupleW.eq_2, listW.eq_1, listW.eq_2, min2W.eq_1, max2W.eq_1, strW.eq_1, strW.eq_2, joinW.eq_1, joinW.eq_2, walkLW.eq_1, walkTW.eq_1, walkSW.eq_1, range1W.eq_1, zipW.eq_1, zipW.eq_2, tupG.eq_1, gsW.eq_1, gsW.eq_2, par2.eq_1, extW.eq_1, extW.eq_2, partW.eq_1, optW.eq_1, optW.eq_2, modW, fdivW, powW, ltW, leW, gtW, geW, isNone, isi_non, isi_bl, isi_int, isi_str, isi_tup, isi_lst, upperW, putW, appW, tupW, lstW, asB_bl, String.reduceBEq, beq_self_eq_true, Bool.or_true, Bool.true_or, Bool.or_false, Bool.false_or, Bool.and_true, Bool.true_and, Bool.and_false, Bool.false_and, Bool.not_true, Bool.not_false, forall_const, true_implies, true_and, and_true, false_implies, reduceCtorEq, List.length_cons, List.length_nil, forall_eq, imp_self, implies_true, if_true, if_false, Bool.false_eq_true, Bool.true_eq_false, ec, ssOf_ones]
        refine ⟨by decide, abc_len, hsum, ?_, ?_, hR _ (put _ (z + 1) (some d) _ y7 hw2 (nm.next (by omega) ?_))⟩
        · have := hw2.eight
          have e9 : (⟨#[c]⟩ ++ Str.join ⟨#[]⟩ (l.map fun k => (⟨#[k]⟩ : Str))).length = (⟨#[c]⟩ : Str).length + (Str.join ⟨#[]⟩ (l.map fun k => (⟨#[k]⟩ : Str))).length := strLen_append _ _
          refine small ?_
          show (⟨#[c]⟩ : Str).length + (Str.join ⟨#[]⟩ (l.map fun k => (⟨#[k]⟩ : Str))).length ≤ 1000000
          omega
        · rw [List.length_map]
          exact smallT (by omega)
        · rw [hd_cons, abc_at2 m0 m1 ec]
          rfl
    simp only [bLNames_3, bLNames_1, W.bind_wp, W.ret_wp, W.want_wp, W.any_wp, s_ite, s_get0, s_get, s_then, s_end, s_run, s_calm, s_fail, s_start1, s_start2, s_start3, s_start4, s_start5, List.replicate, List.set_cons_zero, List.set_cons_succ, asB_bl, asS_str, Nat.reduceSub, Nat.reduceAdd, addW.eq_1, addW.eq_2, addW.eq_3, addW.eq_4, addW.eq_5, subW.eq_1, subW.eq_2, mulW.eq_1, mulW.eq_2, mulW.eq_3, intOp.eq_1, negW.eq_1, ordW.eq_1, ordW.eq_2, isW.eq_1, isntW.eq_1, ixW.eq_1, ixW.eq_2, ixW.eq_3, slW.eq_1, slW.eq_2, slW.eq_3, revTW.eq_1, revLW.eq_1, lenW.eq_1, lenW.eq_2, lenW.eq_3, tupleW.eq_1, tupleW.eq_2, listW.eq_1, listW.eq_2, min2W.eq_1, max2W.eq_1, strW.eq_1, strW.eq_2, joinW.eq_1, joinW.eq_2, walkLW.eq_1, walkTW.eq_1, walkSW.eq_1, range1W.eq_1, zipW.eq_1, zipW.eq_2, tupG.eq_1, gsW.eq_1, gsW.eq_2, par2.eq_1, extW.eq_1, extW.eq_2, partW.eq_1, optW.eq_1, optW.eq_2, modW, fdivW, powW, ltW, leW, gtW, geW, isNone, isi_non, isi_bl, isi_int, isi_str, isi_tup, isi_lst, upperW, putW, appW, tupW, lstW, asB_bl, String.reduceBEq, beq_self_eq_true, Bool.or_true, Bool.true_or, Bool.or_false, Bool.false_or, Bool.and_true, Bool.true_and, Bool.and_false, Bool.false_and, Bool.not_true, Bool.not_false, forall_const, true_implies, true_and, and_true, false_implies, reduceCtorEq, List.length_cons, List.length_nil, forall_eq, imp_self, implies_true, if_true, if_false, Bool.false_eq_true, Bool.true_eq_false, neW_nil]
    by_cases we : ws = []
    · subst we
      exact ⟨Nat.zero_le _, fun h => absurd h (by decide), fun _ => els _ fun e h => h⟩
    · have wy : Word (ws.getLast we) := hw _ (List.getLast_mem we)
      simp only [last_strs we, W.bind_wp, W.ret_wp, W.want_wp, W.any_wp, s_ite, s_get0, s_get, s_then, s_end, s_run, s_calm, s_fail, s_start1, s_start2, s_start3, s_start4, s_start5, List.replicate, List.set_cons_zero, List.set_cons_succ, asB_bl, asS_str, Nat.reduceSub, Nat.reduceAdd, addW.eq_1, addW.eq_2, addW.eq_3, addW.eq_4, addW.eq_5, subW.eq_1, subW.eq_2, mulW.eq_1, mulW.eq_2, mulW.eq_3, intOp.eq_1, negW.eq_1, ordW.eq_1, ordW.eq_2, isW.eq_1, isntW.eq_1, ixW.eq_1, ixW.eq_2, ixW.eq_3, slW.eq_1, slW.eq_2, slW.eq_3, revTW.eq_1, revLW.eq_1, lenW.eq_1, lenW.eq_2, lenW.eq_3, tupleW.eq_1, tupleW.eq_2, listW.eq_1, listW.eq_2, min2W.eq_1, max2W.eq_1, strW.eq_1, strW.eq_2, joinW.eq_1, joinW.eq_2, walkLW.eq_1, walkTW.eq_1, walkSW.eq_1, range1W.eq_1, zipW.eq_1, zipW.eq_2, tupG.eq_1, gsW.eq_1, gsW.eq_2, par2.eq_1, extW.eq_1, extW.eq_2, partW.eq_1, optW.eq_1, optW.eq_2, modW, fdivW, powW, ltW, leW, gtW, geW, isNone, isi_non, isi_bl, isi_int, isi_str, isi_tup, isi_lst, upperW, putW, appW, tupW, lstW, asB_bl, String.reduceBEq, beq_self_eq_true, Bool.or_true, Bool.true_or, Bool.or_false, Bool.false_or, Bool.and_true, Bool.true_and, Bool.and_false, Bool.false_and, Bool.not_true, Bool.not_false, forall_const, true_implies, true_and, and_true, false_implies, reduceCtorEq, List.length_cons, List.length_nil, forall_eq, imp_self, implies_true, if_true, if_false, Bool.false_eq_true, Bool.true_eq_false]
      refine ⟨Nat.zero_le _, fun _ => ⟨small (by have := wy.eight; omega), fun h8 => draw_wp (by decide) (by decide) fun r r0 r1 => ?_, fun _ => els _ fun e h => h⟩, fun _ => els _ fun e h => h⟩
      simp only [eqW_int, W.bind_wp, W.ret_wp, W.want_wp, W.any_wp, s_ite, s_get0, s_get, s_then, s_end, s_run, s_calm, s_fail, s_start1, s_start2, s_start3, s_start4, s_start5, List.replicate, List.set_cons_zero, List.set_cons_succ, asB_bl, asS_str, Nat.reduceSub, Nat.reduceAdd, addW.eq_1, addW.eq_2, addW.eq_3, addW.eq_4, addW.eq_5, subW.eq_1, subW.eq_2, mulW.eq_1, mulW.eq_2, mulW.eq_3, intOp.eq_1, negW.eq_1, ordW.eq_1, ordW.eq_2, isW.eq_1, isntW.eq_1, ixW.eq_1, ixW.eq_2, ixW.eq_3, slW.eq_1, slW.eq_2, slW.eq_3, revTW.eq_1, revLW.eq_1, lenW.eq_1, lenW.eq_2, lenW.eq_3, tupleW.eq_1, tupleW.eq_2, listW.eq_1, listW.eq_2, min2W.eq_1, max2W.eq_1, strW.eq_1, strW.eq_2, joinW.eq_1, joinW.eq_2, walkLW.eq_1, walkTW.eq_1, walkSW.eq_1, range1W.eq_1, zipW.eq_1, zipW.eq_2, tupG.eq_1, gsW.eq_1, gsW.eq_2, par2.eq_1, extW.eq_1, extW.eq_2, partW.eq_1, optW.eq_1, optW.eq_2, modW, fdivW, powW, ltW, leW, gtW, geW, isNone, isi_non, isi_bl, isi_int, isi_str, isi_tup, isi_lst, upperW, putW, appW, tupW, lstW, asB_bl, String.reduceBEq, beq_self_eq_true, Bool.or_true, Bool.true_or, Bool.or_false, Bool.false_or, Bool.and_true, Bool.true_and, Bool.and_false, Bool.false_and, Bool.not_true, Bool.not_false, forall_const, true_implies, true_and, and_true, false_implies, reduceCtorEq, List.length_cons, List.length_nil, forall_eq, imp_self, implies_true, if_true, if_false, Bool.false_eq_true, Bool.true_eq_false]
      refine ⟨fun _ => draw_wp (by decide) (by decide) fun r r0 r1 => ?_, fun _ => els _ fun e h => h⟩
      obtain ⟨c, ec, hc⟩ := abc_at r0 r1
      simp only [W.bind_wp, W.ret_wp, W.want_wp, W.any_wp, s_ite, s_get0, s_get, s_then, s_end, s_run, s_calm, s_fail, s_start1, s_start2, s_start3, s_start4, s_start5, List.replicate, List.set_cons_zero, List.set_cons_succ, asB_bl, asS_str, Nat.reduceSub, Nat.reduceAdd, addW.eq_1, addW.eq_2, addW.eq_3, addW.eq_4, addW.eq_5, subW.eq_1, subW.eq_2, mulW.eq_1, mulW.eq_2, mulW.eq_3, intOp.eq_1, negW.eq_1, ordW.eq_1, ordW.eq_2, isW.eq_1, isntW.eq_1, ixW.eq_1, ixW.eq_2, ixW.eq_3, slW.eq_1, slW.eq_2, slW.eq_3, revTW.eq_1, revLW.eq_1, lenW.eq_1, lenW.eq_2, lenW.eq_3, tupleW.eq_1, tupleW.eq_2, listW.eq_1, listW.eq_2, min2W.eq_1, max2W.eq_1, strW.eq_1, strW.eq_2, joinW.eq_1, joinW.eq_2, walkLW.eq_1, walkTW.eq_1, walkSW.eq_1, range1W.eq_1, zipW.eq_1, zipW.eq_2, tupG.eq_1, gsW.eq_1, gsW.eq_2, par2.eq_1, extW.eq_1, extW.eq_2, partW.eq_1, optW.eq_1, optW.eq_2, modW, fdivW, powW, ltW, leW, gtW, geW, isNone, isi_non, isi_bl, isi_int, isi_str, isi_tup, isi_lst, upperW, putW, appW, tupW, lstW, asB_bl, String.reduceBEq, beq_self_eq_true, Bool.or_true, Bool.true_or, Bool.or_false, Bool.false_or, Bool.and_true, Bool.true_and, Bool.and_false, Bool.false_and, Bool.not_true, Bool.not_false, forall_const, true_implies, true_and, and_true, false_implies, reduceCtorEq, List.length_cons, List.length_nil, forall_eq, imp_self, implies_true, if_true, if_false, Bool.false_eq_true, Bool.true_eq_false, ec]
      have h8 : (ws.getLast we).length < 8 := by simp at h8; omega
      refine ⟨abc_len, ?_, ?_, put _ z (some d) y6 y7 (word_snoc wy h8 hc) (nm.more we wy.one)⟩
      · rw [len_one]
        exact small (by omega)
      · rw [List.length_map]
        exact smallT (by omega)
  · rintro env ⟨ws, z, y5, y6, y7, rfl, lw, hw, nm⟩
    simp only [W.bind_wp, W.ret_wp, W.want_wp, W.any_wp, s_ite, s_get0, s_get, s_then, s_end, s_run, s_calm, s_fail, s_start1, s_start2, s_start3, s_start4, s_start5, List.replicate, List.set_cons_zero, List.set_cons_succ, asB_bl, asS_str, Nat.reduceSub, Nat.reduceAdd, addW.eq_1, addW.eq_2, addW.eq_3, addW.eq_4, addW.eq_5, subW.eq_1, subW.eq_2, mulW.eq_1, mulW.eq_2, mulW.eq_3, intOp.eq_1, negW.eq_1, ordW.eq_1, ordW.eq_2, isW.eq_1, isntW.eq_1, ixW.eq_1, ixW.eq_2, ixW.eq_3, slW.eq_1, slW.eq_2, slW.eq_3, revTW.eq_1, revLW.eq_1, lenW.eq_1, lenW.eq_2, lenW.eq_3, tupleW.eq_1, tupleW.eq_2, listW.eq_1, listW.eq_2, min2W.eq_1, max2W.eq_1, strW.eq_1, strW.eq_2, joinW.eq_1, joinW.eq_2, walkLW.eq_1, walkTW.eq_1, walkSW.eq_1, range1W.eq_1, zipW.eq_1, zipW.eq_2, tupG.eq_1, gsW.eq_1, gsW.eq_2, par2.eq_1, extW.eq_1, extW.eq_2, partW.eq_1, optW.eq_1, optW.eq_2, modW, fdivW, powW, ltW, leW, gtW, geW, isNone, isi_non, isi_bl, isi_int, isi_str, isi_tup, isi_lst, upperW, putW, appW, tupW, lstW, asB_bl, String.reduceBEq, beq_self_eq_true, Bool.or_true, Bool.true_or, Bool.or_false, Bool.false_or, Bool.and_true, Bool.true_and, Bool.and_false, Bool.false_and, Bool.not_true, Bool.not_false, forall_const, true_implies, true_and, and_true, false_implies, reduceCtorEq, List.length_cons, List.length_nil, forall_eq, imp_self, implies_true, if_true, if_false, Bool.false_eq_true, Bool.true_eq_false]
    refine q ws ?_ hw nm.nd
    rw [lw]
    simp [rangeD]
    omega
/-! ### texts sorted -/
theorem toPs_strs (l : List Str) : D.toPs (l.map D.str) = l.map PyData.str := by
  rw [toPs_map, List.map_map]
  rfl
theorem cmpb_strs (l : List Str) : Cmpb (D.toPs (l.map D.str)) := by
  rw [toPs_strs]
  refine ⟨fun d hd e he => ?_, .inr fun d hd => ?_, fun d hd => ?_⟩
  · obtain ⟨a, _, rfl⟩ := List.mem_map.mp hd
    obtain ⟨b, _, rfl⟩ := List.mem_map.mp he
    exact str_alike a b
  · obtain ⟨a, _, rfl⟩ := List.mem_map.mp hd
    exact ⟨fun z => (nomatch z), fun _ z => (nomatch z)⟩
  · obtain ⟨a, _, rfl⟩ := List.mem_map.mp hd
    exact Nat.zero_le _
theorem sortD_strs (l : List Str) : sortD (l.map D.str) = (sortS l).map D.str := by
  unfold sortD sortS srt
  exact (merge_map D.str (PySem.W.dataLe false D.toP) l).symm
theorem sorted_strs {l : List Str} (h : l.length ≤ 1000000) : sortedW [.lst (l.map D.str)] = W.ret (.lst ((sortS l).map D.str)) := by
  show W.bind (W.want _) _ = _
  rw [W.want_bind ⟨plains_strs l, cmpb_strs l, by rw [List.length_map]; exact small h⟩, sortD_strs]
theorem sortS_len (l : List Str) : (sortS l).length = l.length := (srt_perm false _ _).length_eq
def wantD' (f : Str) (zs : List Str) (r : Int) : D := .tup [.str f, .tup (zs.map D.str), .int r]
theorem want_wp {fs ss : List Str} {Q : D → Prop} {E : Ex → Prop} (hf : fs ≠ []) (lf : fs.length ≤ 1000) (ls : ss.length ≤ 1000) (q : ∀ f ∈ fs, ∀ (zs : List Str) (r : Int), zs.Sublist (sortS ss) → 1 ≤ r → r ≤ 1000000000 → Q (wantD' f zs r)) :
    (fLWant [.tok 0, .lst (fs.map D.str), .lst (ss.map D.str)]).wp Q E := by
  refine ⟨rfl, ?_⟩
  show (endW (bLWant (startE 6 [.tok 0, .lst (fs.map D.str), .lst (ss.map D.str)]))).wp Q E
  simp only [bLWant, W.bind_wp, W.ret_wp, W.want_wp, W.any_wp, s_ite, s_get0, s_get, s_then, s_end, s_run, s_calm, s_fail, s_start1, s_start2, s_start3, s_start4, s_start5, List.replicate, List.set_cons_zero, List.set_cons_succ, asB_bl, asS_str, Nat.reduceSub, Nat.reduceAdd, addW.eq_1, addW.eq_2, addW.eq_3, addW.eq_4, addW.eq_5, subW.eq_1, subW.eq_2, mulW.eq_1, mulW.eq_2, mulW.eq_3, intOp.eq_1, negW.eq_1, ordW.eq_1, ordW.eq_2, isW.eq_1, isntW.eq_1, ixW.eq_1, ixW.eq_2, ixW.eq_3, slW.eq_1, slW.eq_2, slW.eq_3, revTW.eq_1, revLW.eq_1, lenW.eq_1, lenW.eq_2, lenW.eq_3, tupleW.eq_1, tupleW.eq_2, listW.eq_1, listW.eq_2, min2W.eq_1, max2W.eq_1, strW.eq_1, strW.eq_2, joinW.eq_1, joinW.eq_2, walkLW.eq_1, walkTW.eq_1, walkSW.eq_1, range1W.eq_1, zipW.eq_1, zipW.eq_2, tupG.eq_1, gsW.eq_1, gsW.eq_2, par2.eq_1, extW.eq_1, extW.eq_2, partW.eq_1, optW.eq_1, optW.eq_2, modW, fdivW, powW, ltW, leW, gtW, geW, isNone, isi_non, isi_bl, isi_int, isi_str, isi_tup, isi_lst, upperW, putW, appW, tupW, lstW, asB_bl, String.reduceBEq, beq_self_eq_true, Bool.or_true, Bool.true_or, Bool.or_false, Bool.false_or, Bool.and_true, Bool.true_and, Bool.and_false, Bool.false_and, Bool.not_true, Bool.not_false, forall_const, true_implies, true_and, and_true, false_implies, reduceCtorEq, List.length_cons, List.length_nil, forall_eq, imp_self, implies_true, if_true, if_false, Bool.false_eq_true, Bool.true_eq_false]
  have l0 : 0 < fs.length := List.length_pos_iff.mpr hf
  refine draw_wp (by rw [List.length_map]; omega) (by rw [List.length_map]; omega) fun r r0 r1 => ?_
  rw [List.length_map] at r1
  obtain ⟨k, rfl⟩ := Int.eq_ofNat_of_zero_le r0
  have hk : k < fs.length := by omega
  have ek : atI (fs.map D.str) (k : Int) = some (.str fs[k]) := atI_nat (by rw [List.getElem?_map, List.getElem?_eq_getElem hk]; rfl)
  simp only [W.bind_wp, W.ret_wp, W.want_wp, W.any_wp, s_ite, s_get0, s_get, s_then, s_end, s_run, s_calm, s_fail, s_start1, s_start2, s_start3, s_start4, s_start5, List.replicate, List.set_cons_zero, List.set_cons_succ, asB_bl, asS_str, Nat.reduceSub, Nat.reduceAdd, addW.eq_1, addW.eq_2, addW.eq_3, addW.eq_4, addW.eq_5, subW.eq_1, subW.eq_2, mulW.eq_1, mulW.eq_2, mulW.eq_3, intOp.eq_1, negW.eq_1, ordW.eq_1, ordW.eq_2, isW.eq_1, isntW.eq_1, ixW.eq_1, ixW.eq_2, ixW.eq_3, slW.eq_1, slW.eq_2, slW.eq_3, revTW.eq_1, revLW.eq_1, lenW.eq_1, lenW.eq_2, lenW.eq_3, tupleW.eq_1, tupleW.eq_2, listW.eq_1, listW.eq_2, min2W.eq_1, max2W.eq_1, strW.eq_1, strW.eq_2, joinW.eq_1, joinW.eq_2, walkLW.eq_1, walkTW.eq_1, walkSW.eq_1, range1W.eq_1, zipW.eq_1, zipW.eq_2, tupG.eq_1, gsW.eq_1, gsW.eq_2, par2.eq_1, extW.eq_1, extW.eq_2, partW.eq_1, optW.eq_1, optW.eq_2, modW, fdivW, powW, ltW, leW, gtW, geW, isNone, isi_non, isi_bl, isi_int, isi_str, isi_tup, isi_lst, upperW, putW, appW, tupW, lstW, asB_bl, String.reduceBEq, beq_self_eq_true, Bool.or_true, Bool.true_or, Bool.or_false, Bool.false_or, Bool.and_true, Bool.true_and, Bool.and_false, Bool.false_and, Bool.not_true, Bool.not_false, forall_const, true_implies, true_and, and_true, false_implies, reduceCtorEq, List.length_cons, List.length_nil, forall_eq, imp_self, implies_true, if_true, if_false, Bool.false_eq_true, Bool.true_eq_false, ek]
  refine lcD_go ?_
  simp only [W.bind_wp, W.ret_wp, W.want_wp, W.any_wp, s_ite, s_get0, s_get, s_then, s_end, s_run, s_calm, s_fail, s_start1, s_start2, s_start3, s_start4, s_start5, List.replicate, List.set_cons_zero, List.set_cons_succ, asB_bl, asS_str, Nat.reduceSub, Nat.reduceAdd, addW.eq_1, addW.eq_2, addW.eq_3, addW.eq_4, addW.eq_5, subW.eq_1, subW.eq_2, mulW.eq_1, mulW.eq_2, mulW.eq_3, intOp.eq_1, negW.eq_1, ordW.eq_1, ordW.eq_2, isW.eq_1, isntW.eq_1, ixW.eq_1, ixW.eq_2, ixW.eq_3, slW.eq_1, slW.eq_2, slW.eq_3, revTW.eq_1, revLW.eq_1, lenW.eq_1, lenW.eq_2, lenW.eq_3, tupleW.eq_1, tupleW.eq_2, listW.eq_1, listW.eq_2, min2W.eq_1, max2W.eq_1, strW.eq_1, strW.eq_2, joinW.eq_1, joinW.eq_2, walkLW.eq_1, walkTW.eq_1, walkSW.eq_1, range1W.eq_1, zipW.eq_1, zipW.eq_2, tupG.eq_1, gsW.eq_1, gsW.eq_2, par2.eq_1, extW.eq_1, extW.eq_2, partW.eq_1, optW.eq_1, optW.eq_2, modW, fdivW, powW, ltW, leW, gtW, geW, isNone, isi_non, isi_bl, isi_int, isi_str, isi_tup, isi_lst, upperW, putW, appW, tupW, lstW, asB_bl, String.reduceBEq, beq_self_eq_true, Bool.or_true, Bool.true_or, Bool.or_false, Bool.false_or, Bool.and_true, Bool.true_and, Bool.and_false, Bool.false_and, Bool.not_true, Bool.not_false, forall_const, true_implies, true_and, and_true, false_implies, reduceCtorEq, List.length_cons, List.length_nil, forall_eq, imp_self, implies_true, if_true, if_false, Bool.false_eq_true, Bool.true_eq_false, sorted_strs (show ss.length ≤ 1000000 by omega)]
  refine lcW_goT (fun i acc => ∃ zs : List Str, acc = zs.map D.str ∧ zs.Sublist ((sortS ss).take i)) ⟨[], rfl, List.nil_sublist _⟩ ?_ ?_
  · rintro i d acc hd ⟨zs, rfl, hz⟩
    rw [List.getElem?_map] at hd
    obtain ⟨y, hy, rfl⟩ := Option.map_eq_some_iff.mp hd
    have lz := hz.length_le
    rw [List.length_take, sortS_len] at lz
    simp only [wipeE, W.bind_wp, W.ret_wp, W.want_wp, W.any_wp, s_ite, s_get0, s_get, s_then, s_end, s_run, s_calm, s_fail, s_start1, s_start2, s_start3, s_start4, s_start5, List.replicate, List.set_cons_zero, List.set_cons_succ, asB_bl, asS_str, Nat.reduceSub, Nat.reduceAdd, addW.eq_1, addW.eq_2, addW.eq_3, addW.eq_4, addW.eq_5, subW.eq_1, subW.eq_2, mulW.eq_1, mulW.eq_2, mulW.eq_3, intOp.eq_1, negW.eq_1, ordW.eq_1, ordW.eq_2, isW.eq_1, isntW.eq_1, ixW.eq_1, ixW.eq_2, ixW.eq_3, slW.eq_1, slW.eq_2, slW.eq_3, revTW.eq_1, revLW.eq_1, lenW.eq_1, lenW.eq_2, lenW.eq_3, tupleW.eq_1, tupleW.eq_2, listW.eq_1, listW.eq_2, min2W.eq_1, max2W.eq_1, strW.eq_1, strW.eq_2, joinW.eq_1, joinW.eq_2, walkLW.eq_1, walkTW.eq_1, walkSW.eq_1, range1W.eq_1, zipW.eq_1, zipW.eq_2, tupG.eq_1, gsW.eq_1, gsW.eq_2, par2.eq_1, extW.eq_1, extW.eq_2, partW.eq_1, optW.eq_1, optW.eq_2, modW, fdivW, powW, ltW, leW, gtW, geW, isNone, isi_non, isi_bl, isi_int, isi_str, isi_tup, isi_lst, upperW, putW, appW, tupW, lstW, asB_bl, String.reduceBEq, beq_self_eq_true, Bool.or_true, Bool.true_or, Bool.or_false, Bool.false_or, Bool.and_true, Bool.true_and, Bool.and_false, Bool.false_and, Bool.not_true, Bool.not_false, forall_const, true_implies, true_and, and_true, false_implies, reduceCtorEq, List.length_cons, List.length_nil, forall_eq, imp_self, implies_true, if_true, if_false, Bool.false_eq_true, Bool.true_eq_false]
    refine draw_wp (by decide) (by decide) fun r r0 r1 => ?_
    simp only [eqW_int, W.bind_wp, W.ret_wp, W.want_wp, W.any_wp, s_ite, s_get0, s_get, s_then, s_end, s_run, s_calm, s_fail, s_start1, s_start2, s_start3, s_start4, s_start5, List.replicate, List.set_cons_zero, List.set_cons_succ, asB_bl, asS_str, Nat.reduceSub, Nat.reduceAdd, addW.eq_1, addW.eq_2, addW.eq_3, addW.eq_4, addW.eq_5, subW.eq_1, subW.eq_2, mulW.eq_1, mulW.eq_2, mulW.eq_3, intOp.eq_1, negW.eq_1, ordW.eq_1, ordW.eq_2, isW.eq_1, isntW.eq_1, ixW.eq_1, ixW.eq_2, ixW.eq_3, slW.eq_1, slW.eq_2, slW.eq_3, revTW.eq_1, revLW.eq_1, lenW.eq_1, lenW.eq_2, lenW.eq_3, tupleW.eq_1, tupleW.eq_2, listW.eq_1, listW.eq_2, min2W.eq_1, max2W.eq_1, strW.eq_1, strW.eq_2, joinW.eq_1, joinW.eq_2, walkLW.eq_1, walkTW.eq_1, walkSW.eq_1, range1W.eq_1, zipW.eq_1, zipW.eq_2, tupG.eq_1, gsW.eq_1, gsW.eq_2, par2.eq_1, extW.eq_1, extW.eq_2, partW.eq_1, optW.eq_1, optW.eq_2, modW, fdivW, powW, ltW, leW, gtW, geW, isNone, isi_non, isi_bl, isi_int, isi_str, isi_tup, isi_lst, upperW, putW, appW, tupW, lstW, asB_bl, String.reduceBEq, beq_self_eq_true, Bool.or_true, Bool.true_or, Bool.or_false, Bool.false_or, Bool.and_true, Bool.true_and, Bool.and_false, Bool.false_and, Bool.not_true, Bool.not_false, forall_const, true_implies, true_and, and_true, false_implies, reduceCtorEq, List.length_cons, List.length_nil, forall_eq, imp_self, implies_true, if_true, if_false, Bool.false_eq_true, Bool.true_eq_false]
    refine ⟨fun _ => ⟨?_, zs ++ [y], by rw [List.map_append]; rfl, ?_⟩, fun _ => ⟨zs, rfl, ?_⟩⟩
    · rw [List.length_map]
      exact smallT (by omega)
    · rw [take_snoc hy]
      exact List.Sublist.append hz (List.Sublist.refl _)
    · rw [take_snoc hy]
      exact hz.trans (List.sublist_append_left _ _)
  · rintro acc ⟨zs, rfl, hz⟩
    rw [List.length_map, List.take_length] at hz
    refine many_wp fun r r0 r1 => ?_
    exact ⟨small (by decide), q _ (List.getElem_mem hk) zs r hz r0 r1⟩
end LP
namespace LP
open PySem PySem.Spec PyProof.Rows L2 PK LP RZ
theorem rangeAt {lo : Int} {n i : Nat} {d : D} (h : (rangeD lo n)[i]? = some d) : i < n ∧ d = .int (lo + (i : Int)) := by
  unfold rangeD at h
  rw [List.getElem?_map] at h
  obtain ⟨j, hj, rfl⟩ := Option.map_eq_some_iff.mp h
  obtain ⟨h1, h2⟩ := List.getElem?_eq_some_iff.mp hj
  rw [List.length_range] at h1
  rw [List.getElem_range] at h2
  subst h2
  exact ⟨h1, rfl⟩
theorem rangeLen (lo : Int) (n : Nat) : (rangeD lo n).length = n := by simp [rangeD]
/-! ### the drawn rows -/
theorem at_draw {fs : List Str} {Q : D → Prop} {E : Ex → Prop} (hf : fs ≠ []) (lf : fs.length ≤ 1000) (q : ∀ (r : Int) (y : Str), y ∈ fs → atI (fs.map D.str) r = some (.str y) → Q (.int r)) : (drawW [.tok 0, .int ((fs.map D.str).length : Int)]).wp Q E := by
  have l0 : 0 < fs.length := List.length_pos_iff.mpr hf
  refine draw_wp (by rw [List.length_map]; omega) (by rw [List.length_map]; omega) fun r r0 r1 => ?_
  rw [List.length_map] at r1
  obtain ⟨k, rfl⟩ := Int.eq_ofNat_of_zero_le r0
  have hk : k < fs.length := by omega
  exact q _ fs[k] (List.getElem_mem hk) (atI_nat (by rw [List.getElem?_map, List.getElem?_eq_getElem hk]; rfl))
structure LR (fs ss : List Str) (n : Nat) (L : List PRow) : Prop where
  len : L.length ≤ n
  each : ∀ r ∈ L, r.1 ∈ fs ∧ r.2.1 ∈ ss ∧ 1 ≤ r.2.2 ∧ r.2.2 ≤ 1000000000
theorem lrows_wp {fs ss : List Str} {m : Nat} {Q : D → Prop} {E : Ex → Prop} (hf : fs ≠ []) (lf : fs.length ≤ 1000) (hs : ss ≠ []) (ls : ss.length ≤ 1000) (hm : m ≤ 1000) (q : ∀ L, LR fs ss m L → Q (rowsT L)) :
    (fLRows [.tok 0, .lst (fs.map D.str), .lst (ss.map D.str), .int (m : Int)]).wp Q E := by
  refine ⟨rfl, ?_⟩
  show (endW (bLRows (startE 8 [.tok 0, .lst (fs.map D.str), .lst (ss.map D.str), .int (m : Int)]))).wp Q E
  simp only [bLRows, W.bind_wp, W.ret_wp, W.want_wp, W.any_wp, s_ite, s_get0, s_get, s_then, s_end, s_run, s_calm, s_fail, s_start1, s_start2, s_start3, s_start4, s_start5, List.replicate, List.set_cons_zero, List.set_cons_succ, asB_bl, asS_str, Nat.reduceSub, Nat.reduceAdd, addW.eq_1, addW.eq_2, addW.eq_3, addW.eq_4, addW.eq_5, subW.eq_1, subW.eq_2, mulW.eq_1, mulW.eq_2, mulW.eq_3, intOp.eq_1, negW.eq_1, ordW.eq_1, ordW.eq_2, isW.eq_1, isntW.eq_1, ixW.eq_1, ixW.eq_2, ixW.eq_3, slW.eq_1, slW.eq_2, slW.eq_3, revTW.eq_1, revLW.eq_1, lenW.eq_1, lenW.eq_2, lenW.eq_3, tupleW.eq_1, tupleW.eq_2, listW.eq_1, listW.eq_2, min2W.eq_1, max2W.eq_1, strW.eq_1, strW.eq_2, joinW.eq_1, joinW.eq_2, walkLW.eq_1, walkTW.eq_1, walkSW.eq_1, range1W.eq_1, zipW.eq_1, zipW.eq_2, tupG.eq_1, gsW.eq_1, gsW.eq_2, par2.eq_1, extW.eq_1, extW.eq_2, partW.eq_1, optW.eq_1, optW.eq_2, modW, fdivW, powW, ltW, leW, gtW, geW, isNone, isi_non, isi_bl, isi_int, isi_str, isi_tup, isi_lst, upperW, putW, appW, tupW, lstW, asB_bl, String.reduceBEq, beq_self_eq_true, Bool.or_true, Bool.true_or, Bool.or_false, Bool.false_or, Bool.and_true, Bool.true_and, Bool.and_false, Bool.false_and, Bool.not_true, Bool.not_false, forall_const, true_implies, true_and, and_true, false_implies, reduceCtorEq, List.length_cons, List.length_nil, forall_eq, imp_self, implies_true, if_true, if_false, Bool.false_eq_true, Bool.true_eq_false]
  refine ⟨small (by decide), by decide, draw_wp (by omega) (by omega) fun a a0 a1 => ⟨⟨by omega, by omega⟩, ?_⟩⟩
  refine forW_wp0 (fun i env => ∃ (L : List PRow) (y5 y6 y7 : Option D), env = [some (.tok 0), some (.lst (fs.map D.str)), some (.lst (ss.map D.str)), some (.int (m : Int)), some (.lst (L.map rowT)), y5, y6, y7] ∧ LR fs ss i L) ⟨[], none, none, none, rfl, Nat.le_refl _, fun _ h => (nomatch h)⟩ ?_ ?_
  · rintro i d env hd ⟨L, y5, y6, y7, rfl, hL⟩
    obtain ⟨hi, rfl⟩ := rangeAt hd
    simp only [bLRows_1, W.bind_wp, W.ret_wp, W.want_wp, W.any_wp, s_ite, s_get0, s_get, s_then, s_end, s_run, s_calm, s_fail, s_start1, s_start2, s_start3, s_start4, s_start5, List.replicate, List.set_cons_zero, List.set_cons_succ, asB_bl, asS_str, Nat.reduceSub, Nat.reduceAdd, addW.eq_1, addW.eq_2, addW.eq_3, addW.eq_4, addW.eq_5, subW.eq_1, subW.eq_2, mulW.eq_1, mulW.eq_2, mulW.eq_3, intOp.eq_1, negW.eq_1, ordW.eq_1, ordW.eq_2, isW.eq_1, isntW.eq_1, ixW.eq_1, ixW.eq_2, ixW.eq_3, slW.eq_1, slW.eq_2, slW.eq_3, revTW.eq_1, revLW.eq_1, lenW.eq_1, lenW.eq_2, lenW.eq_3, tupleW.eq_1, tupleW.eq_2, listW.eq_1, listW.eq_2, min2W.eq_1, max2W.eq_1, strW.eq_1, strW.eq_2, joinW.eq_1, joinW.eq_2, walkLW.eq_1, walkTW.eq_1, walkSW.eq_1, range1W.eq_1, zipW.eq_1, zipW.eq_2, tupG.eq_1, gsW.eq_1, gsW.eq_2, par2.eq_1, extW.eq_1, extW.eq_2, partW.eq_1, optW.eq_1, optW.eq_2, modW, fdivW, powW, ltW, leW, gtW, geW, isNone, isi_non, isi_bl, isi_int, isi_str, isi_tup, isi_lst, upperW, putW, appW, tupW, lstW, asB_bl, String.reduceBEq, beq_self_eq_true, Bool.or_true, Bool.true_or, Bool.or_false, Bool.false_or, Bool.and_true, Bool.true_and, Bool.and_false, Bool.false_and, Bool.not_true, Bool.not_false, forall_const, true_implies, true_and, and_true, false_implies, reduceCtorEq, List.length_cons, List.length_nil, forall_eq, imp_self, implies_true, if_true, if_false, Bool.false_eq_true, Bool.true_eq_false]
    refine at_draw hf lf fun r y hy ey => ?_
    simp only [ey, W.bind_wp, W.ret_wp, W.want_wp, W.any_wp, s_ite, s_get0, s_get, s_then, s_end, s_run, s_calm, s_fail, s_start1, s_start2, s_start3, s_start4, s_start5, List.replicate, List.set_cons_zero, List.set_cons_succ, asB_bl, asS_str, Nat.reduceSub, Nat.reduceAdd, addW.eq_1, addW.eq_2, addW.eq_3, addW.eq_4, addW.eq_5, subW.eq_1, subW.eq_2, mulW.eq_1, mulW.eq_2, mulW.eq_3, intOp.eq_1, negW.eq_1, ordW.eq_1, ordW.eq_2, isW.eq_1, isntW.eq_1, ixW.eq_1, ixW.eq_2, ixW.eq_3, slW.eq_1, slW.eq_2, slW.eq_3, revTW.eq_1, revLW.eq_1, lenW.eq_1, lenW.eq_2, lenW.eq_3, tupleW.eq_1, tupleW.eq_2, listW.eq_1, listW.eq_2, min2W.eq_1, max2W.eq_1, strW.eq_1, strW.eq_2, joinW.eq_1, joinW.eq_2, walkLW.eq_1, walkTW.eq_1, walkSW.eq_1, range1W.eq_1, zipW.eq_1, zipW.eq_2, tupG.eq_1, gsW.eq_1, gsW.eq_2, par2.eq_1, extW.eq_1, extW.eq_2, partW.eq_1, optW.eq_1, optW.eq_2, modW, fdivW, powW, ltW, leW, gtW, geW, isNone, isi_non, isi_bl, isi_int, isi_str, isi_tup, isi_lst, upperW, putW, appW, tupW, lstW, asB_bl, String.reduceBEq, beq_self_eq_true, Bool.or_true, Bool.true_or, Bool.or_false, Bool.false_or, Bool.and_true, Bool.true_and, Bool.and_false, Bool.false_and, Bool.not_true, Bool.not_false, forall_const, true_implies, true_and, and_true, false_implies, reduceCtorEq, List.length_cons, List.length_nil, forall_eq, imp_self, implies_true, if_true, if_false, Bool.false_eq_true, Bool.true_eq_false]
    refine at_draw hs ls fun r2 y2 hy2 ey2 => ?_
    simp only [ey2, W.bind_wp, W.ret_wp, W.want_wp, W.any_wp, s_ite, s_get0, s_get, s_then, s_end, s_run, s_calm, s_fail, s_start1, s_start2, s_start3, s_start4, s_start5, List.replicate, List.set_cons_zero, List.set_cons_succ, asB_bl, asS_str, Nat.reduceSub, Nat.reduceAdd, addW.eq_1, addW.eq_2, addW.eq_3, addW.eq_4, addW.eq_5, subW.eq_1, subW.eq_2, mulW.eq_1, mulW.eq_2, mulW.eq_3, intOp.eq_1, negW.eq_1, ordW.eq_1, ordW.eq_2, isW.eq_1, isntW.eq_1, ixW.eq_1, ixW.eq_2, ixW.eq_3, slW.eq_1, slW.eq_2, slW.eq_3, revTW.eq_1, revLW.eq_1, lenW.eq_1, lenW.eq_2, lenW.eq_3, tupleW.eq_1, tupleW.eq_2, listW.eq_1, listW.eq_2, min2W.eq_1, max2W.eq_1, strW.eq_1, strW.eq_2, joinW.eq_1, joinW.eq_2, walkLW.eq_1, walkTW.eq_1, walkSW.eq_1, range1W.eq_1, zipW.eq_1, zipW.eq_2, tupG.eq_1, gsW.eq_1, gsW.eq_2, par2.eq_1, extW.eq_1, extW.eq_2, partW.eq_1, optW.eq_1, optW.eq_2, modW, fdivW, powW, ltW, leW, gtW, geW, isNone, isi_non, isi_bl, isi_int, isi_str, isi_tup, isi_lst, upperW, putW, appW, tupW, lstW, asB_bl, String.reduceBEq, beq_self_eq_true, Bool.or_true, Bool.true_or, Bool.or_false, Bool.false_or, Bool.and_true, Bool.true_and, Bool.and_false, Bool.false_and, Bool.not_true, Bool.not_false, forall_const, true_implies, true_and, and_true, false_implies, reduceCtorEq, List.length_cons, List.length_nil, forall_eq, imp_self, implies_true, if_true, if_false, Bool.false_eq_true, Bool.true_eq_false]
    refine many_wp fun n n1 n2 => ?_
    refine ⟨small (by decide), ?_, L ++ [(y, y2, n)], _, _, _, by rw [List.map_append]; rfl, ?_, fun r hr => ?_⟩
    · have := hL.len
      rw [List.length_map]
      exact smallT (by omega)
    · have := hL.len
      rw [List.length_append, List.length_singleton]
      omega
    · rcases List.mem_append.mp hr with h | h
      · exact hL.each r h
      · rw [List.mem_singleton.mp h]
        exact ⟨hy, hy2, n1, n2⟩
  · rintro env ⟨L, y5, y6, y7, rfl, hL⟩
    rw [rangeLen] at hL
    simp only [W.bind_wp, W.ret_wp, W.want_wp, W.any_wp, s_ite, s_get0, s_get, s_then, s_end, s_run, s_calm, s_fail, s_start1, s_start2, s_start3, s_start4, s_start5, List.replicate, List.set_cons_zero, List.set_cons_succ, asB_bl, asS_str, Nat.reduceSub, Nat.reduceAdd, addW.eq_1, addW.eq_2, addW.eq_3, addW.eq_4, addW.eq_5, subW.eq_1, subW.eq_2, mulW.eq_1, mulW.eq_2, mulW.eq_3, intOp.eq_1, negW.eq_1, ordW.eq_1, ordW.eq_2, isW.eq_1, isntW.eq_1, ixW.eq_1, ixW.eq_2, ixW.eq_3, slW.eq_1, slW.eq_2, slW.eq_3, revTW.eq_1, revLW.eq_1, lenW.eq_1, lenW.eq_2, lenW.eq_3, tupleW.eq_1, tupleW.eq_2, listW.eq_1, listW.eq_2, min2W.eq_1, max2W.eq_1, strW.eq_1, strW.eq_2, joinW.eq_1, joinW.eq_2, walkLW.eq_1, walkTW.eq_1, walkSW.eq_1, range1W.eq_1, zipW.eq_1, zipW.eq_2, tupG.eq_1, gsW.eq_1, gsW.eq_2, par2.eq_1, extW.eq_1, extW.eq_2, partW.eq_1, optW.eq_1, optW.eq_2, modW, fdivW, powW, ltW, leW, gtW, geW, isNone, isi_non, isi_bl, isi_int, isi_str, isi_tup, isi_lst, upperW, putW, appW, tupW, lstW, asB_bl, String.reduceBEq, beq_self_eq_true, Bool.or_true, Bool.true_or, Bool.or_false, Bool.false_or, Bool.and_true, Bool.true_and, Bool.and_false, Bool.false_and, Bool.not_true, Bool.not_false, forall_const, true_implies, true_and, and_true, false_implies, reduceCtorEq, List.length_cons, List.length_nil, forall_eq, imp_self, implies_true, if_true, if_false, Bool.false_eq_true, Bool.true_eq_false]
    exact q L ⟨by have := hL.len; omega, hL.each⟩
end LP
namespace LP
open PySem PySem.Spec PyProof.Rows L2 PK LP RZ
theorem whileN_wp {t : Env → W Bool} {p : Env → W Fl} {Q : Fl → Prop} {E : Ex → Prop} (P : Nat → Env → Prop)
    (hs : ∀ m env, P m env → (t env).wp (fun b => (b = true → (p env).wp (fun f => match f with | .nx e => ∃ j, j < m ∧ P j e | .ct e => ∃ j, j < m ∧ P j e | .bk e => Q (.nx e) | .rt d => Q (.rt d)) E) ∧ (b = false → Q (.nx env))) E) :
    ∀ k m env, m < k → P m env → (whileN t p k env).wp Q E
  | 0, m, env, h, _ => absurd h (Nat.not_lt_zero _)
  | k + 1, m, env, h, hp => by
    refine (t env).mono (fun b hb => ?_) (fun _ z => z) (hs m env hp)
    cases b with
    | false => exact hb.2 rfl
    | true =>
      refine (p env).mono (fun f hf => ?_) (fun _ z => z) (hb.1 rfl)
      cases f with
      | nx e =>
        obtain ⟨j, hj, hq⟩ := hf
        exact whileN_wp P hs k j e (by omega) hq
      | ct e =>
        obtain ⟨j, hj, hq⟩ := hf
        exact whileN_wp P hs k j e (by omega) hq
      | bk e => exact hf
      | rt d => exact hf
theorem while_wp {t : Env → W Bool} {p : Env → W Fl} {Q : Fl → Prop} {E : Ex → Prop} {env : Env} (P : Nat → Env → Prop) (m : Nat) (h0 : P m env)
    (hs : ∀ m env, P m env → (t env).wp (fun b => (b = true → (p env).wp (fun f => match f with | .nx e => ∃ j, j < m ∧ P j e | .ct e => ∃ j, j < m ∧ P j e | .bk e => Q (.nx e) | .rt d => Q (.rt d)) E) ∧ (b = false → Q (.nx env))) E) : (whileW t p env).wp Q E :=
  ⟨m + 1, whileN_wp P hs (m + 1) m env (Nat.lt_succ_self _) h0⟩
/-! ### keys -/
def keyT (k : PKey) : D := .tup [.str k.1, .str k.2]
theorem cut2 (a b c : D) : cutD [a, b, c] none (some 2) = [a, b] := rfl
theorem key_toP (k : PKey) : (keyT k).toP = pkD k := rfl
theorem keys_toPs (ks : List PKey) : D.toPs (ks.map keyT) = ks.map pkD := by
  rw [toPs_map, List.map_map]
  rfl
theorem keys_plain (ks : List PKey) : D.plains (ks.map keyT) = true := by
  rw [plains_all, List.all_eq_true]
  intro d hd
  obtain ⟨k, _, rfl⟩ := List.mem_map.mp hd
  rfl
theorem key_sh (k : PKey) : D.sh (keyT k) := ⟨rfl, by rw [key_toP]; show 1 ≤ 64; decide⟩
theorem keys_dep (ks : List PKey) : PyData.depthAll (ks.map pkD) ≤ 1 := depthAll_le fun d hd => by
  obtain ⟨k, _, rfl⟩ := List.mem_map.mp hd
  exact Nat.le_refl 1
theorem keys_sh (ks : List PKey) : D.sh (.lst (ks.map keyT)) := ⟨keys_plain ks, by
  show PyData.depthAll (D.toPs (ks.map keyT)) + 1 ≤ 64
  rw [keys_toPs]
  have := keys_dep ks
  omega⟩
theorem nil_shL : D.sh (.lst []) := ⟨rfl, by show 0 + 1 ≤ 64; decide⟩
theorem key_eqv (a b : PKey) : D.eqv (keyT a) (keyT b) = decide (a = b) := pk_eqv a b
theorem eqW_key (a b : PKey) : eqW (keyT a) (keyT b) = W.ret (.bl (decide (a = b))) := by rw [eqW_sh (key_sh a) (key_sh b), key_eqv]
theorem neW_key (a b : PKey) : neW (keyT a) (keyT b) = W.ret (.bl (!decide (a = b))) := by rw [neW_sh (key_sh a) (key_sh b), key_eqv]
theorem eqW_key' (a b c d : Str) : eqW (.tup [.str a, .str b]) (.tup [.str c, .str d]) = W.ret (.bl (decide ((a, b) = (c, d)))) := eqW_key (a, b) (c, d)
theorem neW_keysNil (ks : List PKey) : neW (.lst (ks.map keyT)) (.lst []) = W.ret (.bl (!ks.isEmpty)) := by
  rw [neW_sh (keys_sh ks) nil_shL]
  cases ks with
  | nil => rfl
  | cons k ks => rfl
theorem rowsT_depth (L : List PRow) : (rowsT L).toP.depth ≤ 2 := by
  rw [rowsT_toP]
  show PyData.depthAll (L.map prowD) + 1 ≤ 2
  have : PyData.depthAll (L.map prowD) ≤ 1 := depthAll_le fun d hd => by
    obtain ⟨r, _, rfl⟩ := List.mem_map.mp hd
    exact Nat.le_refl 1
  omega
theorem rowsT_sh (L : List PRow) : D.sh (rowsT L) := ⟨rowsT_plain L, Nat.le_trans (rowsT_depth L) (by decide)⟩
theorem rowsT_eqv (L M : List PRow) : D.eqv (rowsT L) (rowsT M) = decide (L = M) := by
  unfold D.eqv
  rw [rowsT_toP, rowsT_toP, rows_eqv]
theorem eqW_rows (L M : List PRow) : eqW (rowsT L) (rowsT M) = W.ret (.bl (decide (L = M))) := by rw [eqW_sh (rowsT_sh L) (rowsT_sh M), rowsT_eqv]
/-- the many of rows of a key -/
def rowIx : D → D
  | .tup [_, _, d] => d
  | d => d
def keyIs (k : PKey) : D → Bool
  | .tup [.str f, .str s, _] => decide ((f, s) = k)
  | _ => false
theorem sum_ofPart (L : List PRow) (k : PKey) : ((L.map rowT).filter (keyIs k)).map rowIx = (ofPart L k).map D.int := by
  unfold ofPart
  induction L with
  | nil => rfl
  | cons r L ih =>
    rw [List.map_cons]
    by_cases e : pk r = k
    · rw [List.filter_cons_of_pos (show keyIs k (rowT r) = true from decide_eq_true e), List.filter_cons_of_pos (by simpa using e), List.map_cons, ih]
      rfl
    · rw [List.filter_cons_of_neg (show ¬ keyIs k (rowT r) = true from fun z => e (of_decide_eq_true z)), List.filter_cons_of_neg (by simpa using e), ih]
theorem sumW_part (L : List PRow) (k : PKey) : sumW [.lst ((ofPart L k).map D.int)] = W.ret (.int (cnt L k)) := by
  show (optW (isOf ((ofPart L k).map D.int))).bind _ = _
  rw [isOf_map, optW_some, W.ret_bind, ofPart_sum]
theorem summed_ret (L : List PRow) (hn : L.length ≤ 10000) : Ret (fSummed [rowsT L]) (rowsT (sumR L)) := by
  intro Q E q
  refine ⟨rfl, ?_⟩
  show (endW (bSummed (startE 6 [rowsT L]))).wp Q E
  have hl : (L.map rowT).length ≤ sizeLine := by rw [List.length_map]; exact small (by omega)
  have sums : ∀ (k : PKey) (y1 y2 y3 y5 : Option D), Ret (lcD (fun d env => W.ret (env.set 3 (some d))) (fun env => ((((getW env 3).bind fun d => (W.ret none).bind fun l => ((W.ret (.int 2)).bind partW).bind fun u => slW d l u).bind fun x => (getW env 4).bind fun y => eqW x y).bind asB)) (fun env => ((getW env 3).bind fun x => (W.ret (.int 2)).bind fun y => ixW x y)) [3] (fun env => ((getW env 0).bind walkTW)) [some (rowsT L), y1, y2, y3, some (keyT k), y5]) (.lst ((ofPart L k).map D.int)) := fun k y1 y2 y3 y5 => by
    rw [← sum_ofPart]
    refine lc_ret (keyIs k) rowIx (fun Q E q => q) hl fun d hd => ?_
    obtain ⟨r, hr, rfl⟩ := List.mem_map.mp hd
    simp only [wipeE, rowT, cut2, keyT, eqW_key', W.bind_wp, W.ret_wp, W.want_wp, W.any_wp, s_ite, s_get0, s_get, s_then, s_end, s_run, s_calm, s_fail, s_start1, s_start2, s_start3, s_start4, s_start5, List.replicate, List.set_cons_zero, List.set_cons_succ, asB_bl, asS_str, Nat.reduceSub, Nat.reduceAdd, addW.eq_1, addW.eq_2, addW.eq_3, addW.eq_4, addW.eq_5, subW.eq_1, subW.eq_2, mulW.eq_1, mulW.eq_2, mulW.eq_3, intOp.eq_1, negW.eq_1, ordW.eq_1, ordW.eq_2, isW.eq_1, isntW.eq_1, ixW.eq_1, ixW.eq_2, ixW.eq_3, slW.eq_1, slW.eq_2, slW.eq_3, revTW.eq_1, revLW.eq_1, lenW.eq_1, lenW.eq_2, lenW.eq_3, tupleW.eq_1, tupleW.eq_2, listW.eq_1, listW.eq_2, min2W.eq_1, max2W.eq_1, strW.eq_1, strW.eq_2, joinW.eq_1, joinW.eq_2, walkLW.eq_1, walkTW.eq_1, walkSW.eq_1, range1W.eq_1, zipW.eq_1, zipW.eq_2, tupG.eq_1, gsW.eq_1, gsW.eq_2, par2.eq_1, extW.eq_1, extW.eq_2, partW.eq_1, optW.eq_1, optW.eq_2, modW, fdivW, powW, ltW, leW, gtW, geW, isNone, isi_non, isi_bl, isi_int, isi_str, isi_tup, isi_lst, upperW, putW, appW, tupW, lstW, asB_bl, String.reduceBEq, beq_self_eq_true, Bool.or_true, Bool.true_or, Bool.or_false, Bool.false_or, Bool.and_true, Bool.true_and, Bool.and_false, Bool.false_and, Bool.not_true, Bool.not_false, forall_const, true_implies, true_and, and_true, false_implies, reduceCtorEq, List.length_cons, List.length_nil, forall_eq, imp_self, implies_true, if_true, if_false, Bool.false_eq_true, Bool.true_eq_false]
    exact ⟨rfl, fun _ => rfl⟩
  simp only [bSummed, W.bind_wp, W.ret_wp, W.want_wp, W.any_wp, s_ite, s_get0, s_get, s_then, s_end, s_run, s_calm, s_fail, s_start1, s_start2, s_start3, s_start4, s_start5, List.replicate, List.set_cons_zero, List.set_cons_succ, asB_bl, asS_str, Nat.reduceSub, Nat.reduceAdd, addW.eq_1, addW.eq_2, addW.eq_3, addW.eq_4, addW.eq_5, subW.eq_1, subW.eq_2, mulW.eq_1, mulW.eq_2, mulW.eq_3, intOp.eq_1, negW.eq_1, ordW.eq_1, ordW.eq_2, isW.eq_1, isntW.eq_1, ixW.eq_1, ixW.eq_2, ixW.eq_3, slW.eq_1, slW.eq_2, slW.eq_3, revTW.eq_1, revLW.eq_1, lenW.eq_1, lenW.eq_2, lenW.eq_3, tupleW.eq_1, tupleW.eq_2, listW.eq_1, listW.eq_2, min2W.eq_1, max2W.eq_1, strW.eq_1, strW.eq_2, joinW.eq_1, joinW.eq_2, walkLW.eq_1, walkTW.eq_1, walkSW.eq_1, range1W.eq_1, zipW.eq_1, zipW.eq_2, tupG.eq_1, gsW.eq_1, gsW.eq_2, par2.eq_1, extW.eq_1, extW.eq_2, partW.eq_1, optW.eq_1, optW.eq_2, modW, fdivW, powW, ltW, leW, gtW, geW, isNone, isi_non, isi_bl, isi_int, isi_str, isi_tup, isi_lst, upperW, putW, appW, tupW, lstW, asB_bl, String.reduceBEq, beq_self_eq_true, Bool.or_true, Bool.true_or, Bool.or_false, Bool.false_or, Bool.and_true, Bool.true_and, Bool.and_false, Bool.false_and, Bool.not_true, Bool.not_false, forall_const, true_implies, true_and, and_true, false_implies, reduceCtorEq, List.length_cons, List.length_nil, forall_eq, imp_self, implies_true, if_true, if_false, Bool.false_eq_true, Bool.true_eq_false]
  refine Ret.go (lc_map (ds := L.map rowT) (fun d => match d with | .tup [a, b, _] => .tup [a, b] | d => d) (fun Q E q => q) hl fun d hd => ?_) ?_
  · obtain ⟨r, hr, rfl⟩ := List.mem_map.mp hd
    simp only [wipeE, rowT, cut2, W.bind_wp, W.ret_wp, W.want_wp, W.any_wp, s_ite, s_get0, s_get, s_then, s_end, s_run, s_calm, s_fail, s_start1, s_start2, s_start3, s_start4, s_start5, List.replicate, List.set_cons_zero, List.set_cons_succ, asB_bl, asS_str, Nat.reduceSub, Nat.reduceAdd, addW.eq_1, addW.eq_2, addW.eq_3, addW.eq_4, addW.eq_5, subW.eq_1, subW.eq_2, mulW.eq_1, mulW.eq_2, mulW.eq_3, intOp.eq_1, negW.eq_1, ordW.eq_1, ordW.eq_2, isW.eq_1, isntW.eq_1, ixW.eq_1, ixW.eq_2, ixW.eq_3, slW.eq_1, slW.eq_2, slW.eq_3, revTW.eq_1, revLW.eq_1, lenW.eq_1, lenW.eq_2, lenW.eq_3, tupleW.eq_1, tupleW.eq_2, listW.eq_1, listW.eq_2, min2W.eq_1, max2W.eq_1, strW.eq_1, strW.eq_2, joinW.eq_1, joinW.eq_2, walkLW.eq_1, walkTW.eq_1, walkSW.eq_1, range1W.eq_1, zipW.eq_1, zipW.eq_2, tupG.eq_1, gsW.eq_1, gsW.eq_2, par2.eq_1, extW.eq_1, extW.eq_2, partW.eq_1, optW.eq_1, optW.eq_2, modW, fdivW, powW, ltW, leW, gtW, geW, isNone, isi_non, isi_bl, isi_int, isi_str, isi_tup, isi_lst, upperW, putW, appW, tupW, lstW, asB_bl, String.reduceBEq, beq_self_eq_true, Bool.or_true, Bool.true_or, Bool.or_false, Bool.false_or, Bool.and_true, Bool.true_and, Bool.and_false, Bool.false_and, Bool.not_true, Bool.not_false, forall_const, true_implies, true_and, and_true, false_implies, reduceCtorEq, List.length_cons, List.length_nil, forall_eq, imp_self, implies_true, if_true, if_false, Bool.false_eq_true, Bool.true_eq_false]
  have e1 : (L.map rowT).map (fun d => match d with | .tup [a, b, _] => D.tup [a, b] | d => d) = (L.map PK.pk).map keyT := by
    rw [List.map_map, List.map_map]
    rfl
  rw [e1]
  refine ⟨by decide, ?_⟩
  simp only [bSummed_4, W.bind_wp, W.ret_wp, W.want_wp, W.any_wp, s_ite, s_get0, s_get, s_then, s_end, s_run, s_calm, s_fail, s_start1, s_start2, s_start3, s_start4, s_start5, List.replicate, List.set_cons_zero, List.set_cons_succ, asB_bl, asS_str, Nat.reduceSub, Nat.reduceAdd, addW.eq_1, addW.eq_2, addW.eq_3, addW.eq_4, addW.eq_5, subW.eq_1, subW.eq_2, mulW.eq_1, mulW.eq_2, mulW.eq_3, intOp.eq_1, negW.eq_1, ordW.eq_1, ordW.eq_2, isW.eq_1, isntW.eq_1, ixW.eq_1, ixW.eq_2, ixW.eq_3, slW.eq_1, slW.eq_2, slW.eq_3, revTW.eq_1, revLW.eq_1, lenW.eq_1, lenW.eq_2, lenW.eq_3, tupleW.eq_1, tupleW.eq_2, listW.eq_1, listW.eq_2, min2W.eq_1, max2W.eq_1, strW.eq_1, strW.eq_2, joinW.eq_1, joinW.eq_2, walkLW.eq_1, walkTW.eq_1, walkSW.eq_1, range1W.eq_1, zipW.eq_1, zipW.eq_2, tupG.eq_1, gsW.eq_1, gsW.eq_2, par2.eq_1, extW.eq_1, extW.eq_2, partW.eq_1, optW.eq_1, optW.eq_2, modW, fdivW, powW, ltW, leW, gtW, geW, isNone, isi_non, isi_bl, isi_int, isi_str, isi_tup, isi_lst, upperW, putW, appW, tupW, lstW, asB_bl, String.reduceBEq, beq_self_eq_true, Bool.or_true, Bool.true_or, Bool.or_false, Bool.false_or, Bool.and_true, Bool.true_and, Bool.and_false, Bool.false_and, Bool.not_true, Bool.not_false, forall_const, true_implies, true_and, and_true, false_implies, reduceCtorEq, List.length_cons, List.length_nil, forall_eq, imp_self, implies_true, if_true, if_false, Bool.false_eq_true, Bool.true_eq_false]
  refine while_wp (fun m env => ∃ (M : List PRow) (ks : List PKey) (y3 y4 y5 : Option D), env = [some (rowsT L), some (.lst (M.map rowT)), some (.lst (ks.map keyT)), y3, y4, y5] ∧ ks.length = m ∧ Least L M ks ∧ M.length + ks.length ≤ 10000) L.length
    ⟨[], L.map PK.pk, none, none, none, rfl, by rw [List.length_map], Least.start L, by rw [List.length_map]; show 0 + _ ≤ _; omega⟩ ?_
  rintro m env ⟨M, ks, y3, y4, y5, rfl, hm, hL, hz⟩
  simp only [neW_keysNil, W.bind_wp, W.ret_wp, W.want_wp, W.any_wp, s_ite, s_get0, s_get, s_then, s_end, s_run, s_calm, s_fail, s_start1, s_start2, s_start3, s_start4, s_start5, List.replicate, List.set_cons_zero, List.set_cons_succ, asB_bl, asS_str, Nat.reduceSub, Nat.reduceAdd, addW.eq_1, addW.eq_2, addW.eq_3, addW.eq_4, addW.eq_5, subW.eq_1, subW.eq_2, mulW.eq_1, mulW.eq_2, mulW.eq_3, intOp.eq_1, negW.eq_1, ordW.eq_1, ordW.eq_2, isW.eq_1, isntW.eq_1, ixW.eq_1, ixW.eq_2, ixW.eq_3, slW.eq_1, slW.eq_2, slW.eq_3, revTW.eq_1, revLW.eq_1, lenW.eq_1, lenW.eq_2, lenW.eq_3, tupleW.eq_1, tupleW.eq_2, listW.eq_1, listW.eq_2, min2W.eq_1, max2W.eq_1, strW.eq_1, strW.eq_2, joinW.eq_1, joinW.eq_2, walkLW.eq_1, walkTW.eq_1, walkSW.eq_1, range1W.eq_1, zipW.eq_1, zipW.eq_2, tupG.eq_1, gsW.eq_1, gsW.eq_2, par2.eq_1, extW.eq_1, extW.eq_2, partW.eq_1, optW.eq_1, optW.eq_2, modW, fdivW, powW, ltW, leW, gtW, geW, isNone, isi_non, isi_bl, isi_int, isi_str, isi_tup, isi_lst, upperW, putW, appW, tupW, lstW, asB_bl, String.reduceBEq, beq_self_eq_true, Bool.or_true, Bool.true_or, Bool.or_false, Bool.false_or, Bool.and_true, Bool.true_and, Bool.and_false, Bool.false_and, Bool.not_true, Bool.not_false, forall_const, true_implies, true_and, and_true, false_implies, reduceCtorEq, List.length_cons, List.length_nil, forall_eq, imp_self, implies_true, if_true, if_false, Bool.false_eq_true, Bool.true_eq_false]
  refine ⟨small (by decide), fun hb => ?_, fun hb => ?_⟩
  · cases ks with
    | nil => cases hb
    | cons k ks =>
      simp only [bSummed_3, W.bind_wp, W.ret_wp, W.want_wp, W.any_wp, s_ite, s_get0, s_get, s_then, s_end, s_run, s_calm, s_fail, s_start1, s_start2, s_start3, s_start4, s_start5, List.replicate, List.set_cons_zero, List.set_cons_succ, asB_bl, asS_str, Nat.reduceSub, Nat.reduceAdd, addW.eq_1, addW.eq_2, addW.eq_3, addW.eq_4, addW.eq_5, subW.eq_1, subW.eq_2, mulW.eq_1, mulW.eq_2, mulW.eq_3, intOp.eq_1, negW.eq_1, ordW.eq_1, ordW.eq_2, isW.eq_1, isntW.eq_1, ixW.eq_1, ixW.eq_2, ixW.eq_3, slW.eq_1, slW.eq_2, slW.eq_3, revTW.eq_1, revLW.eq_1, lenW.eq_1, lenW.eq_2, lenW.eq_3, tupleW.eq_1, tupleW.eq_2, listW.eq_1, listW.eq_2, min2W.eq_1, max2W.eq_1, strW.eq_1, strW.eq_2, joinW.eq_1, joinW.eq_2, walkLW.eq_1, walkTW.eq_1, walkSW.eq_1, range1W.eq_1, zipW.eq_1, zipW.eq_2, tupG.eq_1, gsW.eq_1, gsW.eq_2, par2.eq_1, extW.eq_1, extW.eq_2, partW.eq_1, optW.eq_1, optW.eq_2, modW, fdivW, powW, ltW, leW, gtW, geW, isNone, isi_non, isi_bl, isi_int, isi_str, isi_tup, isi_lst, upperW, putW, appW, tupW, lstW, asB_bl, String.reduceBEq, beq_self_eq_true, Bool.or_true, Bool.true_or, Bool.or_false, Bool.false_or, Bool.and_true, Bool.true_and, Bool.and_false, Bool.false_and, Bool.not_true, Bool.not_false, forall_const, true_implies, true_and, and_true, false_implies, reduceCtorEq, List.length_cons, List.length_nil, forall_eq, imp_self, implies_true, if_true, if_false, Bool.false_eq_true, Bool.true_eq_false]
      have el := least_key (k := k) (ks := ks)
      refine ⟨⟨keys_plain (k :: ks), by rw [show D.toPs (keyT k :: ks.map keyT) = (k :: ks).map pkD from keys_toPs (k :: ks)]; exact pk_alikeAll _, fun e he => ?_⟩, fun x hx => ?_⟩
      · rw [show D.toPs (keyT k :: ks.map keyT) = (k :: ks).map pkD from keys_toPs (k :: ks)] at he
        obtain ⟨q, _, rfl⟩ := List.mem_map.mp he
        show 1 ≤ 90
        decide
      · obtain ⟨hx1, hx2⟩ := hx
        obtain ⟨m', hm', em, lm⟩ := el
        obtain ⟨z, hz1, rfl⟩ : ∃ z, z ∈ k :: ks ∧ keyT z = x := List.mem_map.mp (show x ∈ (k :: ks).map keyT from hx1)
        rw [keys_toPs, key_toP, key_toP, em] at hx2
        have := pkD_inj hx2
        subst this
        simp only [bSummed_2, W.bind_wp, W.ret_wp, W.want_wp, W.any_wp, s_ite, s_get0, s_get, s_then, s_end, s_run, s_calm, s_fail, s_start1, s_start2, s_start3, s_start4, s_start5, List.replicate, List.set_cons_zero, List.set_cons_succ, asB_bl, asS_str, Nat.reduceSub, Nat.reduceAdd, addW.eq_1, addW.eq_2, addW.eq_3, addW.eq_4, addW.eq_5, subW.eq_1, subW.eq_2, mulW.eq_1, mulW.eq_2, mulW.eq_3, intOp.eq_1, negW.eq_1, ordW.eq_1, ordW.eq_2, isW.eq_1, isntW.eq_1, ixW.eq_1, ixW.eq_2, ixW.eq_3, slW.eq_1, slW.eq_2, slW.eq_3, revTW.eq_1, revLW.eq_1, lenW.eq_1, lenW.eq_2, lenW.eq_3, tupleW.eq_1, tupleW.eq_2, listW.eq_1, listW.eq_2, min2W.eq_1, max2W.eq_1, strW.eq_1, strW.eq_2, joinW.eq_1, joinW.eq_2, walkLW.eq_1, walkTW.eq_1, walkSW.eq_1, range1W.eq_1, zipW.eq_1, zipW.eq_2, tupG.eq_1, gsW.eq_1, gsW.eq_2, par2.eq_1, extW.eq_1, extW.eq_2, partW.eq_1, optW.eq_1, optW.eq_2, modW, fdivW, powW, ltW, leW, gtW, geW, isNone, isi_non, isi_bl, isi_int, isi_str, isi_tup, isi_lst, upperW, putW, appW, tupW, lstW, asB_bl, String.reduceBEq, beq_self_eq_true, Bool.or_true, Bool.true_or, Bool.or_false, Bool.false_or, Bool.and_true, Bool.true_and, Bool.and_false, Bool.false_and, Bool.not_true, Bool.not_false, forall_const, true_implies, true_and, and_true, false_implies, reduceCtorEq, List.length_cons, List.length_nil, forall_eq, imp_self, implies_true, if_true, if_false, Bool.false_eq_true, Bool.true_eq_false]
        refine Ret.go (lc_ret (ds := (k :: ks).map keyT) (fun d => match d with | .tup [.str f, .str s] => !decide ((f, s) = z) | _ => false) (fun d => d) (fun Q E q => q) (by rw [List.length_map]; exact small (by simp at hz ⊢; omega)) fun d hd => ?_) ?_
        · obtain ⟨q, hq, rfl⟩ := List.mem_map.mp hd
          simp only [wipeE, neW_key, W.bind_wp, W.ret_wp, W.want_wp, W.any_wp, s_ite, s_get0, s_get, s_then, s_end, s_run, s_calm, s_fail, s_start1, s_start2, s_start3, s_start4, s_start5, List.replicate, List.set_cons_zero, List.set_cons_succ, asB_bl, asS_str, Nat.reduceSub, Nat.reduceAdd, addW.eq_1, addW.eq_2, addW.eq_3, addW.eq_4, addW.eq_5, subW.eq_1, subW.eq_2, mulW.eq_1, mulW.eq_2, mulW.eq_3, intOp.eq_1, negW.eq_1, ordW.eq_1, ordW.eq_2, isW.eq_1, isntW.eq_1, ixW.eq_1, ixW.eq_2, ixW.eq_3, slW.eq_1, slW.eq_2, slW.eq_3, revTW.eq_1, revLW.eq_1, lenW.eq_1, lenW.eq_2, lenW.eq_3, tupleW.eq_1, tupleW.eq_2, listW.eq_1, listW.eq_2, min2W.eq_1, max2W.eq_1, strW.eq_1, strW.eq_2, joinW.eq_1, joinW.eq_2, walkLW.eq_1, walkTW.eq_1, walkSW.eq_1, range1W.eq_1, zipW.eq_1, zipW.eq_2, tupG.eq_1, gsW.eq_1, gsW.eq_2, par2.eq_1, extW.eq_1, extW.eq_2, partW.eq_1, optW.eq_1, optW.eq_2, modW, fdivW, powW, ltW, leW, gtW, geW, isNone, isi_non, isi_bl, isi_int, isi_str, isi_tup, isi_lst, upperW, putW, appW, tupW, lstW, asB_bl, String.reduceBEq, beq_self_eq_true, Bool.or_true, Bool.true_or, Bool.or_false, Bool.false_or, Bool.and_true, Bool.true_and, Bool.and_false, Bool.false_and, Bool.not_true, Bool.not_false, forall_const, true_implies, true_and, and_true, false_implies, reduceCtorEq, List.length_cons, List.length_nil, forall_eq, imp_self, implies_true, if_true, if_false, Bool.false_eq_true, Bool.true_eq_false]
          rfl
        have e2 : (((k :: ks).map keyT).filter (fun d => match d with | .tup [.str f, .str s] => !decide ((f, s) = z) | _ => false)).map (fun d => d) = ((k :: ks).filter fun q => decide (q ≠ z)).map keyT := by
          rw [List.map_id', List.filter_map]
          congr 1
          refine List.filter_congr fun q _ => ?_
          show (!decide (q = z)) = decide (q ≠ z)
          simp
        rw [e2]
        simp only [bSummed_1, W.bind_wp, W.ret_wp, W.want_wp, W.any_wp, s_ite, s_get0, s_get, s_then, s_end, s_run, s_calm, s_fail, s_start1, s_start2, s_start3, s_start4, s_start5, List.replicate, List.set_cons_zero, List.set_cons_succ, asB_bl, asS_str, Nat.reduceSub, Nat.reduceAdd, addW.eq_1, addW.eq_2, addW.eq_3, addW.eq_4, addW.eq_5, subW.eq_1, subW.eq_2, mulW.eq_1, mulW.eq_2, mulW.eq_3, intOp.eq_1, negW.eq_1, ordW.eq_1, ordW.eq_2, isW.eq_1, isntW.eq_1, ixW.eq_1, ixW.eq_2, ixW.eq_3, slW.eq_1, slW.eq_2, slW.eq_3, revTW.eq_1, revLW.eq_1, lenW.eq_1, lenW.eq_2, lenW.eq_3, tupleW.eq_1, tupleW.eq_2, listW.eq_1, listW.eq_2, min2W.eq_1, max2W.eq_1, strW.eq_1, strW.eq_2, joinW.eq_1, joinW.eq_2, walkLW.eq_1, walkTW.eq_1, walkSW.eq_1, range1W.eq_1, zipW.eq_1, zipW.eq_2, tupG.eq_1, gsW.eq_1, gsW.eq_2, par2.eq_1, extW.eq_1, extW.eq_2, partW.eq_1, optW.eq_1, optW.eq_2, modW, fdivW, powW, ltW, leW, gtW, geW, isNone, isi_non, isi_bl, isi_int, isi_str, isi_tup, isi_lst, upperW, putW, appW, tupW, lstW, asB_bl, String.reduceBEq, beq_self_eq_true, Bool.or_true, Bool.true_or, Bool.or_false, Bool.false_or, Bool.and_true, Bool.true_and, Bool.and_false, Bool.false_and, Bool.not_true, Bool.not_false, forall_const, true_implies, true_and, and_true, false_implies, reduceCtorEq, List.length_cons, List.length_nil, forall_eq, imp_self, implies_true, if_true, if_false, Bool.false_eq_true, Bool.true_eq_false]
        refine (sums z _ _ _ _).go ?_
        rw [sumW_part]
        simp only [keyT, W.bind_wp, W.ret_wp, W.want_wp, W.any_wp, s_ite, s_get0, s_get, s_then, s_end, s_run, s_calm, s_fail, s_start1, s_start2, s_start3, s_start4, s_start5, List.replicate, List.set_cons_zero, List.set_cons_succ, asB_bl, asS_str, Nat.reduceSub, Nat.reduceAdd, addW.eq_1, addW.eq_2, addW.eq_3, addW.eq_4, addW.eq_5, subW.eq_1, subW.eq_2, mulW.eq_1, mulW.eq_2, mulW.eq_3, intOp.eq_1, negW.eq_1, ordW.eq_1, ordW.eq_2, isW.eq_1, isntW.eq_1, ixW.eq_1, ixW.eq_2, ixW.eq_3, slW.eq_1, slW.eq_2, slW.eq_3, revTW.eq_1, revLW.eq_1, lenW.eq_1, lenW.eq_2, lenW.eq_3, tupleW.eq_1, tupleW.eq_2, listW.eq_1, listW.eq_2, min2W.eq_1, max2W.eq_1, strW.eq_1, strW.eq_2, joinW.eq_1, joinW.eq_2, walkLW.eq_1, walkTW.eq_1, walkSW.eq_1, range1W.eq_1, zipW.eq_1, zipW.eq_2, tupG.eq_1, gsW.eq_1, gsW.eq_2, par2.eq_1, extW.eq_1, extW.eq_2, partW.eq_1, optW.eq_1, optW.eq_2, modW, fdivW, powW, ltW, leW, gtW, geW, isNone, isi_non, isi_bl, isi_int, isi_str, isi_tup, isi_lst, upperW, putW, appW, tupW, lstW, asB_bl, String.reduceBEq, beq_self_eq_true, Bool.or_true, Bool.true_or, Bool.or_false, Bool.false_or, Bool.and_true, Bool.true_and, Bool.and_false, Bool.false_and, Bool.not_true, Bool.not_false, forall_const, true_implies, true_and, and_true, false_implies, reduceCtorEq, List.length_cons, List.length_nil, forall_eq, imp_self, implies_true, if_true, if_false, Bool.false_eq_true, Bool.true_eq_false]
        have lf : ((k :: ks).filter fun q => decide (q ≠ z)).length < (k :: ks).length := by
          refine List.length_filter_lt_length_iff_exists.mpr ⟨z, hz1, by simp⟩
        refine ⟨small (by decide), small (by decide), by rw [List.length_map]; exact smallT (by omega), _, by rw [← hm]; exact lf, M ++ [(z.1, z.2, cnt L z)], _, _, _, _, by rw [List.map_append]; rfl, rfl, hL.next hz1 lm, ?_⟩
        rw [List.length_append, List.length_singleton]
        omega
  · cases ks with
    | cons k ks => cases hb
    | nil =>
      rw [hL.done]
      exact q
end LP
namespace LP.K17
open PySem PySem.Spec PyProof.Rows L2 PK LP
end LP.K17
namespace LP
open PySem PySem.Spec PyProof.Rows L2 PK LP RZ
def shown1 (r : PRow) : Str := r.1 ++ ("/" : Str) ++ r.2.1 ++ (":" : Str) ++ (toString r.2.2 : String)
def shownR (L : List PRow) : Str := if L = [] then ("-" : Str) else Str.join (" " : Str) (L.map shown1)
end LP
namespace LP.K17
open PySem PySem.Spec PyProof.Rows L2 PK LP RZ
/-! ### the wants of the methods -/
structure Good (n : Nat) (b : Int) (L : List PRow) : Prop where
  ok : RowsOk n b L
  up : Rises (L.map fun r => pkD (PK.pk r))
theorem plus_eq {L M : List PRow} (h : L.length + M.length ≤ 900) : plusW [heapD L, heapD M] = W.ret (heapD (sumR (L ++ M))) := by
  show (optW (heapOf (heapD L))).bind _ = _
  rw [heapOf_D, optW_some, W.ret_bind, heapOf_D, optW_some, W.ret_bind]
  exact W.want_bind h
/-! ### what a deed tells -/
def deedR (L M : List PRow) (m : Int) (f : Str) : List PRow :=
  if m = 0 then sumR (L ++ M)
  else if m = 1 then (if aboveR M L = [] then aboveR L M else aboveR M L)
  else if m = 2 then sumR (L ++ M.take 1)
  else if m = 3 then (if aboveR M L = [] then sumR (L ++ L) else sumR (L ++ [(f, ("zz" : Str), 1)]))
  else if m = 4 then (if L = M ∨ (shownR M).length < (shownR L).length then L else M)
  else L.take (formsR L).length
theorem cut_take {α : Type} (l : List α) (n : Nat) : cutD l none (some (n : Int)) = l.take n := by
  unfold cutD
  have e0 : HT.sIx l.length 0 none = 0 := rfl
  rw [e0, List.drop_zero, Nat.sub_zero]
  have e1 : HT.sIx l.length l.length (some (n : Int)) = min n l.length := by
    simp [HT.sIx]
    try omega
  rw [e1]
  rcases Nat.le_total n l.length with z | z
  · rw [Nat.min_eq_left z]
  · rw [Nat.min_eq_right z, List.take_length, List.take_of_length_le z]
end LP.K17
namespace LP.K17
open PySem PySem.Spec PyProof.Rows L2 PK LP RZ
theorem rows_app (L M : List PRow) : addW (rowsT L) (rowsT M) = (W.want (L.length + M.length ≤ sizeLine)).bind fun _ => W.ret (rowsT (L ++ M)) := by
  show (W.want ((L.map rowT).length + (M.map rowT).length ≤ sizeLine)).bind _ = _
  rw [List.length_map, List.length_map]
  unfold rowsT
  rw [List.map_append]
theorem addW_rows {L M : List PRow} (h : L.length + M.length ≤ 1000000) : addW (rowsT L) (rowsT M) = W.ret (rowsT (L ++ M)) := by
  rw [rows_app, W.want_bind (small h)]
theorem sl_rows (L : List PRow) (n : Nat) : slW (rowsT L) none (some (n : Int)) = W.ret (rowsT (L.take n)) := by
  show W.ret (D.tup (cutD (L.map rowT) none (some (n : Int)))) = _
  rw [cut_take, ← List.map_take]
  rfl
theorem up_take {L : List PRow} (h : Rises (L.map fun r => pkD (PK.pk r))) (n : Nat) : Rises ((L.take n).map fun r => pkD (PK.pk r)) := by
  unfold Rises at *
  rw [List.map_take]
  exact h.sublist (List.take_sublist _ _) 
end LP.K17
namespace LP.K17
open PySem PySem.Spec PyProof.Rows L2 PK LP RZ
/-! ### the law's own -/
end LP.K17
namespace LP.K17
open PySem PySem.Spec PyProof.Rows L2 PK LP RZ
theorem len_of_sub {α : Type} [DecidableEq α] : ∀ {l m : List α}, l.Nodup → (∀ x ∈ l, x ∈ m) → l.length ≤ m.length
  | [], _, _, _ => Nat.zero_le _
  | x :: l, m, nd, h => by
    obtain ⟨n1, n2⟩ := List.nodup_cons.mp nd
    have hx := h x List.mem_cons_self
    have ih := len_of_sub (l := l) (m := m.erase x) n2 fun y hy => (List.mem_erase_of_ne fun e => n1 (by rw [← e]; exact hy)).mpr (h y (List.mem_cons_of_mem _ hy))
    rw [List.length_erase_of_mem hx] at ih
    have := List.length_pos_of_mem hx
    rw [List.length_cons]
    omega
theorem rises_nodup {L : List PRow} (h : Rises (L.map fun r => pkD (PK.pk r))) : (L.map PK.pk).Nodup := by
  unfold Rises at h
  rw [List.pairwise_map] at h
  unfold List.Nodup
  rw [List.pairwise_map]
  refine h.imp fun {a b} z e => ?_
  rw [e, dlt_irr] at z
  cases z
theorem sumR_many {L : List PRow} {r : PRow} (h : r ∈ sumR L) : r.2.2 = cnt L (PK.pk r) := by
  unfold sumR at h
  obtain ⟨k, _, rfl⟩ := List.mem_map.mp h
  rfl
/-- rows of these words, rising, to so many -/
structure Kn (fs ss : List Str) (b : Int) (L : List PRow) : Prop where
  up : Rises (L.map fun r => pkD (PK.pk r))
  each : ∀ r ∈ L, r.1 ∈ fs ∧ (r.2.1 ∈ ss ∨ r.2.1 = ("zz" : Str)) ∧ 1 ≤ r.2.2 ∧ r.2.2 ≤ b
section
variable {fs ss : List Str} {b : Int} {L M : List PRow}
theorem Kn.mono {c : Int} (h : Kn fs ss b L) (hc : b ≤ c) : Kn fs ss c L := ⟨h.up, fun r hr => by
  obtain ⟨h1, h2, h3, h4⟩ := h.each r hr
  exact ⟨h1, h2, h3, by omega⟩⟩
theorem Kn.len (h : Kn fs ss b L) : L.length ≤ fs.length * (ss.length + 1) := by
  have : (L.map PK.pk).length ≤ (fs.flatMap fun f => (ss ++ [("zz" : Str)]).map fun s => (f, s)).length := len_of_sub (rises_nodup h.up) fun k hk => by
    obtain ⟨r, hr, rfl⟩ := List.mem_map.mp hk
    obtain ⟨h1, h2, _⟩ := h.each r hr
    refine List.mem_flatMap.mpr ⟨r.1, h1, List.mem_map.mpr ⟨r.2.1, ?_, rfl⟩⟩
    rcases h2 with h2 | h2
    · exact List.mem_append_left _ h2
    · exact List.mem_append_right _ (by rw [h2]; exact List.mem_singleton.mpr rfl)
  rw [List.length_map] at this
  refine Nat.le_trans this ?_
  clear this h
  induction fs with
  | nil => exact Nat.zero_le _
  | cons f fs ih =>
    rw [List.flatMap_cons, List.length_append, List.length_map, List.length_append]
    have e : (f :: fs).length * (ss.length + 1) = fs.length * (ss.length + 1) + (ss.length + 1) := Nat.succ_mul _ _
    rw [e]
    show ss.length + 1 + _ ≤ _
    omega
theorem Kn.cnt (h : Kn fs ss b L) (hb : 0 ≤ b) (k : PKey) : 0 ≤ PK.cnt L k ∧ PK.cnt L k ≤ b := by
  by_cases z : k ∈ L.map PK.pk
  · obtain ⟨r, hr, rfl⟩ := List.mem_map.mp z
    have hr' := hr
    rw [← sumR_id h.up] at hr'
    rw [← sumR_many hr']
    obtain ⟨_, _, h3, h4⟩ := h.each r hr
    exact ⟨by omega, h4⟩
  · rw [cnt_none z]
    exact ⟨Int.le_refl 0, hb⟩
theorem Kn.sum2 (h : Kn fs ss b L) (h2 : Kn fs ss b M) (hb : 0 ≤ b) : Kn fs ss (2 * b) (sumR (L ++ M)) := ⟨sumR_rises _, fun r hr => by
  have hm := sumR_many hr
  rw [cnt_app] at hm
  obtain ⟨q, hq, e⟩ := sumR_keyIn hr
  have e1 : r.1 = q.1 := congrArg (fun k : PKey => k.1) e
  have e2 : r.2.1 = q.2.1 := congrArg (fun k : PKey => k.2) e
  have c1 := h.cnt hb (PK.pk r)
  have c2 := h2.cnt hb (PK.pk r)
  have pos : ∀ {N : List PRow}, Kn fs ss b N → q ∈ N → 1 ≤ PK.cnt N (PK.pk r) := fun {N} hN hq => by
    have hq' := hq
    rw [← sumR_id hN.up] at hq'
    rw [e, ← sumR_many hq']
    exact (hN.each q hq).2.2.1
  rw [e1, e2]
  rcases List.mem_append.mp hq with hq | hq
  · have := pos h hq
    exact ⟨(h.each q hq).1, (h.each q hq).2.1, by omega, by omega⟩
  · have := pos h2 hq
    exact ⟨(h2.each q hq).1, (h2.each q hq).2.1, by omega, by omega⟩⟩
theorem Kn.above (h : Kn fs ss b L) (h2 : Kn fs ss b M) (hb : 0 ≤ b) : Kn fs ss b (aboveR L M) := ⟨rises_above h.up, fun r hr => by
  obtain ⟨q, hq, e, e3, p⟩ := aboveR_mem hr
  have e1 : r.1 = q.1 := congrArg (fun k : PKey => k.1) e
  have e2 : r.2.1 = q.2.1 := congrArg (fun k : PKey => k.2) e
  have c2 := h2.cnt hb (PK.pk q)
  obtain ⟨a1, a2, a3, a4⟩ := h.each q hq
  rw [e1, e2]
  exact ⟨a1, a2, by omega, by omega⟩⟩
theorem Kn.take (h : Kn fs ss b L) (n : Nat) : Kn fs ss b (L.take n) := ⟨up_take h.up n, fun r hr => h.each r (List.mem_of_mem_take hr)⟩
theorem Kn.deed {m : Int} {f : Str} (h : Kn fs ss b L) (h2 : Kn fs ss b M) (hb : 1 ≤ b) (hf : f ∈ fs) : Kn fs ss (2 * b) (deedR L M m f) := by
  unfold deedR
  split
  · exact h.sum2 h2 (by omega)
  split
  · split
    · exact (h.above h2 (by omega)).mono (by omega)
    · exact (h2.above h (by omega)).mono (by omega)
  split
  · exact h.sum2 (h2.take 1) (by omega)
  split
  · split
    · exact h.sum2 h (by omega)
    · exact h.sum2 ⟨List.pairwise_singleton _ _, fun r hr => by
        rw [List.mem_singleton.mp hr]
        exact ⟨hf, .inr rfl, Int.le_refl 1, hb⟩⟩ (by omega)
  split
  · split
    · exact h.mono (by omega)
    · exact h2.mono (by omega)
  · exact (h.take _).mono (by omega)
theorem cnt_of_each {c : Int} {k : PKey} : ∀ {L : List PRow}, (∀ r ∈ L, 1 ≤ r.2.2 ∧ r.2.2 ≤ c) → 0 ≤ c → 0 ≤ PK.cnt L k ∧ PK.cnt L k ≤ L.length * c ∧ (k ∈ L.map PK.pk → 1 ≤ PK.cnt L k)
  | [], _, _ => ⟨Int.le_refl 0, by simp [PK.cnt], fun h => (nomatch h)⟩
  | r :: L, h, hc => by
    obtain ⟨i1, i2, i3⟩ := cnt_of_each (L := L) (k := k) (fun q hq => h q (List.mem_cons_of_mem _ hq)) hc
    obtain ⟨a1, a2⟩ := h r List.mem_cons_self
    rw [PK.cnt_cons, List.length_cons]
    have e : ((L.length + 1 : Nat) : Int) * c = L.length * c + c := by
      rw [Int.natCast_add, Int.add_mul]
      simp
    rw [e]
    split
    · exact ⟨by omega, by omega, fun _ => by omega⟩
    · rename_i ne
      refine ⟨by omega, by omega, fun hk => ?_⟩
      rcases List.mem_cons.mp hk with z | z
      · exact absurd z.symm ne
      · have := i3 z
        omega
theorem Kn.start (h : LR fs ss 8 L) : Kn fs ss 8000000000 (sumR L) := ⟨sumR_rises _, fun r hr => by
  have hm := sumR_many hr
  obtain ⟨q, hq, e⟩ := sumR_keyIn hr
  have e1 : r.1 = q.1 := congrArg (fun k : PKey => k.1) e
  have e2 : r.2.1 = q.2.1 := congrArg (fun k : PKey => k.2) e
  obtain ⟨i1, i2, i3⟩ := cnt_of_each (c := 1000000000) (k := PK.pk r) (fun q hq => (h.each q hq).2.2) (by decide)
  have := i3 (by rw [e]; exact List.mem_map.mpr ⟨q, hq, rfl⟩)
  have hl := h.len
  obtain ⟨a1, a2, _⟩ := h.each q hq
  rw [e1, e2]
  exact ⟨a1, .inl a2, by omega, by omega⟩⟩
end
end LP.K17
namespace LP.K17
open PySem PySem.Spec PyProof.Rows L2 PK LP RZ
theorem row_sz {b : Int} {r : PRow} (h : PRowOk b r) (hb : b ≤ 10 ^ 30) : Sz 200 1 400 (rowT r) := by
  have l := h.lo
  have u := h.hi
  have h1 : r.2.2.natAbs < 2 ^ 200 := by
    have e : ((r.2.2.natAbs : Nat) : Int) = r.2.2 := Int.natAbs_of_nonneg (by omega)
    have k : (10 : Int) ^ 30 < ((2 ^ 200 : Nat) : Int) := by decide
    have : ((r.2.2.natAbs : Nat) : Int) < ((2 ^ 200 : Nat) : Int) := by
      rw [e]
      omega
    exact Int.ofNat_lt.mp this
  have h2 : r.2.2.natAbs.log2 < 200 := (Nat.log2_lt (by omega)).mpr h1
  have f8 := h.f.eight
  have s8 := h.s.eight
  have h3 : Sz 200 0 82 (.str r.1) := Sz.str (by omega)
  have h4 : Sz 200 0 82 (.str r.2.1) := Sz.str (by omega)
  have h5 : Sz 200 0 202 (.int r.2.2) := Sz.int (by omega) (by omega)
  have : Szs 200 0 _ [D.str r.1, .str r.2.1, .int r.2.2] := Szs.cons h3 (Szs.cons h4 (Szs.cons h5 (Szs.nil (n := 0))))
  exact (Sz.tup this).mono (Nat.le_refl _) (Nat.le_refl _) (by omega)
theorem rows_sz {n : Nat} {b : Int} {L : List PRow} (h : RowsOk n b L) (hb : b ≤ 10 ^ 30) (hn : n ≤ 900) : Sz 200 2 400000 (rowsT L) := by
  have : Szs 200 1 ((L.map rowT).length * 402) (L.map rowT) := Szs.each fun d hd => by
    obtain ⟨r, hr, rfl⟩ := List.mem_map.mp hd
    exact row_sz (h.each r hr) hb
  have hl := h.len
  rw [List.length_map] at this
  exact (Sz.tup this).mono (Nat.le_refl _) (Nat.le_refl _) (by omega)
theorem repr_rows {n : Nat} {b : Int} {L : List PRow} (h : RowsOk n b L) (hb : b ≤ 10 ^ 30) (hn : n ≤ 900) : reprD [rowsT L] = W.ret (rp (rowsT L)) :=
  reprD_eq ((rows_sz h hb hn).mono (by decide) (by decide) (small (by decide)))
section
variable {fs ss : List Str} {E : Ex → Prop} {e0 e4 e5 e6 e8 e10 e11 e12 e14 e15 e16 : Option D}
end
end LP.K17
namespace LP.K04
open PySem PySem.Spec PyProof.Rows L2 PK LP RZ
/-! ### of each part how many more -/
theorem over_ret {A B : List PRow} (ha : A.length ≤ 900) (hb : B.length ≤ 10000) : Ret (fOver [rowsT A, rowsT B]) (rowsT (aboveR (sumR A) (sumR B))) := by
  intro Q E q
  refine ⟨rfl, ?_⟩
  show (endW (bOver (startE 8 [rowsT A, rowsT B]))).wp Q E
  have hs : (sumR A).length ≤ 900 := Nat.le_trans (sumR_len A) ha
  have hl : (B.map rowT).length ≤ sizeLine := by rw [List.length_map]; exact small (by omega)
  simp only [bOver, W.bind_wp, W.ret_wp, W.want_wp, W.any_wp, s_ite, s_get0, s_get, s_then, s_end, s_run, s_calm, s_fail, s_start1, s_start2, s_start3, s_start4, s_start5, List.replicate, List.set_cons_zero, List.set_cons_succ, asB_bl, asS_str, Nat.reduceSub, Nat.reduceAdd, addW.eq_1, addW.eq_2, addW.eq_3, addW.eq_4, addW.eq_5, subW.eq_1, subW.eq_2, mulW.eq_1, mulW.eq_2, mulW.eq_3, intOp.eq_1, negW.eq_1, ordW.eq_1, ordW.eq_2, isW.eq_1, isntW.eq_1, ixW.eq_1, ixW.eq_2, ixW.eq_3, slW.eq_1, slW.eq_2, slW.eq_3, revTW.eq_1, revLW.eq_1, lenW.eq_1, lenW.eq_2, lenW.eq_3, tupleW.eq_1, tupleW.eq_2, listW.eq_1, listW.eq_2, min2W.eq_1, max2W.eq_1, strW.eq_1, strW.eq_2, joinW.eq_1, joinW.eq_2, walkLW.eq_1, walkTW.eq_1, walkSW.eq_1, range1W.eq_1, zipW.eq_1, zipW.eq_2, tupG.eq_1, gsW.eq_1, gsW.eq_2, par2.eq_1, extW.eq_1, extW.eq_2, partW.eq_1, optW.eq_1, optW.eq_2, modW, fdivW, powW, ltW, leW, gtW, geW, isNone, isi_non, isi_bl, isi_int, isi_str, isi_tup, isi_lst, upperW, putW, appW, tupW, lstW, asB_bl, String.reduceBEq, beq_self_eq_true, Bool.or_true, Bool.true_or, Bool.or_false, Bool.false_or, Bool.and_true, Bool.true_and, Bool.and_false, Bool.false_and, Bool.not_true, Bool.not_false, forall_const, true_implies, true_and, and_true, false_implies, reduceCtorEq, List.length_cons, List.length_nil, forall_eq, imp_self, implies_true, if_true, if_false, Bool.false_eq_true, Bool.true_eq_false]
  refine ⟨by decide, by decide, ?_⟩
  simp only [bOver_4, W.bind_wp, W.ret_wp, W.want_wp, W.any_wp, s_ite, s_get0, s_get, s_then, s_end, s_run, s_calm, s_fail, s_start1, s_start2, s_start3, s_start4, s_start5, List.replicate, List.set_cons_zero, List.set_cons_succ, asB_bl, asS_str, Nat.reduceSub, Nat.reduceAdd, addW.eq_1, addW.eq_2, addW.eq_3, addW.eq_4, addW.eq_5, subW.eq_1, subW.eq_2, mulW.eq_1, mulW.eq_2, mulW.eq_3, intOp.eq_1, negW.eq_1, ordW.eq_1, ordW.eq_2, isW.eq_1, isntW.eq_1, ixW.eq_1, ixW.eq_2, ixW.eq_3, slW.eq_1, slW.eq_2, slW.eq_3, revTW.eq_1, revLW.eq_1, lenW.eq_1, lenW.eq_2, lenW.eq_3, tupleW.eq_1, tupleW.eq_2, listW.eq_1, listW.eq_2, min2W.eq_1, max2W.eq_1, strW.eq_1, strW.eq_2, joinW.eq_1, joinW.eq_2, walkLW.eq_1, walkTW.eq_1, walkSW.eq_1, range1W.eq_1, zipW.eq_1, zipW.eq_2, tupG.eq_1, gsW.eq_1, gsW.eq_2, par2.eq_1, extW.eq_1, extW.eq_2, partW.eq_1, optW.eq_1, optW.eq_2, modW, fdivW, powW, ltW, leW, gtW, geW, isNone, isi_non, isi_bl, isi_int, isi_str, isi_tup, isi_lst, upperW, putW, appW, tupW, lstW, asB_bl, String.reduceBEq, beq_self_eq_true, Bool.or_true, Bool.true_or, Bool.or_false, Bool.false_or, Bool.and_true, Bool.true_and, Bool.and_false, Bool.false_and, Bool.not_true, Bool.not_false, forall_const, true_implies, true_and, and_true, false_implies, reduceCtorEq, List.length_cons, List.length_nil, forall_eq, imp_self, implies_true, if_true, if_false, Bool.false_eq_true, Bool.true_eq_false]
  refine (summed_ret A (by omega)).go ?_
  simp only [rowsT, W.bind_wp, W.ret_wp, W.want_wp, W.any_wp, s_ite, s_get0, s_get, s_then, s_end, s_run, s_calm, s_fail, s_start1, s_start2, s_start3, s_start4, s_start5, List.replicate, List.set_cons_zero, List.set_cons_succ, asB_bl, asS_str, Nat.reduceSub, Nat.reduceAdd, addW.eq_1, addW.eq_2, addW.eq_3, addW.eq_4, addW.eq_5, subW.eq_1, subW.eq_2, mulW.eq_1, mulW.eq_2, mulW.eq_3, intOp.eq_1, negW.eq_1, ordW.eq_1, ordW.eq_2, isW.eq_1, isntW.eq_1, ixW.eq_1, ixW.eq_2, ixW.eq_3, slW.eq_1, slW.eq_2, slW.eq_3, revTW.eq_1, revLW.eq_1, lenW.eq_1, lenW.eq_2, lenW.eq_3, tupleW.eq_1, tupleW.eq_2, listW.eq_1, listW.eq_2, min2W.eq_1, max2W.eq_1, strW.eq_1, strW.eq_2, joinW.eq_1, joinW.eq_2, walkLW.eq_1, walkTW.eq_1, walkSW.eq_1, range1W.eq_1, zipW.eq_1, zipW.eq_2, tupG.eq_1, gsW.eq_1, gsW.eq_2, par2.eq_1, extW.eq_1, extW.eq_2, partW.eq_1, optW.eq_1, optW.eq_2, modW, fdivW, powW, ltW, leW, gtW, geW, isNone, isi_non, isi_bl, isi_int, isi_str, isi_tup, isi_lst, upperW, putW, appW, tupW, lstW, asB_bl, String.reduceBEq, beq_self_eq_true, Bool.or_true, Bool.true_or, Bool.or_false, Bool.false_or, Bool.and_true, Bool.true_and, Bool.and_false, Bool.false_and, Bool.not_true, Bool.not_false, forall_const, true_implies, true_and, and_true, false_implies, reduceCtorEq, List.length_cons, List.length_nil, forall_eq, imp_self, implies_true, if_true, if_false, Bool.false_eq_true, Bool.true_eq_false]
  refine forW_wp0 (fun i env => ∃ (y3 y4 y5 y6 y7 : Option D), env = [some (rowsT A), some (rowsT B), some (.lst ((aboveR ((sumR A).take i) (sumR B)).map rowT)), y3, y4, y5, y6, y7]) ⟨_, _, _, _, _, rfl⟩ (fun i d env hd hp => ?_) (fun env hp => ?_)
  · obtain ⟨y3, y4, y5, y6, y7, rfl⟩ := hp
    rw [List.getElem?_map] at hd
    obtain ⟨r, hr, rfl⟩ := Option.map_eq_some_iff.mp hd
    have hi : i < (sumR A).length := (List.getElem?_eq_some_iff.mp hr).1
    have sums : ∀ (y2 y3 y4 y5 y6 y7 : Option D), Ret (lcD (fun d env => W.ret (env.set 7 (some d))) (fun env => ((((getW env 7).bind fun d => (W.ret none).bind fun l => ((W.ret (.int 2)).bind partW).bind fun u => slW d l u).bind fun x => (((getW env 3).bind fun d => ((getW env 4).bind fun d => (W.ret []).bind fun ds => W.ret (d :: ds)).bind fun ds => W.ret (d :: ds)).bind tupW).bind fun y => eqW x y).bind asB)) (fun env => ((getW env 7).bind fun x => (W.ret (.int 2)).bind fun y => ixW x y)) [7] (fun env => ((getW env 1).bind walkTW)) [some (rowsT A), some (rowsT B), y2, some (.str r.1), some (.str r.2.1), y5, y6, y7]) (.lst ((ofPart B (PK.pk r)).map D.int)) := fun y2 y3 y4 y5 y6 y7 => by
      rw [← sum_ofPart]
      refine lc_ret (keyIs (PK.pk r)) rowIx (fun Q E q => q) hl fun d hd => ?_
      obtain ⟨q, hq, rfl⟩ := List.mem_map.mp hd
      simp only [wipeE, rowT, cut2, eqW_key', W.bind_wp, W.ret_wp, W.want_wp, W.any_wp, s_ite, s_get0, s_get, s_then, s_end, s_run, s_calm, s_fail, s_start1, s_start2, s_start3, s_start4, s_start5, List.replicate, List.set_cons_zero, List.set_cons_succ, asB_bl, asS_str, Nat.reduceSub, Nat.reduceAdd, addW.eq_1, addW.eq_2, addW.eq_3, addW.eq_4, addW.eq_5, subW.eq_1, subW.eq_2, mulW.eq_1, mulW.eq_2, mulW.eq_3, intOp.eq_1, negW.eq_1, ordW.eq_1, ordW.eq_2, isW.eq_1, isntW.eq_1, ixW.eq_1, ixW.eq_2, ixW.eq_3, slW.eq_1, slW.eq_2, slW.eq_3, revTW.eq_1, revLW.eq_1, lenW.eq_1, lenW.eq_2, lenW.eq_3, tupleW.eq_1, tupleW.eq_2, listW.eq_1, listW.eq_2, min2W.eq_1, max2W.eq_1, strW.eq_1, strW.eq_2, joinW.eq_1, joinW.eq_2, walkLW.eq_1, walkTW.eq_1, walkSW.eq_1, range1W.eq_1, zipW.eq_1, zipW.eq_2, tupG.eq_1, gsW.eq_1, gsW.eq_2, par2.eq_1, extW.eq_1, extW.eq_2, partW.eq_1, optW.eq_1, optW.eq_2, modW, fdivW, powW, ltW, leW, gtW, geW, isNone, isi_non, isi_bl, isi_int, isi_str, isi_tup, isi_lst, upperW, putW, appW, tupW, lstW, asB_bl, String.reduceBEq, beq_self_eq_true, Bool.or_true, Bool.true_or, Bool.or_false, Bool.false_or, Bool.and_true, Bool.true_and, Bool.and_false, Bool.false_and, Bool.not_true, Bool.not_false, forall_const, true_implies, true_and, and_true, false_implies, reduceCtorEq, List.length_cons, List.length_nil, forall_eq, imp_self, implies_true, if_true, if_false, Bool.false_eq_true, Bool.true_eq_false]
      exact ⟨by decide, rfl, fun _ => rfl⟩
    simp only [rowT, W.bind_wp, W.ret_wp, W.want_wp, W.any_wp, s_ite, s_get0, s_get, s_then, s_end, s_run, s_calm, s_fail, s_start1, s_start2, s_start3, s_start4, s_start5, List.replicate, List.set_cons_zero, List.set_cons_succ, asB_bl, asS_str, Nat.reduceSub, Nat.reduceAdd, addW.eq_1, addW.eq_2, addW.eq_3, addW.eq_4, addW.eq_5, subW.eq_1, subW.eq_2, mulW.eq_1, mulW.eq_2, mulW.eq_3, intOp.eq_1, negW.eq_1, ordW.eq_1, ordW.eq_2, isW.eq_1, isntW.eq_1, ixW.eq_1, ixW.eq_2, ixW.eq_3, slW.eq_1, slW.eq_2, slW.eq_3, revTW.eq_1, revLW.eq_1, lenW.eq_1, lenW.eq_2, lenW.eq_3, tupleW.eq_1, tupleW.eq_2, listW.eq_1, listW.eq_2, min2W.eq_1, max2W.eq_1, strW.eq_1, strW.eq_2, joinW.eq_1, joinW.eq_2, walkLW.eq_1, walkTW.eq_1, walkSW.eq_1, range1W.eq_1, zipW.eq_1, zipW.eq_2, tupG.eq_1, gsW.eq_1, gsW.eq_2, par2.eq_1, extW.eq_1, extW.eq_2, partW.eq_1, optW.eq_1, optW.eq_2, modW, fdivW, powW, ltW, leW, gtW, geW, isNone, isi_non, isi_bl, isi_int, isi_str, isi_tup, isi_lst, upperW, putW, appW, tupW, lstW, asB_bl, String.reduceBEq, beq_self_eq_true, Bool.or_true, Bool.true_or, Bool.or_false, Bool.false_or, Bool.and_true, Bool.true_and, Bool.and_false, Bool.false_and, Bool.not_true, Bool.not_false, forall_const, true_implies, true_and, and_true, false_implies, reduceCtorEq, List.length_cons, List.length_nil, forall_eq, imp_self, implies_true, if_true, if_false, Bool.false_eq_true, Bool.true_eq_false]
    simp only [bOver_3, W.bind_wp, W.ret_wp, W.want_wp, W.any_wp, s_ite, s_get0, s_get, s_then, s_end, s_run, s_calm, s_fail, s_start1, s_start2, s_start3, s_start4, s_start5, List.replicate, List.set_cons_zero, List.set_cons_succ, asB_bl, asS_str, Nat.reduceSub, Nat.reduceAdd, addW.eq_1, addW.eq_2, addW.eq_3, addW.eq_4, addW.eq_5, subW.eq_1, subW.eq_2, mulW.eq_1, mulW.eq_2, mulW.eq_3, intOp.eq_1, negW.eq_1, ordW.eq_1, ordW.eq_2, isW.eq_1, isntW.eq_1, ixW.eq_1, ixW.eq_2, ixW.eq_3, slW.eq_1, slW.eq_2, slW.eq_3, revTW.eq_1, revLW.eq_1, lenW.eq_1, lenW.eq_2, lenW.eq_3, tupleW.eq_1, tupleW.eq_2, listW.eq_1, listW.eq_2, min2W.eq_1, max2W.eq_1, strW.eq_1, strW.eq_2, joinW.eq_1, joinW.eq_2, walkLW.eq_1, walkTW.eq_1, walkSW.eq_1, range1W.eq_1, zipW.eq_1, zipW.eq_2, tupG.eq_1, gsW.eq_1, gsW.eq_2, par2.eq_1, extW.eq_1, extW.eq_2, partW.eq_1, optW.eq_1, optW.eq_2, modW, fdivW, powW, ltW, leW, gtW, geW, isNone, isi_non, isi_bl, isi_int, isi_str, isi_tup, isi_lst, upperW, putW, appW, tupW, lstW, asB_bl, String.reduceBEq, beq_self_eq_true, Bool.or_true, Bool.true_or, Bool.or_false, Bool.false_or, Bool.and_true, Bool.true_and, Bool.and_false, Bool.false_and, Bool.not_true, Bool.not_false, forall_const, true_implies, true_and, and_true, false_implies, reduceCtorEq, List.length_cons, List.length_nil, forall_eq, imp_self, implies_true, if_true, if_false, Bool.false_eq_true, Bool.true_eq_false]
    refine (sums _ none none _ _ _).go ?_
    rw [sumW_part]
    simp only [bOver_2, W.bind_wp, W.ret_wp, W.want_wp, W.any_wp, s_ite, s_get0, s_get, s_then, s_end, s_run, s_calm, s_fail, s_start1, s_start2, s_start3, s_start4, s_start5, List.replicate, List.set_cons_zero, List.set_cons_succ, asB_bl, asS_str, Nat.reduceSub, Nat.reduceAdd, addW.eq_1, addW.eq_2, addW.eq_3, addW.eq_4, addW.eq_5, subW.eq_1, subW.eq_2, mulW.eq_1, mulW.eq_2, mulW.eq_3, intOp.eq_1, negW.eq_1, ordW.eq_1, ordW.eq_2, isW.eq_1, isntW.eq_1, ixW.eq_1, ixW.eq_2, ixW.eq_3, slW.eq_1, slW.eq_2, slW.eq_3, revTW.eq_1, revLW.eq_1, lenW.eq_1, lenW.eq_2, lenW.eq_3, tupleW.eq_1, tupleW.eq_2, listW.eq_1, listW.eq_2, min2W.eq_1, max2W.eq_1, strW.eq_1, strW.eq_2, joinW.eq_1, joinW.eq_2, walkLW.eq_1, walkTW.eq_1, walkSW.eq_1, range1W.eq_1, zipW.eq_1, zipW.eq_2, tupG.eq_1, gsW.eq_1, gsW.eq_2, par2.eq_1, extW.eq_1, extW.eq_2, partW.eq_1, optW.eq_1, optW.eq_2, modW, fdivW, powW, ltW, leW, gtW, geW, isNone, isi_non, isi_bl, isi_int, isi_str, isi_tup, isi_lst, upperW, putW, appW, tupW, lstW, asB_bl, String.reduceBEq, beq_self_eq_true, Bool.or_true, Bool.true_or, Bool.or_false, Bool.false_or, Bool.and_true, Bool.true_and, Bool.and_false, Bool.false_and, Bool.not_true, Bool.not_false, forall_const, true_implies, true_and, and_true, false_implies, reduceCtorEq, List.length_cons, List.length_nil, forall_eq, imp_self, implies_true, if_true, if_false, Bool.false_eq_true, Bool.true_eq_false]
    have e := aboveR_snoc (M := sumR B) hr
    rw [cnt_sumR] at e
    have la : (aboveR ((sumR A).take i) (sumR B)).length ≤ 900 := Nat.le_trans (aboveR_len _ _) (Nat.le_trans (List.length_take_le' _ _) hs)
    refine ⟨fun h => ?_, fun h => ?_⟩
    · have h := of_decide_eq_true h
      simp only [bOver_1, W.bind_wp, W.ret_wp, W.want_wp, W.any_wp, s_ite, s_get0, s_get, s_then, s_end, s_run, s_calm, s_fail, s_start1, s_start2, s_start3, s_start4, s_start5, List.replicate, List.set_cons_zero, List.set_cons_succ, asB_bl, asS_str, Nat.reduceSub, Nat.reduceAdd, addW.eq_1, addW.eq_2, addW.eq_3, addW.eq_4, addW.eq_5, subW.eq_1, subW.eq_2, mulW.eq_1, mulW.eq_2, mulW.eq_3, intOp.eq_1, negW.eq_1, ordW.eq_1, ordW.eq_2, isW.eq_1, isntW.eq_1, ixW.eq_1, ixW.eq_2, ixW.eq_3, slW.eq_1, slW.eq_2, slW.eq_3, revTW.eq_1, revLW.eq_1, lenW.eq_1, lenW.eq_2, lenW.eq_3, tupleW.eq_1, tupleW.eq_2, listW.eq_1, listW.eq_2, min2W.eq_1, max2W.eq_1, strW.eq_1, strW.eq_2, joinW.eq_1, joinW.eq_2, walkLW.eq_1, walkTW.eq_1, walkSW.eq_1, range1W.eq_1, zipW.eq_1, zipW.eq_2, tupG.eq_1, gsW.eq_1, gsW.eq_2, par2.eq_1, extW.eq_1, extW.eq_2, partW.eq_1, optW.eq_1, optW.eq_2, modW, fdivW, powW, ltW, leW, gtW, geW, isNone, isi_non, isi_bl, isi_int, isi_str, isi_tup, isi_lst, upperW, putW, appW, tupW, lstW, asB_bl, String.reduceBEq, beq_self_eq_true, Bool.or_true, Bool.true_or, Bool.or_false, Bool.false_or, Bool.and_true, Bool.true_and, Bool.and_false, Bool.false_and, Bool.not_true, Bool.not_false, forall_const, true_implies, true_and, and_true, false_implies, reduceCtorEq, List.length_cons, List.length_nil, forall_eq, imp_self, implies_true, if_true, if_false, Bool.false_eq_true, Bool.true_eq_false]
      rw [if_pos h] at e
      rw [e, List.map_append]
      exact ⟨by decide, by rw [List.length_map]; exact smallT (by omega), _, _, _, _, _, rfl⟩
    · have h := of_decide_eq_false h
      rw [if_neg h, List.append_nil] at e
      rw [e]
      exact ⟨_, _, _, _, _, rfl⟩
  · obtain ⟨y3, y4, y5, y6, y7, rfl⟩ := hp
    rw [List.length_map, List.take_length]
    exact q
/-! ### parts of the rows, about as many -/
theorem near_wp {fs ss : List Str} {L : List PRow} {Q : D → Prop} {E : Ex → Prop} (h : LR fs ss 8 L) (q : ∀ N, LR fs ss 8 N → Q (rowsT N)) : (fNear [.tok 0, rowsT L]).wp Q E := by
  have hl := h.len
  refine ⟨rfl, ?_⟩
  show (endW (bNear (startE 7 [.tok 0, rowsT L]))).wp Q E
  have hs : (sumR L).length ≤ 8 := Nat.le_trans (sumR_len L) hl
  simp only [bNear, W.bind_wp, W.ret_wp, W.want_wp, W.any_wp, s_ite, s_get0, s_get, s_then, s_end, s_run, s_calm, s_fail, s_start1, s_start2, s_start3, s_start4, s_start5, List.replicate, List.set_cons_zero, List.set_cons_succ, asB_bl, asS_str, Nat.reduceSub, Nat.reduceAdd, addW.eq_1, addW.eq_2, addW.eq_3, addW.eq_4, addW.eq_5, subW.eq_1, subW.eq_2, mulW.eq_1, mulW.eq_2, mulW.eq_3, intOp.eq_1, negW.eq_1, ordW.eq_1, ordW.eq_2, isW.eq_1, isntW.eq_1, ixW.eq_1, ixW.eq_2, ixW.eq_3, slW.eq_1, slW.eq_2, slW.eq_3, revTW.eq_1, revLW.eq_1, lenW.eq_1, lenW.eq_2, lenW.eq_3, tupleW.eq_1, tupleW.eq_2, listW.eq_1, listW.eq_2, min2W.eq_1, max2W.eq_1, strW.eq_1, strW.eq_2, joinW.eq_1, joinW.eq_2, walkLW.eq_1, walkTW.eq_1, walkSW.eq_1, range1W.eq_1, zipW.eq_1, zipW.eq_2, tupG.eq_1, gsW.eq_1, gsW.eq_2, par2.eq_1, extW.eq_1, extW.eq_2, partW.eq_1, optW.eq_1, optW.eq_2, modW, fdivW, powW, ltW, leW, gtW, geW, isNone, isi_non, isi_bl, isi_int, isi_str, isi_tup, isi_lst, upperW, putW, appW, tupW, lstW, asB_bl, String.reduceBEq, beq_self_eq_true, Bool.or_true, Bool.true_or, Bool.or_false, Bool.false_or, Bool.and_true, Bool.true_and, Bool.and_false, Bool.false_and, Bool.not_true, Bool.not_false, forall_const, true_implies, true_and, and_true, false_implies, reduceCtorEq, List.length_cons, List.length_nil, forall_eq, imp_self, implies_true, if_true, if_false, Bool.false_eq_true, Bool.true_eq_false]
  refine ⟨by decide, by decide, ?_⟩
  simp only [bNear_4, W.bind_wp, W.ret_wp, W.want_wp, W.any_wp, s_ite, s_get0, s_get, s_then, s_end, s_run, s_calm, s_fail, s_start1, s_start2, s_start3, s_start4, s_start5, List.replicate, List.set_cons_zero, List.set_cons_succ, asB_bl, asS_str, Nat.reduceSub, Nat.reduceAdd, addW.eq_1, addW.eq_2, addW.eq_3, addW.eq_4, addW.eq_5, subW.eq_1, subW.eq_2, mulW.eq_1, mulW.eq_2, mulW.eq_3, intOp.eq_1, negW.eq_1, ordW.eq_1, ordW.eq_2, isW.eq_1, isntW.eq_1, ixW.eq_1, ixW.eq_2, ixW.eq_3, slW.eq_1, slW.eq_2, slW.eq_3, revTW.eq_1, revLW.eq_1, lenW.eq_1, lenW.eq_2, lenW.eq_3, tupleW.eq_1, tupleW.eq_2, listW.eq_1, listW.eq_2, min2W.eq_1, max2W.eq_1, strW.eq_1, strW.eq_2, joinW.eq_1, joinW.eq_2, walkLW.eq_1, walkTW.eq_1, walkSW.eq_1, range1W.eq_1, zipW.eq_1, zipW.eq_2, tupG.eq_1, gsW.eq_1, gsW.eq_2, par2.eq_1, extW.eq_1, extW.eq_2, partW.eq_1, optW.eq_1, optW.eq_2, modW, fdivW, powW, ltW, leW, gtW, geW, isNone, isi_non, isi_bl, isi_int, isi_str, isi_tup, isi_lst, upperW, putW, appW, tupW, lstW, asB_bl, String.reduceBEq, beq_self_eq_true, Bool.or_true, Bool.true_or, Bool.or_false, Bool.false_or, Bool.and_true, Bool.true_and, Bool.and_false, Bool.false_and, Bool.not_true, Bool.not_false, forall_const, true_implies, true_and, and_true, false_implies, reduceCtorEq, List.length_cons, List.length_nil, forall_eq, imp_self, implies_true, if_true, if_false, Bool.false_eq_true, Bool.true_eq_false]
  refine (summed_ret L (by omega)).go ?_
  simp only [rowsT, W.bind_wp, W.ret_wp, W.want_wp, W.any_wp, s_ite, s_get0, s_get, s_then, s_end, s_run, s_calm, s_fail, s_start1, s_start2, s_start3, s_start4, s_start5, List.replicate, List.set_cons_zero, List.set_cons_succ, asB_bl, asS_str, Nat.reduceSub, Nat.reduceAdd, addW.eq_1, addW.eq_2, addW.eq_3, addW.eq_4, addW.eq_5, subW.eq_1, subW.eq_2, mulW.eq_1, mulW.eq_2, mulW.eq_3, intOp.eq_1, negW.eq_1, ordW.eq_1, ordW.eq_2, isW.eq_1, isntW.eq_1, ixW.eq_1, ixW.eq_2, ixW.eq_3, slW.eq_1, slW.eq_2, slW.eq_3, revTW.eq_1, revLW.eq_1, lenW.eq_1, lenW.eq_2, lenW.eq_3, tupleW.eq_1, tupleW.eq_2, listW.eq_1, listW.eq_2, min2W.eq_1, max2W.eq_1, strW.eq_1, strW.eq_2, joinW.eq_1, joinW.eq_2, walkLW.eq_1, walkTW.eq_1, walkSW.eq_1, range1W.eq_1, zipW.eq_1, zipW.eq_2, tupG.eq_1, gsW.eq_1, gsW.eq_2, par2.eq_1, extW.eq_1, extW.eq_2, partW.eq_1, optW.eq_1, optW.eq_2, modW, fdivW, powW, ltW, leW, gtW, geW, isNone, isi_non, isi_bl, isi_int, isi_str, isi_tup, isi_lst, upperW, putW, appW, tupW, lstW, asB_bl, String.reduceBEq, beq_self_eq_true, Bool.or_true, Bool.true_or, Bool.or_false, Bool.false_or, Bool.and_true, Bool.true_and, Bool.and_false, Bool.false_and, Bool.not_true, Bool.not_false, forall_const, true_implies, true_and, and_true, false_implies, reduceCtorEq, List.length_cons, List.length_nil, forall_eq, imp_self, implies_true, if_true, if_false, Bool.false_eq_true, Bool.true_eq_false]
  refine forW_wp0 (fun i env => ∃ (N : List PRow) (y3 y4 y5 y6 : Option D), env = [some (.tok 0), some (rowsT L), some (.lst (N.map rowT)), y3, y4, y5, y6] ∧ LR fs ss i N) ⟨[], _, _, _, _, rfl, Nat.le_refl _, fun _ h => (nomatch h)⟩ (fun i d env hd hp => ?_) (fun env hp => ?_)
  · obtain ⟨N, y3, y4, y5, y6, rfl, hN⟩ := hp
    rw [List.getElem?_map] at hd
    obtain ⟨r, hr, rfl⟩ := Option.map_eq_some_iff.mp hd
    have hi : i < (sumR L).length := (List.getElem?_eq_some_iff.mp hr).1
    obtain ⟨r0, hr0, ek⟩ := sumR_keyIn (List.mem_of_getElem? hr)
    obtain ⟨m1, m2, _, _⟩ := h.each r0 hr0
    have f1 : r.1 ∈ fs := by
      have : r.1 = r0.1 := congrArg (fun k : PKey => k.1) ek
      rw [this]
      exact m1
    have f2 : r.2.1 ∈ ss := by
      have : r.2.1 = r0.2.1 := congrArg (fun k : PKey => k.2) ek
      rw [this]
      exact m2
    simp only [rowT, W.bind_wp, W.ret_wp, W.want_wp, W.any_wp, s_ite, s_get0, s_get, s_then, s_end, s_run, s_calm, s_fail, s_start1, s_start2, s_start3, s_start4, s_start5, List.replicate, List.set_cons_zero, List.set_cons_succ, asB_bl, asS_str, Nat.reduceSub, Nat.reduceAdd, addW.eq_1, addW.eq_2, addW.eq_3, addW.eq_4, addW.eq_5, subW.eq_1, subW.eq_2, mulW.eq_1, mulW.eq_2, mulW.eq_3, intOp.eq_1, negW.eq_1, ordW.eq_1, ordW.eq_2, isW.eq_1, isntW.eq_1, ixW.eq_1, ixW.eq_2, ixW.eq_3, slW.eq_1, slW.eq_2, slW.eq_3, revTW.eq_1, revLW.eq_1, lenW.eq_1, lenW.eq_2, lenW.eq_3, tupleW.eq_1, tupleW.eq_2, listW.eq_1, listW.eq_2, min2W.eq_1, max2W.eq_1, strW.eq_1, strW.eq_2, joinW.eq_1, joinW.eq_2, walkLW.eq_1, walkTW.eq_1, walkSW.eq_1, range1W.eq_1, zipW.eq_1, zipW.eq_2, tupG.eq_1, gsW.eq_1, gsW.eq_2, par2.eq_1, extW.eq_1, extW.eq_2, partW.eq_1, optW.eq_1, optW.eq_2, modW, fdivW, powW, ltW, leW, gtW, geW, isNone, isi_non, isi_bl, isi_int, isi_str, isi_tup, isi_lst, upperW, putW, appW, tupW, lstW, asB_bl, String.reduceBEq, beq_self_eq_true, Bool.or_true, Bool.true_or, Bool.or_false, Bool.false_or, Bool.and_true, Bool.true_and, Bool.and_false, Bool.false_and, Bool.not_true, Bool.not_false, forall_const, true_implies, true_and, and_true, false_implies, reduceCtorEq, List.length_cons, List.length_nil, forall_eq, imp_self, implies_true, if_true, if_false, Bool.false_eq_true, Bool.true_eq_false]
    simp only [bNear_3, W.bind_wp, W.ret_wp, W.want_wp, W.any_wp, s_ite, s_get0, s_get, s_then, s_end, s_run, s_calm, s_fail, s_start1, s_start2, s_start3, s_start4, s_start5, List.replicate, List.set_cons_zero, List.set_cons_succ, asB_bl, asS_str, Nat.reduceSub, Nat.reduceAdd, addW.eq_1, addW.eq_2, addW.eq_3, addW.eq_4, addW.eq_5, subW.eq_1, subW.eq_2, mulW.eq_1, mulW.eq_2, mulW.eq_3, intOp.eq_1, negW.eq_1, ordW.eq_1, ordW.eq_2, isW.eq_1, isntW.eq_1, ixW.eq_1, ixW.eq_2, ixW.eq_3, slW.eq_1, slW.eq_2, slW.eq_3, revTW.eq_1, revLW.eq_1, lenW.eq_1, lenW.eq_2, lenW.eq_3, tupleW.eq_1, tupleW.eq_2, listW.eq_1, listW.eq_2, min2W.eq_1, max2W.eq_1, strW.eq_1, strW.eq_2, joinW.eq_1, joinW.eq_2, walkLW.eq_1, walkTW.eq_1, walkSW.eq_1, range1W.eq_1, zipW.eq_1, zipW.eq_2, tupG.eq_1, gsW.eq_1, gsW.eq_2, par2.eq_1, extW.eq_1, extW.eq_2, partW.eq_1, optW.eq_1, optW.eq_2, modW, fdivW, powW, ltW, leW, gtW, geW, isNone, isi_non, isi_bl, isi_int, isi_str, isi_tup, isi_lst, upperW, putW, appW, tupW, lstW, asB_bl, String.reduceBEq, beq_self_eq_true, Bool.or_true, Bool.true_or, Bool.or_false, Bool.false_or, Bool.and_true, Bool.true_and, Bool.and_false, Bool.false_and, Bool.not_true, Bool.not_false, forall_const, true_implies, true_and, and_true, false_implies, reduceCtorEq, List.length_cons, List.length_nil, forall_eq, imp_self, implies_true, if_true, if_false, Bool.false_eq_true, Bool.true_eq_false]
    refine ⟨by decide, draw_wp (by decide) (by decide) fun x x0 x1 => ?_⟩
    have ix : ∃ y : Int, ixW (.lst [.int 0, .int 0, .int (-1), .int 1]) (.int x) = W.ret (.int y) := by
      have : x = 0 ∨ x = 1 ∨ x = 2 ∨ x = 3 := by omega
      rcases this with rfl | rfl | rfl | rfl
      · exact ⟨0, rfl⟩
      · exact ⟨0, rfl⟩
      · exact ⟨-1, rfl⟩
      · exact ⟨1, rfl⟩
    obtain ⟨y, ey⟩ := ix
    have stay : LR fs ss (i + 1) N := ⟨by have := hN.len; omega, hN.each⟩
    rw [ey]
    simp only [W.bind_wp, W.ret_wp, W.want_wp, W.any_wp, s_ite, s_get0, s_get, s_then, s_end, s_run, s_calm, s_fail, s_start1, s_start2, s_start3, s_start4, s_start5, List.replicate, List.set_cons_zero, List.set_cons_succ, asB_bl, asS_str, Nat.reduceSub, Nat.reduceAdd, addW.eq_1, addW.eq_2, addW.eq_3, addW.eq_4, addW.eq_5, subW.eq_1, subW.eq_2, mulW.eq_1, mulW.eq_2, mulW.eq_3, intOp.eq_1, negW.eq_1, ordW.eq_1, ordW.eq_2, isW.eq_1, isntW.eq_1, ixW.eq_1, ixW.eq_2, ixW.eq_3, slW.eq_1, slW.eq_2, slW.eq_3, revTW.eq_1, revLW.eq_1, lenW.eq_1, lenW.eq_2, lenW.eq_3, tupleW.eq_1, tupleW.eq_2, listW.eq_1, listW.eq_2, min2W.eq_1, max2W.eq_1, strW.eq_1, strW.eq_2, joinW.eq_1, joinW.eq_2, walkLW.eq_1, walkTW.eq_1, walkSW.eq_1, range1W.eq_1, zipW.eq_1, zipW.eq_2, tupG.eq_1, gsW.eq_1, gsW.eq_2, par2.eq_1, extW.eq_1, extW.eq_2, partW.eq_1, optW.eq_1, optW.eq_2, modW, fdivW, powW, ltW, leW, gtW, geW, isNone, isi_non, isi_bl, isi_int, isi_str, isi_tup, isi_lst, upperW, putW, appW, tupW, lstW, asB_bl, String.reduceBEq, beq_self_eq_true, Bool.or_true, Bool.true_or, Bool.or_false, Bool.false_or, Bool.and_true, Bool.true_and, Bool.and_false, Bool.false_and, Bool.not_true, Bool.not_false, forall_const, true_implies, true_and, and_true, false_implies, reduceCtorEq, List.length_cons, List.length_nil, forall_eq, imp_self, implies_true, if_true, if_false, Bool.false_eq_true, Bool.true_eq_false]
    simp only [bNear_2, W.bind_wp, W.ret_wp, W.want_wp, W.any_wp, s_ite, s_get0, s_get, s_then, s_end, s_run, s_calm, s_fail, s_start1, s_start2, s_start3, s_start4, s_start5, List.replicate, List.set_cons_zero, List.set_cons_succ, asB_bl, asS_str, Nat.reduceSub, Nat.reduceAdd, addW.eq_1, addW.eq_2, addW.eq_3, addW.eq_4, addW.eq_5, subW.eq_1, subW.eq_2, mulW.eq_1, mulW.eq_2, mulW.eq_3, intOp.eq_1, negW.eq_1, ordW.eq_1, ordW.eq_2, isW.eq_1, isntW.eq_1, ixW.eq_1, ixW.eq_2, ixW.eq_3, slW.eq_1, slW.eq_2, slW.eq_3, revTW.eq_1, revLW.eq_1, lenW.eq_1, lenW.eq_2, lenW.eq_3, tupleW.eq_1, tupleW.eq_2, listW.eq_1, listW.eq_2, min2W.eq_1, max2W.eq_1, strW.eq_1, strW.eq_2, joinW.eq_1, joinW.eq_2, walkLW.eq_1, walkTW.eq_1, walkSW.eq_1, range1W.eq_1, zipW.eq_1, zipW.eq_2, tupG.eq_1, gsW.eq_1, gsW.eq_2, par2.eq_1, extW.eq_1, extW.eq_2, partW.eq_1, optW.eq_1, optW.eq_2, modW, fdivW, powW, ltW, leW, gtW, geW, isNone, isi_non, isi_bl, isi_int, isi_str, isi_tup, isi_lst, upperW, putW, appW, tupW, lstW, asB_bl, String.reduceBEq, beq_self_eq_true, Bool.or_true, Bool.true_or, Bool.or_false, Bool.false_or, Bool.and_true, Bool.true_and, Bool.and_false, Bool.false_and, Bool.not_true, Bool.not_false, forall_const, true_implies, true_and, and_true, false_implies, reduceCtorEq, List.length_cons, List.length_nil, forall_eq, imp_self, implies_true, if_true, if_false, Bool.false_eq_true, Bool.true_eq_false]
    refine ⟨fun h1 => ?_, fun h1 => ⟨N, _, _, _, _, rfl, stay⟩⟩
    have h1 := of_decide_eq_true h1
    refine draw_wp (by decide) (by decide) fun z z0 z1 => ?_
    simp only [W.bind_wp, W.ret_wp, W.want_wp, W.any_wp, s_ite, s_get0, s_get, s_then, s_end, s_run, s_calm, s_fail, s_start1, s_start2, s_start3, s_start4, s_start5, List.replicate, List.set_cons_zero, List.set_cons_succ, asB_bl, asS_str, Nat.reduceSub, Nat.reduceAdd, addW.eq_1, addW.eq_2, addW.eq_3, addW.eq_4, addW.eq_5, subW.eq_1, subW.eq_2, mulW.eq_1, mulW.eq_2, mulW.eq_3, intOp.eq_1, negW.eq_1, ordW.eq_1, ordW.eq_2, isW.eq_1, isntW.eq_1, ixW.eq_1, ixW.eq_2, ixW.eq_3, slW.eq_1, slW.eq_2, slW.eq_3, revTW.eq_1, revLW.eq_1, lenW.eq_1, lenW.eq_2, lenW.eq_3, tupleW.eq_1, tupleW.eq_2, listW.eq_1, listW.eq_2, min2W.eq_1, max2W.eq_1, strW.eq_1, strW.eq_2, joinW.eq_1, joinW.eq_2, walkLW.eq_1, walkTW.eq_1, walkSW.eq_1, range1W.eq_1, zipW.eq_1, zipW.eq_2, tupG.eq_1, gsW.eq_1, gsW.eq_2, par2.eq_1, extW.eq_1, extW.eq_2, partW.eq_1, optW.eq_1, optW.eq_2, modW, fdivW, powW, ltW, leW, gtW, geW, isNone, isi_non, isi_bl, isi_int, isi_str, isi_tup, isi_lst, upperW, putW, appW, tupW, lstW, asB_bl, String.reduceBEq, beq_self_eq_true, Bool.or_true, Bool.true_or, Bool.or_false, Bool.false_or, Bool.and_true, Bool.true_and, Bool.and_false, Bool.false_and, Bool.not_true, Bool.not_false, forall_const, true_implies, true_and, and_true, false_implies, reduceCtorEq, List.length_cons, List.length_nil, forall_eq, imp_self, implies_true, if_true, if_false, Bool.false_eq_true, Bool.true_eq_false]
    refine ⟨fun h2 => ?_, fun h2 => ⟨N, _, _, _, _, rfl, stay⟩⟩
    simp only [bNear_1, W.bind_wp, W.ret_wp, W.want_wp, W.any_wp, s_ite, s_get0, s_get, s_then, s_end, s_run, s_calm, s_fail, s_start1, s_start2, s_start3, s_start4, s_start5, List.replicate, List.set_cons_zero, List.set_cons_succ, asB_bl, asS_str, Nat.reduceSub, Nat.reduceAdd, addW.eq_1, addW.eq_2, addW.eq_3, addW.eq_4, addW.eq_5, subW.eq_1, subW.eq_2, mulW.eq_1, mulW.eq_2, mulW.eq_3, intOp.eq_1, negW.eq_1, ordW.eq_1, ordW.eq_2, isW.eq_1, isntW.eq_1, ixW.eq_1, ixW.eq_2, ixW.eq_3, slW.eq_1, slW.eq_2, slW.eq_3, revTW.eq_1, revLW.eq_1, lenW.eq_1, lenW.eq_2, lenW.eq_3, tupleW.eq_1, tupleW.eq_2, listW.eq_1, listW.eq_2, min2W.eq_1, max2W.eq_1, strW.eq_1, strW.eq_2, joinW.eq_1, joinW.eq_2, walkLW.eq_1, walkTW.eq_1, walkSW.eq_1, range1W.eq_1, zipW.eq_1, zipW.eq_2, tupG.eq_1, gsW.eq_1, gsW.eq_2, par2.eq_1, extW.eq_1, extW.eq_2, partW.eq_1, optW.eq_1, optW.eq_2, modW, fdivW, powW, ltW, leW, gtW, geW, isNone, isi_non, isi_bl, isi_int, isi_str, isi_tup, isi_lst, upperW, putW, appW, tupW, lstW, asB_bl, String.reduceBEq, beq_self_eq_true, Bool.or_true, Bool.true_or, Bool.or_false, Bool.false_or, Bool.and_true, Bool.true_and, Bool.and_false, Bool.false_and, Bool.not_true, Bool.not_false, forall_const, true_implies, true_and, and_true, false_implies, reduceCtorEq, List.length_cons, List.length_nil, forall_eq, imp_self, implies_true, if_true, if_false, Bool.false_eq_true, Bool.true_eq_false]
    have e9 : (10 : Int) ^ Int.toNat 9 = 1000000000 := by decide
    have hn := hN.len
    refine ⟨⟨by decide, by decide, by decide⟩, by decide, by rw [List.length_map]; exact smallT (by omega), N ++ [(r.1, r.2.1, min (10 ^ Int.toNat 9) (r.2.2 + y))], _, _, _, _, by rw [List.map_append]; rfl, by rw [List.length_append, List.length_singleton]; omega, fun w hw => ?_⟩
    rcases List.mem_append.mp hw with z | z
    · exact hN.each w z
    · rw [List.mem_singleton.mp z]
      refine ⟨f1, f2, ?_, ?_⟩
      · show 1 ≤ min ((10 : Int) ^ Int.toNat 9) (r.2.2 + y)
        omega
      · show min ((10 : Int) ^ Int.toNat 9) (r.2.2 + y) ≤ _
        omega
  · obtain ⟨N, y3, y4, y5, y6, rfl, hN⟩ := hp
    rw [List.length_map] at hN
    simp only [W.bind_wp, W.ret_wp, W.want_wp, W.any_wp, s_ite, s_get0, s_get, s_then, s_end, s_run, s_calm, s_fail, s_start1, s_start2, s_start3, s_start4, s_start5, List.replicate, List.set_cons_zero, List.set_cons_succ, asB_bl, asS_str, Nat.reduceSub, Nat.reduceAdd, addW.eq_1, addW.eq_2, addW.eq_3, addW.eq_4, addW.eq_5, subW.eq_1, subW.eq_2, mulW.eq_1, mulW.eq_2, mulW.eq_3, intOp.eq_1, negW.eq_1, ordW.eq_1, ordW.eq_2, isW.eq_1, isntW.eq_1, ixW.eq_1, ixW.eq_2, ixW.eq_3, slW.eq_1, slW.eq_2, slW.eq_3, revTW.eq_1, revLW.eq_1, lenW.eq_1, lenW.eq_2, lenW.eq_3, tupleW.eq_1, tupleW.eq_2, listW.eq_1, listW.eq_2, min2W.eq_1, max2W.eq_1, strW.eq_1, strW.eq_2, joinW.eq_1, joinW.eq_2, walkLW.eq_1, walkTW.eq_1, walkSW.eq_1, range1W.eq_1, zipW.eq_1, zipW.eq_2, tupG.eq_1, gsW.eq_1, gsW.eq_2, par2.eq_1, extW.eq_1, extW.eq_2, partW.eq_1, optW.eq_1, optW.eq_2, modW, fdivW, powW, ltW, leW, gtW, geW, isNone, isi_non, isi_bl, isi_int, isi_str, isi_tup, isi_lst, upperW, putW, appW, tupW, lstW, asB_bl, String.reduceBEq, beq_self_eq_true, Bool.or_true, Bool.true_or, Bool.or_false, Bool.false_or, Bool.and_true, Bool.true_and, Bool.and_false, Bool.false_and, Bool.not_true, Bool.not_false, forall_const, true_implies, true_and, and_true, false_implies, reduceCtorEq, List.length_cons, List.length_nil, forall_eq, imp_self, implies_true, if_true, if_false, Bool.false_eq_true, Bool.true_eq_false]
    exact q N ⟨by have := hN.len; omega, hN.each⟩
/-! ### what is left, or what lacks -/
def leftD (L M : List PRow) : D := if aboveR M L = [] then .tup [.str "left", rowsT (aboveR L M)] else .tup [.str "lacks", rowsT (aboveR M L)]
theorem rowsW_eq {L : List PRow} (h : L.length ≤ 900) : rowsW [heapD L] = W.ret (rowsT L) := by
  show (optW (heapOf (heapD L))).bind _ = _
  rw [heapOf_D, optW_some, W.ret_bind]
  exact W.want_bind h
theorem left_ret {L M : List PRow} {n : Nat} (h : Up n L) (g : Up n M) (hn : n ≤ 900) : Ret (fLeft [heapD L, heapD M]) (leftD L M) := by
  intro Q E q
  refine ⟨rfl, ?_⟩
  show (endW (bLeft (startE 4 [heapD L, heapD M]))).wp Q E
  have o1 : objW 0 (heapD L) = W.ret (heapD L) := objW_heap _
  have l1 : (aboveR L M).length ≤ 900 := by have := aboveR_len L M; have := h.len; omega
  have l2 : (aboveR M L).length ≤ 900 := by have := aboveR_len M L; have := g.len; omega
  simp only [bLeft, W.bind_wp, W.ret_wp, W.want_wp, W.any_wp, s_ite, s_get0, s_get, s_then, s_end, s_run, s_calm, s_fail, s_start1, s_start2, s_start3, s_start4, s_start5, List.replicate, List.set_cons_zero, List.set_cons_succ, asB_bl, asS_str, Nat.reduceSub, Nat.reduceAdd, addW.eq_1, addW.eq_2, addW.eq_3, addW.eq_4, addW.eq_5, subW.eq_1, subW.eq_2, mulW.eq_1, mulW.eq_2, mulW.eq_3, intOp.eq_1, negW.eq_1, ordW.eq_1, ordW.eq_2, isW.eq_1, isntW.eq_1, ixW.eq_1, ixW.eq_2, ixW.eq_3, slW.eq_1, slW.eq_2, slW.eq_3, revTW.eq_1, revLW.eq_1, lenW.eq_1, lenW.eq_2, lenW.eq_3, tupleW.eq_1, tupleW.eq_2, listW.eq_1, listW.eq_2, min2W.eq_1, max2W.eq_1, strW.eq_1, strW.eq_2, joinW.eq_1, joinW.eq_2, walkLW.eq_1, walkTW.eq_1, walkSW.eq_1, range1W.eq_1, zipW.eq_1, zipW.eq_2, tupG.eq_1, gsW.eq_1, gsW.eq_2, par2.eq_1, extW.eq_1, extW.eq_2, partW.eq_1, optW.eq_1, optW.eq_2, modW, fdivW, powW, ltW, leW, gtW, geW, isNone, isi_non, isi_bl, isi_int, isi_str, isi_tup, isi_lst, upperW, putW, appW, tupW, lstW, asB_bl, String.reduceBEq, beq_self_eq_true, Bool.or_true, Bool.true_or, Bool.or_false, Bool.false_or, Bool.and_true, Bool.true_and, Bool.and_false, Bool.false_and, Bool.not_true, Bool.not_false, forall_const, true_implies, true_and, and_true, false_implies, reduceCtorEq, List.length_cons, List.length_nil, forall_eq, imp_self, implies_true, if_true, if_false, Bool.false_eq_true, Bool.true_eq_false]
  refine ⟨by decide, ?_⟩
  simp only [bLeft_1, o1, W.bind_wp, W.ret_wp, W.want_wp, W.any_wp, s_ite, s_get0, s_get, s_then, s_end, s_run, s_calm, s_fail, s_start1, s_start2, s_start3, s_start4, s_start5, List.replicate, List.set_cons_zero, List.set_cons_succ, asB_bl, asS_str, Nat.reduceSub, Nat.reduceAdd, addW.eq_1, addW.eq_2, addW.eq_3, addW.eq_4, addW.eq_5, subW.eq_1, subW.eq_2, mulW.eq_1, mulW.eq_2, mulW.eq_3, intOp.eq_1, negW.eq_1, ordW.eq_1, ordW.eq_2, isW.eq_1, isntW.eq_1, ixW.eq_1, ixW.eq_2, ixW.eq_3, slW.eq_1, slW.eq_2, slW.eq_3, revTW.eq_1, revLW.eq_1, lenW.eq_1, lenW.eq_2, lenW.eq_3, tupleW.eq_1, tupleW.eq_2, listW.eq_1, listW.eq_2, min2W.eq_1, max2W.eq_1, strW.eq_1, strW.eq_2, joinW.eq_1, joinW.eq_2, walkLW.eq_1, walkTW.eq_1, walkSW.eq_1, range1W.eq_1, zipW.eq_1, zipW.eq_2, tupG.eq_1, gsW.eq_1, gsW.eq_2, par2.eq_1, extW.eq_1, extW.eq_2, partW.eq_1, optW.eq_1, optW.eq_2, modW, fdivW, powW, ltW, leW, gtW, geW, isNone, isi_non, isi_bl, isi_int, isi_str, isi_tup, isi_lst, upperW, putW, appW, tupW, lstW, asB_bl, String.reduceBEq, beq_self_eq_true, Bool.or_true, Bool.true_or, Bool.or_false, Bool.false_or, Bool.and_true, Bool.true_and, Bool.and_false, Bool.false_and, Bool.not_true, Bool.not_false, forall_const, true_implies, true_and, and_true, false_implies, reduceCtorEq, List.length_cons, List.length_nil, forall_eq, imp_self, implies_true, if_true, if_false, Bool.false_eq_true, Bool.true_eq_false]
  refine ⟨rfl, ?_⟩
  have le : lessW [heapD L, heapD M] = W.ite (decide (aboveR M L = [])) (W.ret (heapD (aboveR L M))) (W.raise ⟨1, [heapD (aboveR M L)]⟩) := by
    obtain ⟨b, o1, o2⟩ := h.two g
    show (optW (heapOf (heapD L))).bind _ = _
    rw [heapOf_D, optW_some, W.ret_bind, heapOf_D, optW_some, W.ret_bind, W.want_bind ⟨n, b, o1, o2, hn⟩]
    exact W.want_bind ⟨h.2, g.2⟩
  unfold leftD at q
  by_cases e : aboveR M L = []
  · rw [if_pos e] at q
    rw [le, decide_eq_true e]
    show ((objW 0 (heapD (aboveR L M))).bind fun h => (rowsW [h]).bind fun r => W.ret (D.tup [.str "left", r])).wp _ _
    rw [objW_heap, W.ret_bind, rowsW_eq l1, W.ret_bind]
    exact q
  · rw [if_neg e] at q
    rw [le, decide_eq_false e]
    show ((objW 0 (heapD (aboveR M L))).bind fun h => (rowsW [h]).bind fun r => W.ret (D.tup [.str "lacks", r])).wp _ _
    rw [objW_heap, W.ret_bind, rowsW_eq l2, W.ret_bind]
    exact q
end LP.K04
namespace LP.K04
open PySem PySem.Spec PyProof.Rows L2 PK LP RZ
open LP.K17 (rows_sz repr_rows plus_eq addW_rows)
theorem holds_eq {L M : List PRow} {n : Nat} (h : Up n L) (g : Up n M) (hn : n ≤ 900) : holdsW [heapD L, heapD M] = W.ret (.bl (decide (aboveR M L = []))) := by
  obtain ⟨b, o1, o2⟩ := h.two g
  show (optW (heapOf (heapD L))).bind _ = _
  rw [heapOf_D, optW_some, W.ret_bind, heapOf_D, optW_some, W.ret_bind]
  exact W.want_bind ⟨n, b, o1, o2, hn⟩
structure Lots (fs ss : List Str) (Ls : List (List PRow)) : Prop where
  len : Ls.length = 4
  each : ∀ L ∈ Ls, LR fs ss 8 L
theorem sum_up {fs ss : List Str} {L : List PRow} (fw : ∀ y ∈ fs, Word y) (sw : ∀ y ∈ ss, Word y) (h : LR fs ss 8 L) : Up 8 (sumR L) ∧ RowsOk 8 (10 ^ 11) (sumR L) := by
  have ok : RowsOk 8 1000000000 L := ⟨h.len, fun r hr => by
    obtain ⟨h1, h2, h3, h4⟩ := h.each r hr
    exact ⟨fw _ h1, sw _ h2, h3, h4⟩⟩
  exact ⟨Up.sum ok (by decide), (sumR_ok (by decide) ok).mono (Nat.le_refl _) (by decide)⟩
theorem above_ok {L M : List PRow} {n m : Nat} {b : Int} (h : RowsOk n b L) (g : Up m M) : RowsOk n b (aboveR L M) := by
  refine ⟨Nat.le_trans (aboveR_len L M) h.len, fun r hr => ?_⟩
  unfold aboveR at hr
  obtain ⟨q, hq, e⟩ := List.mem_filterMap.mp hr
  have ok := h.each q hq
  have nn := g.nn (PK.pk q)
  unfold above1 at e
  split at e
  · cases e
    exact ⟨ok.f, ok.s, by show 1 ≤ q.2.2 - _; omega, by show q.2.2 - _ ≤ b; have := ok.hi; omega⟩
  · cases e
theorem pair_sz {w : Str} {L : List PRow} (hw : w.length ≤ 8) (h : RowsOk 8 (10 ^ 30) L) : Sz 200 3 400100 (.tup [.str w, rowsT L]) := by
  have h1 : Sz 200 2 400000 (rowsT L) := rows_sz h (by decide) (by decide)
  have h3 : Sz 200 2 82 (.str w) := (Sz.str (dp := 0) (m := 200) (by omega)).mono (Nat.le_refl _) (Nat.zero_le _) (Nat.le_refl _)
  exact (Sz.tup (Szs.cons h3 (Szs.cons h1 (Szs.nil (n := 0))))).mono (Nat.le_refl _) (Nat.le_refl _) (by omega)
section
variable {fs ss : List Str} {E : Ex → Prop} {e0 e1 e2 e3 e7 e9 e10 e11 e12 e13 : Option D}
theorem l8_wp {Ls : List (List PRow)} {k j : Nat} {Q : Fl → Prop} (hk : k < 4) (hj : j < 4) (fw : ∀ y ∈ fs, Word y) (sw : ∀ y ∈ ss, Word y) (hL : Lots fs ss Ls)
    (q : ∀ y9 y10 y11, Q (.nx [e0, e1, e2, e3, some (.lst (Ls.map rowsT)), some (.int (0 + (k : Int))), some (.lst ((Ls.map sumR).map heapD)), e7, some (.int (0 + (j : Int))), y9, y10, y11, e12])) :
    (bLaw_8 [e0, e1, e2, e3, some (.lst (Ls.map rowsT)), some (.int (0 + (k : Int))), some (.lst ((Ls.map sumR).map heapD)), e7, some (.int (0 + (j : Int))), e9, e10, e11, e12]).wp Q E := by
  have lL := hL.len
  have hk' : k < Ls.length := by omega
  have hj' : j < Ls.length := by omega
  have a1 : ∀ {i : Nat} (h : i < Ls.length), atI (Ls.map rowsT) (0 + (i : Int)) = some (rowsT Ls[i]) := fun {i} h => by rw [Int.zero_add]; exact atI_nat (by rw [List.getElem?_map, List.getElem?_eq_getElem h]; rfl)
  have a2 : ∀ {i : Nat} (h : i < Ls.length), atI ((Ls.map sumR).map heapD) (0 + (i : Int)) = some (heapD (sumR Ls[i])) := fun {i} h => by rw [Int.zero_add]; exact atI_nat (by rw [List.getElem?_map, List.getElem?_map, List.getElem?_eq_getElem h]; rfl)
  have k1 := a1 hk'
  have k2 := a2 hk'
  have j1 := a1 hj'
  have j2 := a2 hj'
  have rk := hL.each _ (List.getElem_mem hk')
  have rj := hL.each _ (List.getElem_mem hj')
  generalize Ls[k] = A at k1 k2 rk
  generalize Ls[j] = B at j1 j2 rj
  obtain ⟨uA, oA⟩ := sum_up fw sw rk
  obtain ⟨uB, oB⟩ := sum_up fw sw rj
  have lA := uA.len
  have lB := uB.len
  have ab := rk.len
  have bb := rj.len
  simp only [bLaw_8, k2, j2, objW_heap, W.bind_wp, W.ret_wp, W.want_wp, W.any_wp, s_ite, s_get0, s_get, s_then, s_end, s_run, s_calm, s_fail, s_start1, s_start2, s_start3, s_start4, s_start5, List.replicate, List.set_cons_zero, List.set_cons_succ, asB_bl, asS_str, Nat.reduceSub, Nat.reduceAdd, addW.eq_1, addW.eq_2, addW.eq_3, addW.eq_4, addW.eq_5, subW.eq_1, subW.eq_2, mulW.eq_1, mulW.eq_2, mulW.eq_3, intOp.eq_1, negW.eq_1, ordW.eq_1, ordW.eq_2, isW.eq_1, isntW.eq_1, ixW.eq_1, ixW.eq_2, ixW.eq_3, slW.eq_1, slW.eq_2, slW.eq_3, revTW.eq_1, revLW.eq_1, lenW.eq_1, lenW.eq_2, lenW.eq_3, tupleW.eq_1, tupleW.eq_2, listW.eq_1, listW.eq_2, min2W.eq_1, max2W.eq_1, strW.eq_1, strW.eq_2, joinW.eq_1, joinW.eq_2, walkLW.eq_1, walkTW.eq_1, walkSW.eq_1, range1W.eq_1, zipW.eq_1, zipW.eq_2, tupG.eq_1, gsW.eq_1, gsW.eq_2, par2.eq_1, extW.eq_1, extW.eq_2, partW.eq_1, optW.eq_1, optW.eq_2, modW, fdivW, powW, ltW, leW, gtW, geW, isNone, isi_non, isi_bl, isi_int, isi_str, isi_tup, isi_lst, upperW, putW, appW, tupW, lstW, asB_bl, String.reduceBEq, beq_self_eq_true, Bool.or_true, Bool.true_or, Bool.or_false, Bool.false_or, Bool.and_true, Bool.true_and, Bool.and_false, Bool.false_and, Bool.not_true, Bool.not_false, forall_const, true_implies, true_and, and_true, false_implies, reduceCtorEq, List.length_cons, List.length_nil, forall_eq, imp_self, implies_true, if_true, if_false, Bool.false_eq_true, Bool.true_eq_false]
  rw [plus_eq (by omega)]
  simp only [W.bind_wp, W.ret_wp, W.want_wp, W.any_wp, s_ite, s_get0, s_get, s_then, s_end, s_run, s_calm, s_fail, s_start1, s_start2, s_start3, s_start4, s_start5, List.replicate, List.set_cons_zero, List.set_cons_succ, asB_bl, asS_str, Nat.reduceSub, Nat.reduceAdd, addW.eq_1, addW.eq_2, addW.eq_3, addW.eq_4, addW.eq_5, subW.eq_1, subW.eq_2, mulW.eq_1, mulW.eq_2, mulW.eq_3, intOp.eq_1, negW.eq_1, ordW.eq_1, ordW.eq_2, isW.eq_1, isntW.eq_1, ixW.eq_1, ixW.eq_2, ixW.eq_3, slW.eq_1, slW.eq_2, slW.eq_3, revTW.eq_1, revLW.eq_1, lenW.eq_1, lenW.eq_2, lenW.eq_3, tupleW.eq_1, tupleW.eq_2, listW.eq_1, listW.eq_2, min2W.eq_1, max2W.eq_1, strW.eq_1, strW.eq_2, joinW.eq_1, joinW.eq_2, walkLW.eq_1, walkTW.eq_1, walkSW.eq_1, range1W.eq_1, zipW.eq_1, zipW.eq_2, tupG.eq_1, gsW.eq_1, gsW.eq_2, par2.eq_1, extW.eq_1, extW.eq_2, partW.eq_1, optW.eq_1, optW.eq_2, modW, fdivW, powW, ltW, leW, gtW, geW, isNone, isi_non, isi_bl, isi_int, isi_str, isi_tup, isi_lst, upperW, putW, appW, tupW, lstW, asB_bl, String.reduceBEq, beq_self_eq_true, Bool.or_true, Bool.true_or, Bool.or_false, Bool.false_or, Bool.and_true, Bool.true_and, Bool.and_false, Bool.false_and, Bool.not_true, Bool.not_false, forall_const, true_implies, true_and, and_true, false_implies, reduceCtorEq, List.length_cons, List.length_nil, forall_eq, imp_self, implies_true, if_true, if_false, Bool.false_eq_true, Bool.true_eq_false]
  simp only [bLaw_7, k1, j1, objW_heap, W.bind_wp, W.ret_wp, W.want_wp, W.any_wp, s_ite, s_get0, s_get, s_then, s_end, s_run, s_calm, s_fail, s_start1, s_start2, s_start3, s_start4, s_start5, List.replicate, List.set_cons_zero, List.set_cons_succ, asB_bl, asS_str, Nat.reduceSub, Nat.reduceAdd, addW.eq_1, addW.eq_2, addW.eq_3, addW.eq_4, addW.eq_5, subW.eq_1, subW.eq_2, mulW.eq_1, mulW.eq_2, mulW.eq_3, intOp.eq_1, negW.eq_1, ordW.eq_1, ordW.eq_2, isW.eq_1, isntW.eq_1, ixW.eq_1, ixW.eq_2, ixW.eq_3, slW.eq_1, slW.eq_2, slW.eq_3, revTW.eq_1, revLW.eq_1, lenW.eq_1, lenW.eq_2, lenW.eq_3, tupleW.eq_1, tupleW.eq_2, listW.eq_1, listW.eq_2, min2W.eq_1, max2W.eq_1, strW.eq_1, strW.eq_2, joinW.eq_1, joinW.eq_2, walkLW.eq_1, walkTW.eq_1, walkSW.eq_1, range1W.eq_1, zipW.eq_1, zipW.eq_2, tupG.eq_1, gsW.eq_1, gsW.eq_2, par2.eq_1, extW.eq_1, extW.eq_2, partW.eq_1, optW.eq_1, optW.eq_2, modW, fdivW, powW, ltW, leW, gtW, geW, isNone, isi_non, isi_bl, isi_int, isi_str, isi_tup, isi_lst, upperW, putW, appW, tupW, lstW, asB_bl, String.reduceBEq, beq_self_eq_true, Bool.or_true, Bool.true_or, Bool.or_false, Bool.false_or, Bool.and_true, Bool.true_and, Bool.and_false, Bool.false_and, Bool.not_true, Bool.not_false, forall_const, true_implies, true_and, and_true, false_implies, reduceCtorEq, List.length_cons, List.length_nil, forall_eq, imp_self, implies_true, if_true, if_false, Bool.false_eq_true, Bool.true_eq_false]
  rw [rowsW_eq (by have := sumR_len (sumR A ++ sumR B); rw [List.length_append] at this; omega)]
  simp only [W.bind_wp, W.ret_wp, W.want_wp, W.any_wp, s_ite, s_get0, s_get, s_then, s_end, s_run, s_calm, s_fail, s_start1, s_start2, s_start3, s_start4, s_start5, List.replicate, List.set_cons_zero, List.set_cons_succ, asB_bl, asS_str, Nat.reduceSub, Nat.reduceAdd, addW.eq_1, addW.eq_2, addW.eq_3, addW.eq_4, addW.eq_5, subW.eq_1, subW.eq_2, mulW.eq_1, mulW.eq_2, mulW.eq_3, intOp.eq_1, negW.eq_1, ordW.eq_1, ordW.eq_2, isW.eq_1, isntW.eq_1, ixW.eq_1, ixW.eq_2, ixW.eq_3, slW.eq_1, slW.eq_2, slW.eq_3, revTW.eq_1, revLW.eq_1, lenW.eq_1, lenW.eq_2, lenW.eq_3, tupleW.eq_1, tupleW.eq_2, listW.eq_1, listW.eq_2, min2W.eq_1, max2W.eq_1, strW.eq_1, strW.eq_2, joinW.eq_1, joinW.eq_2, walkLW.eq_1, walkTW.eq_1, walkSW.eq_1, range1W.eq_1, zipW.eq_1, zipW.eq_2, tupG.eq_1, gsW.eq_1, gsW.eq_2, par2.eq_1, extW.eq_1, extW.eq_2, partW.eq_1, optW.eq_1, optW.eq_2, modW, fdivW, powW, ltW, leW, gtW, geW, isNone, isi_non, isi_bl, isi_int, isi_str, isi_tup, isi_lst, upperW, putW, appW, tupW, lstW, asB_bl, String.reduceBEq, beq_self_eq_true, Bool.or_true, Bool.true_or, Bool.or_false, Bool.false_or, Bool.and_true, Bool.true_and, Bool.and_false, Bool.false_and, Bool.not_true, Bool.not_false, forall_const, true_implies, true_and, and_true, false_implies, reduceCtorEq, List.length_cons, List.length_nil, forall_eq, imp_self, implies_true, if_true, if_false, Bool.false_eq_true, Bool.true_eq_false]
  have okS : RowsOk 16 (10 ^ 30) (sumR (sumR A ++ sumR B)) := (sumR_ok (n := 16) (b := 10 ^ 11) (by decide) ⟨by rw [List.length_append]; omega, fun r hr => (List.mem_append.mp hr).elim (oA.each r) (oB.each r)⟩).mono (Nat.le_refl _) (by decide)
  rw [repr_rows okS (by decide) (by decide), addW_rows (by omega)]
  simp only [W.bind_wp, W.ret_wp, W.want_wp, W.any_wp, s_ite, s_get0, s_get, s_then, s_end, s_run, s_calm, s_fail, s_start1, s_start2, s_start3, s_start4, s_start5, List.replicate, List.set_cons_zero, List.set_cons_succ, asB_bl, asS_str, Nat.reduceSub, Nat.reduceAdd, addW.eq_1, addW.eq_2, addW.eq_3, addW.eq_4, addW.eq_5, subW.eq_1, subW.eq_2, mulW.eq_1, mulW.eq_2, mulW.eq_3, intOp.eq_1, negW.eq_1, ordW.eq_1, ordW.eq_2, isW.eq_1, isntW.eq_1, ixW.eq_1, ixW.eq_2, ixW.eq_3, slW.eq_1, slW.eq_2, slW.eq_3, revTW.eq_1, revLW.eq_1, lenW.eq_1, lenW.eq_2, lenW.eq_3, tupleW.eq_1, tupleW.eq_2, listW.eq_1, listW.eq_2, min2W.eq_1, max2W.eq_1, strW.eq_1, strW.eq_2, joinW.eq_1, joinW.eq_2, walkLW.eq_1, walkTW.eq_1, walkSW.eq_1, range1W.eq_1, zipW.eq_1, zipW.eq_2, tupG.eq_1, gsW.eq_1, gsW.eq_2, par2.eq_1, extW.eq_1, extW.eq_2, partW.eq_1, optW.eq_1, optW.eq_2, modW, fdivW, powW, ltW, leW, gtW, geW, isNone, isi_non, isi_bl, isi_int, isi_str, isi_tup, isi_lst, upperW, putW, appW, tupW, lstW, asB_bl, String.reduceBEq, beq_self_eq_true, Bool.or_true, Bool.true_or, Bool.or_false, Bool.false_or, Bool.and_true, Bool.true_and, Bool.and_false, Bool.false_and, Bool.not_true, Bool.not_false, forall_const, true_implies, true_and, and_true, false_implies, reduceCtorEq, List.length_cons, List.length_nil, forall_eq, imp_self, implies_true, if_true, if_false, Bool.false_eq_true, Bool.true_eq_false]
  refine (summed_ret (A ++ B) (by rw [List.length_append]; omega)).go ?_
  have eS : sumR (A ++ B) = sumR (sumR A ++ sumR B) := sumR_congr (fun x => by
    rw [List.map_append, List.map_append, List.mem_append, List.mem_append, sumR_keys, sumR_keys, mem_skeys, mem_skeys]) (fun x => by rw [cnt_app, cnt_app, cnt_sumR, cnt_sumR])
  rw [eS, repr_rows okS (by decide) (by decide)]
  simp only [rp_same, W.bind_wp, W.ret_wp, W.want_wp, W.any_wp, s_ite, s_get0, s_get, s_then, s_end, s_run, s_calm, s_fail, s_start1, s_start2, s_start3, s_start4, s_start5, List.replicate, List.set_cons_zero, List.set_cons_succ, asB_bl, asS_str, Nat.reduceSub, Nat.reduceAdd, addW.eq_1, addW.eq_2, addW.eq_3, addW.eq_4, addW.eq_5, subW.eq_1, subW.eq_2, mulW.eq_1, mulW.eq_2, mulW.eq_3, intOp.eq_1, negW.eq_1, ordW.eq_1, ordW.eq_2, isW.eq_1, isntW.eq_1, ixW.eq_1, ixW.eq_2, ixW.eq_3, slW.eq_1, slW.eq_2, slW.eq_3, revTW.eq_1, revLW.eq_1, lenW.eq_1, lenW.eq_2, lenW.eq_3, tupleW.eq_1, tupleW.eq_2, listW.eq_1, listW.eq_2, min2W.eq_1, max2W.eq_1, strW.eq_1, strW.eq_2, joinW.eq_1, joinW.eq_2, walkLW.eq_1, walkTW.eq_1, walkSW.eq_1, range1W.eq_1, zipW.eq_1, zipW.eq_2, tupG.eq_1, gsW.eq_1, gsW.eq_2, par2.eq_1, extW.eq_1, extW.eq_2, partW.eq_1, optW.eq_1, optW.eq_2, modW, fdivW, powW, ltW, leW, gtW, geW, isNone, isi_non, isi_bl, isi_int, isi_str, isi_tup, isi_lst, upperW, putW, appW, tupW, lstW, asB_bl, String.reduceBEq, beq_self_eq_true, Bool.or_true, Bool.true_or, Bool.or_false, Bool.false_or, Bool.and_true, Bool.true_and, Bool.and_false, Bool.false_and, Bool.not_true, Bool.not_false, forall_const, true_implies, true_and, and_true, false_implies, reduceCtorEq, List.length_cons, List.length_nil, forall_eq, imp_self, implies_true, if_true, if_false, Bool.false_eq_true, Bool.true_eq_false]
  simp only [bLaw_6, k1, j1, W.bind_wp, W.ret_wp, W.want_wp, W.any_wp, s_ite, s_get0, s_get, s_then, s_end, s_run, s_calm, s_fail, s_start1, s_start2, s_start3, s_start4, s_start5, List.replicate, List.set_cons_zero, List.set_cons_succ, asB_bl, asS_str, Nat.reduceSub, Nat.reduceAdd, addW.eq_1, addW.eq_2, addW.eq_3, addW.eq_4, addW.eq_5, subW.eq_1, subW.eq_2, mulW.eq_1, mulW.eq_2, mulW.eq_3, intOp.eq_1, negW.eq_1, ordW.eq_1, ordW.eq_2, isW.eq_1, isntW.eq_1, ixW.eq_1, ixW.eq_2, ixW.eq_3, slW.eq_1, slW.eq_2, slW.eq_3, revTW.eq_1, revLW.eq_1, lenW.eq_1, lenW.eq_2, lenW.eq_3, tupleW.eq_1, tupleW.eq_2, listW.eq_1, listW.eq_2, min2W.eq_1, max2W.eq_1, strW.eq_1, strW.eq_2, joinW.eq_1, joinW.eq_2, walkLW.eq_1, walkTW.eq_1, walkSW.eq_1, range1W.eq_1, zipW.eq_1, zipW.eq_2, tupG.eq_1, gsW.eq_1, gsW.eq_2, par2.eq_1, extW.eq_1, extW.eq_2, partW.eq_1, optW.eq_1, optW.eq_2, modW, fdivW, powW, ltW, leW, gtW, geW, isNone, isi_non, isi_bl, isi_int, isi_str, isi_tup, isi_lst, upperW, putW, appW, tupW, lstW, asB_bl, String.reduceBEq, beq_self_eq_true, Bool.or_true, Bool.true_or, Bool.or_false, Bool.false_or, Bool.and_true, Bool.true_and, Bool.and_false, Bool.false_and, Bool.not_true, Bool.not_false, forall_const, true_implies, true_and, and_true, false_implies, reduceCtorEq, List.length_cons, List.length_nil, forall_eq, imp_self, implies_true, if_true, if_false, Bool.false_eq_true, Bool.true_eq_false]
  refine (over_ret (by omega) (by omega)).go ?_
  simp only [bLaw_5, k2, j2, objW_heap, W.bind_wp, W.ret_wp, W.want_wp, W.any_wp, s_ite, s_get0, s_get, s_then, s_end, s_run, s_calm, s_fail, s_start1, s_start2, s_start3, s_start4, s_start5, List.replicate, List.set_cons_zero, List.set_cons_succ, asB_bl, asS_str, Nat.reduceSub, Nat.reduceAdd, addW.eq_1, addW.eq_2, addW.eq_3, addW.eq_4, addW.eq_5, subW.eq_1, subW.eq_2, mulW.eq_1, mulW.eq_2, mulW.eq_3, intOp.eq_1, negW.eq_1, ordW.eq_1, ordW.eq_2, isW.eq_1, isntW.eq_1, ixW.eq_1, ixW.eq_2, ixW.eq_3, slW.eq_1, slW.eq_2, slW.eq_3, revTW.eq_1, revLW.eq_1, lenW.eq_1, lenW.eq_2, lenW.eq_3, tupleW.eq_1, tupleW.eq_2, listW.eq_1, listW.eq_2, min2W.eq_1, max2W.eq_1, strW.eq_1, strW.eq_2, joinW.eq_1, joinW.eq_2, walkLW.eq_1, walkTW.eq_1, walkSW.eq_1, range1W.eq_1, zipW.eq_1, zipW.eq_2, tupG.eq_1, gsW.eq_1, gsW.eq_2, par2.eq_1, extW.eq_1, extW.eq_2, partW.eq_1, optW.eq_1, optW.eq_2, modW, fdivW, powW, ltW, leW, gtW, geW, isNone, isi_non, isi_bl, isi_int, isi_str, isi_tup, isi_lst, upperW, putW, appW, tupW, lstW, asB_bl, String.reduceBEq, beq_self_eq_true, Bool.or_true, Bool.true_or, Bool.or_false, Bool.false_or, Bool.and_true, Bool.true_and, Bool.and_false, Bool.false_and, Bool.not_true, Bool.not_false, forall_const, true_implies, true_and, and_true, false_implies, reduceCtorEq, List.length_cons, List.length_nil, forall_eq, imp_self, implies_true, if_true, if_false, Bool.false_eq_true, Bool.true_eq_false]
  rw [holds_eq uA uB (by decide)]
  have en : eqW (rowsT (aboveR (sumR B) (sumR A))) (.tup []) = W.ret (.bl (decide (aboveR (sumR B) (sumR A) = []))) := eqW_rows _ []
  rw [en]
  have rpb : ∀ b : Bool, reprD [.bl b] = W.ret (rp (.bl b)) := fun b => reprD_eq ((Sz.bl (m := 0) (dp := 0) (n := 100) (by decide)).mono (by decide) (by decide) (small (by decide)))
  simp only [rpb, rp_same, W.bind_wp, W.ret_wp, W.want_wp, W.any_wp, s_ite, s_get0, s_get, s_then, s_end, s_run, s_calm, s_fail, s_start1, s_start2, s_start3, s_start4, s_start5, List.replicate, List.set_cons_zero, List.set_cons_succ, asB_bl, asS_str, Nat.reduceSub, Nat.reduceAdd, addW.eq_1, addW.eq_2, addW.eq_3, addW.eq_4, addW.eq_5, subW.eq_1, subW.eq_2, mulW.eq_1, mulW.eq_2, mulW.eq_3, intOp.eq_1, negW.eq_1, ordW.eq_1, ordW.eq_2, isW.eq_1, isntW.eq_1, ixW.eq_1, ixW.eq_2, ixW.eq_3, slW.eq_1, slW.eq_2, slW.eq_3, revTW.eq_1, revLW.eq_1, lenW.eq_1, lenW.eq_2, lenW.eq_3, tupleW.eq_1, tupleW.eq_2, listW.eq_1, listW.eq_2, min2W.eq_1, max2W.eq_1, strW.eq_1, strW.eq_2, joinW.eq_1, joinW.eq_2, walkLW.eq_1, walkTW.eq_1, walkSW.eq_1, range1W.eq_1, zipW.eq_1, zipW.eq_2, tupG.eq_1, gsW.eq_1, gsW.eq_2, par2.eq_1, extW.eq_1, extW.eq_2, partW.eq_1, optW.eq_1, optW.eq_2, modW, fdivW, powW, ltW, leW, gtW, geW, isNone, isi_non, isi_bl, isi_int, isi_str, isi_tup, isi_lst, upperW, putW, appW, tupW, lstW, asB_bl, String.reduceBEq, beq_self_eq_true, Bool.or_true, Bool.true_or, Bool.or_false, Bool.false_or, Bool.and_true, Bool.true_and, Bool.and_false, Bool.false_and, Bool.not_true, Bool.not_false, forall_const, true_implies, true_and, and_true, false_implies, reduceCtorEq, List.length_cons, List.length_nil, forall_eq, imp_self, implies_true, if_true, if_false, Bool.false_eq_true, Bool.true_eq_false]
  simp only [bLaw_4, W.bind_wp, W.ret_wp, W.want_wp, W.any_wp, s_ite, s_get0, s_get, s_then, s_end, s_run, s_calm, s_fail, s_start1, s_start2, s_start3, s_start4, s_start5, List.replicate, List.set_cons_zero, List.set_cons_succ, asB_bl, asS_str, Nat.reduceSub, Nat.reduceAdd, addW.eq_1, addW.eq_2, addW.eq_3, addW.eq_4, addW.eq_5, subW.eq_1, subW.eq_2, mulW.eq_1, mulW.eq_2, mulW.eq_3, intOp.eq_1, negW.eq_1, ordW.eq_1, ordW.eq_2, isW.eq_1, isntW.eq_1, ixW.eq_1, ixW.eq_2, ixW.eq_3, slW.eq_1, slW.eq_2, slW.eq_3, revTW.eq_1, revLW.eq_1, lenW.eq_1, lenW.eq_2, lenW.eq_3, tupleW.eq_1, tupleW.eq_2, listW.eq_1, listW.eq_2, min2W.eq_1, max2W.eq_1, strW.eq_1, strW.eq_2, joinW.eq_1, joinW.eq_2, walkLW.eq_1, walkTW.eq_1, walkSW.eq_1, range1W.eq_1, zipW.eq_1, zipW.eq_2, tupG.eq_1, gsW.eq_1, gsW.eq_2, par2.eq_1, extW.eq_1, extW.eq_2, partW.eq_1, optW.eq_1, optW.eq_2, modW, fdivW, powW, ltW, leW, gtW, geW, isNone, isi_non, isi_bl, isi_int, isi_str, isi_tup, isi_lst, upperW, putW, appW, tupW, lstW, asB_bl, String.reduceBEq, beq_self_eq_true, Bool.or_true, Bool.true_or, Bool.or_false, Bool.false_or, Bool.and_true, Bool.true_and, Bool.and_false, Bool.false_and, Bool.not_true, Bool.not_false, forall_const, true_implies, true_and, and_true, false_implies, reduceCtorEq, List.length_cons, List.length_nil, forall_eq, imp_self, implies_true, if_true, if_false, Bool.false_eq_true, Bool.true_eq_false]
  refine ⟨by decide, ?_⟩
  simp only [bLaw_3, W.bind_wp, W.ret_wp, W.want_wp, W.any_wp, s_ite, s_get0, s_get, s_then, s_end, s_run, s_calm, s_fail, s_start1, s_start2, s_start3, s_start4, s_start5, List.replicate, List.set_cons_zero, List.set_cons_succ, asB_bl, asS_str, Nat.reduceSub, Nat.reduceAdd, addW.eq_1, addW.eq_2, addW.eq_3, addW.eq_4, addW.eq_5, subW.eq_1, subW.eq_2, mulW.eq_1, mulW.eq_2, mulW.eq_3, intOp.eq_1, negW.eq_1, ordW.eq_1, ordW.eq_2, isW.eq_1, isntW.eq_1, ixW.eq_1, ixW.eq_2, ixW.eq_3, slW.eq_1, slW.eq_2, slW.eq_3, revTW.eq_1, revLW.eq_1, lenW.eq_1, lenW.eq_2, lenW.eq_3, tupleW.eq_1, tupleW.eq_2, listW.eq_1, listW.eq_2, min2W.eq_1, max2W.eq_1, strW.eq_1, strW.eq_2, joinW.eq_1, joinW.eq_2, walkLW.eq_1, walkTW.eq_1, walkSW.eq_1, range1W.eq_1, zipW.eq_1, zipW.eq_2, tupG.eq_1, gsW.eq_1, gsW.eq_2, par2.eq_1, extW.eq_1, extW.eq_2, partW.eq_1, optW.eq_1, optW.eq_2, modW, fdivW, powW, ltW, leW, gtW, geW, isNone, isi_non, isi_bl, isi_int, isi_str, isi_tup, isi_lst, upperW, putW, appW, tupW, lstW, asB_bl, String.reduceBEq, beq_self_eq_true, Bool.or_true, Bool.true_or, Bool.or_false, Bool.false_or, Bool.and_true, Bool.true_and, Bool.and_false, Bool.false_and, Bool.not_true, Bool.not_false, forall_const, true_implies, true_and, and_true, false_implies, reduceCtorEq, List.length_cons, List.length_nil, forall_eq, imp_self, implies_true, if_true, if_false, Bool.false_eq_true, Bool.true_eq_false]
  refine ⟨by decide, by decide, ?_⟩
  rw [en]
  have vB : RowsOk 8 (10 ^ 30) (aboveR (sumR B) (sumR A)) := (above_ok oB uA).mono (Nat.le_refl _) (by decide)
  have vA : RowsOk 8 (10 ^ 30) (aboveR (sumR A) (sumR B)) := (above_ok oA uB).mono (Nat.le_refl _) (by decide)
  by_cases e : aboveR (sumR B) (sumR A) = []
  · rw [decide_eq_true e]
    simp only [W.bind_wp, W.ret_wp, W.want_wp, W.any_wp, s_ite, s_get0, s_get, s_then, s_end, s_run, s_calm, s_fail, s_start1, s_start2, s_start3, s_start4, s_start5, List.replicate, List.set_cons_zero, List.set_cons_succ, asB_bl, asS_str, Nat.reduceSub, Nat.reduceAdd, addW.eq_1, addW.eq_2, addW.eq_3, addW.eq_4, addW.eq_5, subW.eq_1, subW.eq_2, mulW.eq_1, mulW.eq_2, mulW.eq_3, intOp.eq_1, negW.eq_1, ordW.eq_1, ordW.eq_2, isW.eq_1, isntW.eq_1, ixW.eq_1, ixW.eq_2, ixW.eq_3, slW.eq_1, slW.eq_2, slW.eq_3, revTW.eq_1, revLW.eq_1, lenW.eq_1, lenW.eq_2, lenW.eq_3, tupleW.eq_1, tupleW.eq_2, listW.eq_1, listW.eq_2, min2W.eq_1, max2W.eq_1, strW.eq_1, strW.eq_2, joinW.eq_1, joinW.eq_2, walkLW.eq_1, walkTW.eq_1, walkSW.eq_1, range1W.eq_1, zipW.eq_1, zipW.eq_2, tupG.eq_1, gsW.eq_1, gsW.eq_2, par2.eq_1, extW.eq_1, extW.eq_2, partW.eq_1, optW.eq_1, optW.eq_2, modW, fdivW, powW, ltW, leW, gtW, geW, isNone, isi_non, isi_bl, isi_int, isi_str, isi_tup, isi_lst, upperW, putW, appW, tupW, lstW, asB_bl, String.reduceBEq, beq_self_eq_true, Bool.or_true, Bool.true_or, Bool.or_false, Bool.false_or, Bool.and_true, Bool.true_and, Bool.and_false, Bool.false_and, Bool.not_true, Bool.not_false, forall_const, true_implies, true_and, and_true, false_implies, reduceCtorEq, List.length_cons, List.length_nil, forall_eq, imp_self, implies_true, if_true, if_false, Bool.false_eq_true, Bool.true_eq_false]
    simp only [bLaw_1, k1, j1, W.bind_wp, W.ret_wp, W.want_wp, W.any_wp, s_ite, s_get0, s_get, s_then, s_end, s_run, s_calm, s_fail, s_start1, s_start2, s_start3, s_start4, s_start5, List.replicate, List.set_cons_zero, List.set_cons_succ, asB_bl, asS_str, Nat.reduceSub, Nat.reduceAdd, addW.eq_1, addW.eq_2, addW.eq_3, addW.eq_4, addW.eq_5, subW.eq_1, subW.eq_2, mulW.eq_1, mulW.eq_2, mulW.eq_3, intOp.eq_1, negW.eq_1, ordW.eq_1, ordW.eq_2, isW.eq_1, isntW.eq_1, ixW.eq_1, ixW.eq_2, ixW.eq_3, slW.eq_1, slW.eq_2, slW.eq_3, revTW.eq_1, revLW.eq_1, lenW.eq_1, lenW.eq_2, lenW.eq_3, tupleW.eq_1, tupleW.eq_2, listW.eq_1, listW.eq_2, min2W.eq_1, max2W.eq_1, strW.eq_1, strW.eq_2, joinW.eq_1, joinW.eq_2, walkLW.eq_1, walkTW.eq_1, walkSW.eq_1, range1W.eq_1, zipW.eq_1, zipW.eq_2, tupG.eq_1, gsW.eq_1, gsW.eq_2, par2.eq_1, extW.eq_1, extW.eq_2, partW.eq_1, optW.eq_1, optW.eq_2, modW, fdivW, powW, ltW, leW, gtW, geW, isNone, isi_non, isi_bl, isi_int, isi_str, isi_tup, isi_lst, upperW, putW, appW, tupW, lstW, asB_bl, String.reduceBEq, beq_self_eq_true, Bool.or_true, Bool.true_or, Bool.or_false, Bool.false_or, Bool.and_true, Bool.true_and, Bool.and_false, Bool.false_and, Bool.not_true, Bool.not_false, forall_const, true_implies, true_and, and_true, false_implies, reduceCtorEq, List.length_cons, List.length_nil, forall_eq, imp_self, implies_true, if_true, if_false, Bool.false_eq_true, Bool.true_eq_false]
    refine (over_ret (by omega) (by omega)).go ?_
    refine ⟨by decide, ?_⟩
    simp only [bLaw_2, k2, j2, W.bind_wp, W.ret_wp, W.want_wp, W.any_wp, s_ite, s_get0, s_get, s_then, s_end, s_run, s_calm, s_fail, s_start1, s_start2, s_start3, s_start4, s_start5, List.replicate, List.set_cons_zero, List.set_cons_succ, asB_bl, asS_str, Nat.reduceSub, Nat.reduceAdd, addW.eq_1, addW.eq_2, addW.eq_3, addW.eq_4, addW.eq_5, subW.eq_1, subW.eq_2, mulW.eq_1, mulW.eq_2, mulW.eq_3, intOp.eq_1, negW.eq_1, ordW.eq_1, ordW.eq_2, isW.eq_1, isntW.eq_1, ixW.eq_1, ixW.eq_2, ixW.eq_3, slW.eq_1, slW.eq_2, slW.eq_3, revTW.eq_1, revLW.eq_1, lenW.eq_1, lenW.eq_2, lenW.eq_3, tupleW.eq_1, tupleW.eq_2, listW.eq_1, listW.eq_2, min2W.eq_1, max2W.eq_1, strW.eq_1, strW.eq_2, joinW.eq_1, joinW.eq_2, walkLW.eq_1, walkTW.eq_1, walkSW.eq_1, range1W.eq_1, zipW.eq_1, zipW.eq_2, tupG.eq_1, gsW.eq_1, gsW.eq_2, par2.eq_1, extW.eq_1, extW.eq_2, partW.eq_1, optW.eq_1, optW.eq_2, modW, fdivW, powW, ltW, leW, gtW, geW, isNone, isi_non, isi_bl, isi_int, isi_str, isi_tup, isi_lst, upperW, putW, appW, tupW, lstW, asB_bl, String.reduceBEq, beq_self_eq_true, Bool.or_true, Bool.true_or, Bool.or_false, Bool.false_or, Bool.and_true, Bool.true_and, Bool.and_false, Bool.false_and, Bool.not_true, Bool.not_false, forall_const, true_implies, true_and, and_true, false_implies, reduceCtorEq, List.length_cons, List.length_nil, forall_eq, imp_self, implies_true, if_true, if_false, Bool.false_eq_true, Bool.true_eq_false]
    refine (left_ret uA uB (by decide)).go ?_
    unfold leftD
    rw [if_pos e, reprD_eq ((pair_sz (by decide +kernel) vA).mono (m' := 1900) (dp' := 64) (n' := sizeLine) (by decide) (by decide) (small (by decide)))]
    simp only [rp_same, W.bind_wp, W.ret_wp, W.want_wp, W.any_wp, s_ite, s_get0, s_get, s_then, s_end, s_run, s_calm, s_fail, s_start1, s_start2, s_start3, s_start4, s_start5, List.replicate, List.set_cons_zero, List.set_cons_succ, asB_bl, asS_str, Nat.reduceSub, Nat.reduceAdd, addW.eq_1, addW.eq_2, addW.eq_3, addW.eq_4, addW.eq_5, subW.eq_1, subW.eq_2, mulW.eq_1, mulW.eq_2, mulW.eq_3, intOp.eq_1, negW.eq_1, ordW.eq_1, ordW.eq_2, isW.eq_1, isntW.eq_1, ixW.eq_1, ixW.eq_2, ixW.eq_3, slW.eq_1, slW.eq_2, slW.eq_3, revTW.eq_1, revLW.eq_1, lenW.eq_1, lenW.eq_2, lenW.eq_3, tupleW.eq_1, tupleW.eq_2, listW.eq_1, listW.eq_2, min2W.eq_1, max2W.eq_1, strW.eq_1, strW.eq_2, joinW.eq_1, joinW.eq_2, walkLW.eq_1, walkTW.eq_1, walkSW.eq_1, range1W.eq_1, zipW.eq_1, zipW.eq_2, tupG.eq_1, gsW.eq_1, gsW.eq_2, par2.eq_1, extW.eq_1, extW.eq_2, partW.eq_1, optW.eq_1, optW.eq_2, modW, fdivW, powW, ltW, leW, gtW, geW, isNone, isi_non, isi_bl, isi_int, isi_str, isi_tup, isi_lst, upperW, putW, appW, tupW, lstW, asB_bl, String.reduceBEq, beq_self_eq_true, Bool.or_true, Bool.true_or, Bool.or_false, Bool.false_or, Bool.and_true, Bool.true_and, Bool.and_false, Bool.false_and, Bool.not_true, Bool.not_false, forall_const, true_implies, true_and, and_true, false_implies, reduceCtorEq, List.length_cons, List.length_nil, forall_eq, imp_self, implies_true, if_true, if_false, Bool.false_eq_true, Bool.true_eq_false]
    exact q _ _ _
  · rw [decide_eq_false e]
    simp only [W.bind_wp, W.ret_wp, W.want_wp, W.any_wp, s_ite, s_get0, s_get, s_then, s_end, s_run, s_calm, s_fail, s_start1, s_start2, s_start3, s_start4, s_start5, List.replicate, List.set_cons_zero, List.set_cons_succ, asB_bl, asS_str, Nat.reduceSub, Nat.reduceAdd, addW.eq_1, addW.eq_2, addW.eq_3, addW.eq_4, addW.eq_5, subW.eq_1, subW.eq_2, mulW.eq_1, mulW.eq_2, mulW.eq_3, intOp.eq_1, negW.eq_1, ordW.eq_1, ordW.eq_2, isW.eq_1, isntW.eq_1, ixW.eq_1, ixW.eq_2, ixW.eq_3, slW.eq_1, slW.eq_2, slW.eq_3, revTW.eq_1, revLW.eq_1, lenW.eq_1, lenW.eq_2, lenW.eq_3, tupleW.eq_1, tupleW.eq_2, listW.eq_1, listW.eq_2, min2W.eq_1, max2W.eq_1, strW.eq_1, strW.eq_2, joinW.eq_1, joinW.eq_2, walkLW.eq_1, walkTW.eq_1, walkSW.eq_1, range1W.eq_1, zipW.eq_1, zipW.eq_2, tupG.eq_1, gsW.eq_1, gsW.eq_2, par2.eq_1, extW.eq_1, extW.eq_2, partW.eq_1, optW.eq_1, optW.eq_2, modW, fdivW, powW, ltW, leW, gtW, geW, isNone, isi_non, isi_bl, isi_int, isi_str, isi_tup, isi_lst, upperW, putW, appW, tupW, lstW, asB_bl, String.reduceBEq, beq_self_eq_true, Bool.or_true, Bool.true_or, Bool.or_false, Bool.false_or, Bool.and_true, Bool.true_and, Bool.and_false, Bool.false_and, Bool.not_true, Bool.not_false, forall_const, true_implies, true_and, and_true, false_implies, reduceCtorEq, List.length_cons, List.length_nil, forall_eq, imp_self, implies_true, if_true, if_false, Bool.false_eq_true, Bool.true_eq_false]
    simp only [bLaw_2, k2, j2, W.bind_wp, W.ret_wp, W.want_wp, W.any_wp, s_ite, s_get0, s_get, s_then, s_end, s_run, s_calm, s_fail, s_start1, s_start2, s_start3, s_start4, s_start5, List.replicate, List.set_cons_zero, List.set_cons_succ, asB_bl, asS_str, Nat.reduceSub, Nat.reduceAdd, addW.eq_1, addW.eq_2, addW.eq_3, addW.eq_4, addW.eq_5, subW.eq_1, subW.eq_2, mulW.eq_1, mulW.eq_2, mulW.eq_3, intOp.eq_1, negW.eq_1, ordW.eq_1, ordW.eq_2, isW.eq_1, isntW.eq_1, ixW.eq_1, ixW.eq_2, ixW.eq_3, slW.eq_1, slW.eq_2, slW.eq_3, revTW.eq_1, revLW.eq_1, lenW.eq_1, lenW.eq_2, lenW.eq_3, tupleW.eq_1, tupleW.eq_2, listW.eq_1, listW.eq_2, min2W.eq_1, max2W.eq_1, strW.eq_1, strW.eq_2, joinW.eq_1, joinW.eq_2, walkLW.eq_1, walkTW.eq_1, walkSW.eq_1, range1W.eq_1, zipW.eq_1, zipW.eq_2, tupG.eq_1, gsW.eq_1, gsW.eq_2, par2.eq_1, extW.eq_1, extW.eq_2, partW.eq_1, optW.eq_1, optW.eq_2, modW, fdivW, powW, ltW, leW, gtW, geW, isNone, isi_non, isi_bl, isi_int, isi_str, isi_tup, isi_lst, upperW, putW, appW, tupW, lstW, asB_bl, String.reduceBEq, beq_self_eq_true, Bool.or_true, Bool.true_or, Bool.or_false, Bool.false_or, Bool.and_true, Bool.true_and, Bool.and_false, Bool.false_and, Bool.not_true, Bool.not_false, forall_const, true_implies, true_and, and_true, false_implies, reduceCtorEq, List.length_cons, List.length_nil, forall_eq, imp_self, implies_true, if_true, if_false, Bool.false_eq_true, Bool.true_eq_false]
    refine (left_ret uA uB (by decide)).go ?_
    unfold leftD
    rw [if_neg e, reprD_eq ((pair_sz (by decide +kernel) vB).mono (m' := 1900) (dp' := 64) (n' := sizeLine) (by decide) (by decide) (small (by decide)))]
    simp only [rp_same, W.bind_wp, W.ret_wp, W.want_wp, W.any_wp, s_ite, s_get0, s_get, s_then, s_end, s_run, s_calm, s_fail, s_start1, s_start2, s_start3, s_start4, s_start5, List.replicate, List.set_cons_zero, List.set_cons_succ, asB_bl, asS_str, Nat.reduceSub, Nat.reduceAdd, addW.eq_1, addW.eq_2, addW.eq_3, addW.eq_4, addW.eq_5, subW.eq_1, subW.eq_2, mulW.eq_1, mulW.eq_2, mulW.eq_3, intOp.eq_1, negW.eq_1, ordW.eq_1, ordW.eq_2, isW.eq_1, isntW.eq_1, ixW.eq_1, ixW.eq_2, ixW.eq_3, slW.eq_1, slW.eq_2, slW.eq_3, revTW.eq_1, revLW.eq_1, lenW.eq_1, lenW.eq_2, lenW.eq_3, tupleW.eq_1, tupleW.eq_2, listW.eq_1, listW.eq_2, min2W.eq_1, max2W.eq_1, strW.eq_1, strW.eq_2, joinW.eq_1, joinW.eq_2, walkLW.eq_1, walkTW.eq_1, walkSW.eq_1, range1W.eq_1, zipW.eq_1, zipW.eq_2, tupG.eq_1, gsW.eq_1, gsW.eq_2, par2.eq_1, extW.eq_1, extW.eq_2, partW.eq_1, optW.eq_1, optW.eq_2, modW, fdivW, powW, ltW, leW, gtW, geW, isNone, isi_non, isi_bl, isi_int, isi_str, isi_tup, isi_lst, upperW, putW, appW, tupW, lstW, asB_bl, String.reduceBEq, beq_self_eq_true, Bool.or_true, Bool.true_or, Bool.or_false, Bool.false_or, Bool.and_true, Bool.true_and, Bool.and_false, Bool.false_and, Bool.not_true, Bool.not_false, forall_const, true_implies, true_and, and_true, false_implies, reduceCtorEq, List.length_cons, List.length_nil, forall_eq, imp_self, implies_true, if_true, if_false, Bool.false_eq_true, Bool.true_eq_false]
    exact q _ _ _
end
theorem env_is : lawE 13 = [none, some (.tok 0), none, none, none, none, none, none, none, none, none, none, none] := rfl
theorem rowsTs_sh {Ls : List (List PRow)} : D.sh (.lst (Ls.map rowsT)) := by
  refine ⟨?_, ?_⟩
  · show D.plains (Ls.map rowsT) = true
    induction Ls with
    | nil => rfl
    | cons L Ls ih =>
      show ((rowsT L).plain && D.plains (Ls.map rowsT)) = true
      rw [ih, rowsT_plain]
      rfl
  · show PyData.depthAll (D.toPs (Ls.map rowsT)) + 1 ≤ 64
    have : PyData.depthAll (D.toPs (Ls.map rowsT)) ≤ 2 := by
      induction Ls with
      | nil => exact Nat.zero_le _
      | cons L Ls ih =>
        show max (rowsT L).toP.depth (PyData.depthAll (D.toPs (Ls.map rowsT))) ≤ 2
        have := rowsT_depth L
        omega
    omega
theorem eqW_lots (Ls : List (List PRow)) : eqW (.lst (Ls.map rowsT)) (.lst (Ls.map rowsT)) = W.ret (.bl true) := by
  rw [eqW_sh rowsTs_sh rowsTs_sh]
  have : ∀ Ls : List (List PRow), PyData.eqvAll (D.toPs (Ls.map rowsT)) (D.toPs (Ls.map rowsT)) = true := fun Ls => by
    induction Ls with
    | nil => show PyData.eqvAll [] [] = true; unfold PyData.eqvAll; rfl
    | cons L Ls ih =>
      show PyData.eqvAll ((rowsT L).toP :: D.toPs (Ls.map rowsT)) ((rowsT L).toP :: D.toPs (Ls.map rowsT)) = true
      rw [PySem.W.eqv_all_cons, ih]
      have := rowsT_eqv L L
      rw [decide_eq_true rfl] at this
      unfold D.eqv at this
      rw [this]
      rfl
  have e : D.eqv (.lst (Ls.map rowsT)) (.lst (Ls.map rowsT)) = true := by
    unfold D.eqv
    show PyData.eqv (.list (D.toPs (Ls.map rowsT))) (.list (D.toPs (Ls.map rowsT))) = true
    rw [PyData.eqv]
    exact this Ls
  rw [e]
theorem l11_wp {fs ss : List Str} {e0 e1 e2 e3 e5 e6 e7 e8 e9 e10 e11 e12 : Option D} {E : Ex → Prop} {Ls : List (List PRow)} (fw : ∀ y ∈ fs, Word y) (sw : ∀ y ∈ ss, Word y) (hL : Lots fs ss Ls) :
    (bLaw_11 [e0, e1, e2, e3, some (.lst (Ls.map rowsT)), e5, e6, e7, e8, e9, e10, e11, e12]).wp (fun f => ∃ b, f = .rt (.bl b) ∧ b = true) E := by
  have lL := hL.len
  simp only [bLaw_11, W.bind_wp, W.ret_wp, W.want_wp, W.any_wp, s_ite, s_get0, s_get, s_then, s_end, s_run, s_calm, s_fail, s_start1, s_start2, s_start3, s_start4, s_start5, List.replicate, List.set_cons_zero, List.set_cons_succ, asB_bl, asS_str, Nat.reduceSub, Nat.reduceAdd, addW.eq_1, addW.eq_2, addW.eq_3, addW.eq_4, addW.eq_5, subW.eq_1, subW.eq_2, mulW.eq_1, mulW.eq_2, mulW.eq_3, intOp.eq_1, negW.eq_1, ordW.eq_1, ordW.eq_2, isW.eq_1, isntW.eq_1, ixW.eq_1, ixW.eq_2, ixW.eq_3, slW.eq_1, slW.eq_2, slW.eq_3, revTW.eq_1, revLW.eq_1, lenW.eq_1, lenW.eq_2, lenW.eq_3, tupleW.eq_1, tupleW.eq_2, listW.eq_1, listW.eq_2, min2W.eq_1, max2W.eq_1, strW.eq_1, strW.eq_2, joinW.eq_1, joinW.eq_2, walkLW.eq_1, walkTW.eq_1, walkSW.eq_1, range1W.eq_1, zipW.eq_1, zipW.eq_2, tupG.eq_1, gsW.eq_1, gsW.eq_2, par2.eq_1, extW.eq_1, extW.eq_2, partW.eq_1, optW.eq_1, optW.eq_2, modW, fdivW, powW, ltW, leW, gtW, geW, isNone, isi_non, isi_bl, isi_int, isi_str, isi_tup, isi_lst, upperW, putW, appW, tupW, lstW, asB_bl, String.reduceBEq, beq_self_eq_true, Bool.or_true, Bool.true_or, Bool.or_false, Bool.false_or, Bool.and_true, Bool.true_and, Bool.and_false, Bool.false_and, Bool.not_true, Bool.not_false, forall_const, true_implies, true_and, and_true, false_implies, reduceCtorEq, List.length_cons, List.length_nil, forall_eq, imp_self, implies_true, if_true, if_false, Bool.false_eq_true, Bool.true_eq_false]
  refine Ret.go (lc_map (ds := Ls.map rowsT) (fun d => match rowsOf d with | some L => heapD (sumR L) | none => d) (fun Q E q => q) (by rw [List.length_map]; exact small (by omega)) fun d hd => ?_) ?_
  · obtain ⟨L, hl, rfl⟩ := List.mem_map.mp hd
    have := (hL.each L hl).len
    simp only [wipeE, W.bind_wp, W.ret_wp, W.want_wp, W.any_wp, s_ite, s_get0, s_get, s_then, s_end, s_run, s_calm, s_fail, s_start1, s_start2, s_start3, s_start4, s_start5, List.replicate, List.set_cons_zero, List.set_cons_succ, asB_bl, asS_str, Nat.reduceSub, Nat.reduceAdd, addW.eq_1, addW.eq_2, addW.eq_3, addW.eq_4, addW.eq_5, subW.eq_1, subW.eq_2, mulW.eq_1, mulW.eq_2, mulW.eq_3, intOp.eq_1, negW.eq_1, ordW.eq_1, ordW.eq_2, isW.eq_1, isntW.eq_1, ixW.eq_1, ixW.eq_2, ixW.eq_3, slW.eq_1, slW.eq_2, slW.eq_3, revTW.eq_1, revLW.eq_1, lenW.eq_1, lenW.eq_2, lenW.eq_3, tupleW.eq_1, tupleW.eq_2, listW.eq_1, listW.eq_2, min2W.eq_1, max2W.eq_1, strW.eq_1, strW.eq_2, joinW.eq_1, joinW.eq_2, walkLW.eq_1, walkTW.eq_1, walkSW.eq_1, range1W.eq_1, zipW.eq_1, zipW.eq_2, tupG.eq_1, gsW.eq_1, gsW.eq_2, par2.eq_1, extW.eq_1, extW.eq_2, partW.eq_1, optW.eq_1, optW.eq_2, modW, fdivW, powW, ltW, leW, gtW, geW, isNone, isi_non, isi_bl, isi_int, isi_str, isi_tup, isi_lst, upperW, putW, appW, tupW, lstW, asB_bl, String.reduceBEq, beq_self_eq_true, Bool.or_true, Bool.true_or, Bool.or_false, Bool.false_or, Bool.and_true, Bool.true_and, Bool.and_false, Bool.false_and, Bool.not_true, Bool.not_false, forall_const, true_implies, true_and, and_true, false_implies, reduceCtorEq, List.length_cons, List.length_nil, forall_eq, imp_self, implies_true, if_true, if_false, Bool.false_eq_true, Bool.true_eq_false]
    rw [heapW_rows _ (by omega), rowsOf_T]
    exact rfl
  have eH : (Ls.map rowsT).map (fun d => match rowsOf d with | some L => heapD (sumR L) | none => d) = (Ls.map sumR).map heapD := by
    rw [List.map_map, List.map_map]
    refine List.map_congr_left fun L _ => ?_
    show (match rowsOf (rowsT L) with | some L => heapD (sumR L) | none => rowsT L) = _
    rw [rowsOf_T]
    rfl
  rw [eH]
  simp only [bLaw_10, W.bind_wp, W.ret_wp, W.want_wp, W.any_wp, s_ite, s_get0, s_get, s_then, s_end, s_run, s_calm, s_fail, s_start1, s_start2, s_start3, s_start4, s_start5, List.replicate, List.set_cons_zero, List.set_cons_succ, asB_bl, asS_str, Nat.reduceSub, Nat.reduceAdd, addW.eq_1, addW.eq_2, addW.eq_3, addW.eq_4, addW.eq_5, subW.eq_1, subW.eq_2, mulW.eq_1, mulW.eq_2, mulW.eq_3, intOp.eq_1, negW.eq_1, ordW.eq_1, ordW.eq_2, isW.eq_1, isntW.eq_1, ixW.eq_1, ixW.eq_2, ixW.eq_3, slW.eq_1, slW.eq_2, slW.eq_3, revTW.eq_1, revLW.eq_1, lenW.eq_1, lenW.eq_2, lenW.eq_3, tupleW.eq_1, tupleW.eq_2, listW.eq_1, listW.eq_2, min2W.eq_1, max2W.eq_1, strW.eq_1, strW.eq_2, joinW.eq_1, joinW.eq_2, walkLW.eq_1, walkTW.eq_1, walkSW.eq_1, range1W.eq_1, zipW.eq_1, zipW.eq_2, tupG.eq_1, gsW.eq_1, gsW.eq_2, par2.eq_1, extW.eq_1, extW.eq_2, partW.eq_1, optW.eq_1, optW.eq_2, modW, fdivW, powW, ltW, leW, gtW, geW, isNone, isi_non, isi_bl, isi_int, isi_str, isi_tup, isi_lst, upperW, putW, appW, tupW, lstW, asB_bl, String.reduceBEq, beq_self_eq_true, Bool.or_true, Bool.true_or, Bool.or_false, Bool.false_or, Bool.and_true, Bool.true_and, Bool.and_false, Bool.false_and, Bool.not_true, Bool.not_false, forall_const, true_implies, true_and, and_true, false_implies, reduceCtorEq, List.length_cons, List.length_nil, forall_eq, imp_self, implies_true, if_true, if_false, Bool.false_eq_true, Bool.true_eq_false]
  refine ⟨by decide, ?_⟩
  refine forW_wp0 (fun i env => ∃ (y5 y8 y9 y10 y11 : Option D), env = [e0, e1, e2, e3, some (.lst (Ls.map rowsT)), y5, some (.lst ((Ls.map sumR).map heapD)), e7, y8, y9, y10, y11, e12]) ⟨_, _, _, _, _, rfl⟩ (fun i d env hd hp => ?_) (fun env hp => ?_)
  · obtain ⟨y5, y8, y9, y10, y11, rfl⟩ := hp
    obtain ⟨hi, rfl⟩ := rangeAt hd
    have hi : i < 4 := hi
    simp only [W.bind_wp, W.ret_wp, W.want_wp, W.any_wp, s_ite, s_get0, s_get, s_then, s_end, s_run, s_calm, s_fail, s_start1, s_start2, s_start3, s_start4, s_start5, List.replicate, List.set_cons_zero, List.set_cons_succ, asB_bl, asS_str, Nat.reduceSub, Nat.reduceAdd, addW.eq_1, addW.eq_2, addW.eq_3, addW.eq_4, addW.eq_5, subW.eq_1, subW.eq_2, mulW.eq_1, mulW.eq_2, mulW.eq_3, intOp.eq_1, negW.eq_1, ordW.eq_1, ordW.eq_2, isW.eq_1, isntW.eq_1, ixW.eq_1, ixW.eq_2, ixW.eq_3, slW.eq_1, slW.eq_2, slW.eq_3, revTW.eq_1, revLW.eq_1, lenW.eq_1, lenW.eq_2, lenW.eq_3, tupleW.eq_1, tupleW.eq_2, listW.eq_1, listW.eq_2, min2W.eq_1, max2W.eq_1, strW.eq_1, strW.eq_2, joinW.eq_1, joinW.eq_2, walkLW.eq_1, walkTW.eq_1, walkSW.eq_1, range1W.eq_1, zipW.eq_1, zipW.eq_2, tupG.eq_1, gsW.eq_1, gsW.eq_2, par2.eq_1, extW.eq_1, extW.eq_2, partW.eq_1, optW.eq_1, optW.eq_2, modW, fdivW, powW, ltW, leW, gtW, geW, isNone, isi_non, isi_bl, isi_int, isi_str, isi_tup, isi_lst, upperW, putW, appW, tupW, lstW, asB_bl, String.reduceBEq, beq_self_eq_true, Bool.or_true, Bool.true_or, Bool.or_false, Bool.false_or, Bool.and_true, Bool.true_and, Bool.and_false, Bool.false_and, Bool.not_true, Bool.not_false, forall_const, true_implies, true_and, and_true, false_implies, reduceCtorEq, List.length_cons, List.length_nil, forall_eq, imp_self, implies_true, if_true, if_false, Bool.false_eq_true, Bool.true_eq_false]
    simp only [bLaw_9, W.bind_wp, W.ret_wp, W.want_wp, W.any_wp, s_ite, s_get0, s_get, s_then, s_end, s_run, s_calm, s_fail, s_start1, s_start2, s_start3, s_start4, s_start5, List.replicate, List.set_cons_zero, List.set_cons_succ, asB_bl, asS_str, Nat.reduceSub, Nat.reduceAdd, addW.eq_1, addW.eq_2, addW.eq_3, addW.eq_4, addW.eq_5, subW.eq_1, subW.eq_2, mulW.eq_1, mulW.eq_2, mulW.eq_3, intOp.eq_1, negW.eq_1, ordW.eq_1, ordW.eq_2, isW.eq_1, isntW.eq_1, ixW.eq_1, ixW.eq_2, ixW.eq_3, slW.eq_1, slW.eq_2, slW.eq_3, revTW.eq_1, revLW.eq_1, lenW.eq_1, lenW.eq_2, lenW.eq_3, tupleW.eq_1, tupleW.eq_2, listW.eq_1, listW.eq_2, min2W.eq_1, max2W.eq_1, strW.eq_1, strW.eq_2, joinW.eq_1, joinW.eq_2, walkLW.eq_1, walkTW.eq_1, walkSW.eq_1, range1W.eq_1, zipW.eq_1, zipW.eq_2, tupG.eq_1, gsW.eq_1, gsW.eq_2, par2.eq_1, extW.eq_1, extW.eq_2, partW.eq_1, optW.eq_1, optW.eq_2, modW, fdivW, powW, ltW, leW, gtW, geW, isNone, isi_non, isi_bl, isi_int, isi_str, isi_tup, isi_lst, upperW, putW, appW, tupW, lstW, asB_bl, String.reduceBEq, beq_self_eq_true, Bool.or_true, Bool.true_or, Bool.or_false, Bool.false_or, Bool.and_true, Bool.true_and, Bool.and_false, Bool.false_and, Bool.not_true, Bool.not_false, forall_const, true_implies, true_and, and_true, false_implies, reduceCtorEq, List.length_cons, List.length_nil, forall_eq, imp_self, implies_true, if_true, if_false, Bool.false_eq_true, Bool.true_eq_false]
    refine ⟨by decide, ?_⟩
    refine forW_wp0 (fun j env => ∃ (y8 y9 y10 y11 : Option D), env = [e0, e1, e2, e3, some (.lst (Ls.map rowsT)), some (.int (0 + (i : Int))), some (.lst ((Ls.map sumR).map heapD)), e7, y8, y9, y10, y11, e12]) ⟨_, _, _, _, rfl⟩ (fun j d env hd hp => ?_) (fun env hp => ?_)
    · obtain ⟨y8, y9, y10, y11, rfl⟩ := hp
      obtain ⟨hj, rfl⟩ := rangeAt hd
      have hj : j < 4 := hj
      simp only [W.bind_wp, W.ret_wp, W.want_wp, W.any_wp, s_ite, s_get0, s_get, s_then, s_end, s_run, s_calm, s_fail, s_start1, s_start2, s_start3, s_start4, s_start5, List.replicate, List.set_cons_zero, List.set_cons_succ, asB_bl, asS_str, Nat.reduceSub, Nat.reduceAdd, addW.eq_1, addW.eq_2, addW.eq_3, addW.eq_4, addW.eq_5, subW.eq_1, subW.eq_2, mulW.eq_1, mulW.eq_2, mulW.eq_3, intOp.eq_1, negW.eq_1, ordW.eq_1, ordW.eq_2, isW.eq_1, isntW.eq_1, ixW.eq_1, ixW.eq_2, ixW.eq_3, slW.eq_1, slW.eq_2, slW.eq_3, revTW.eq_1, revLW.eq_1, lenW.eq_1, lenW.eq_2, lenW.eq_3, tupleW.eq_1, tupleW.eq_2, listW.eq_1, listW.eq_2, min2W.eq_1, max2W.eq_1, strW.eq_1, strW.eq_2, joinW.eq_1, joinW.eq_2, walkLW.eq_1, walkTW.eq_1, walkSW.eq_1, range1W.eq_1, zipW.eq_1, zipW.eq_2, tupG.eq_1, gsW.eq_1, gsW.eq_2, par2.eq_1, extW.eq_1, extW.eq_2, partW.eq_1, optW.eq_1, optW.eq_2, modW, fdivW, powW, ltW, leW, gtW, geW, isNone, isi_non, isi_bl, isi_int, isi_str, isi_tup, isi_lst, upperW, putW, appW, tupW, lstW, asB_bl, String.reduceBEq, beq_self_eq_true, Bool.or_true, Bool.true_or, Bool.or_false, Bool.false_or, Bool.and_true, Bool.true_and, Bool.and_false, Bool.false_and, Bool.not_true, Bool.not_false, forall_const, true_implies, true_and, and_true, false_implies, reduceCtorEq, List.length_cons, List.length_nil, forall_eq, imp_self, implies_true, if_true, if_false, Bool.false_eq_true, Bool.true_eq_false]
      exact l8_wp hi hj fw sw hL fun z9 z10 z11 => ⟨_, _, _, _, rfl⟩
    · obtain ⟨y8, y9, y10, y11, rfl⟩ := hp
      exact ⟨_, _, _, _, _, rfl⟩
  · obtain ⟨y5, y8, y9, y10, y11, rfl⟩ := hp
    simp only [W.bind_wp, W.ret_wp, W.want_wp, W.any_wp, s_ite, s_get0, s_get, s_then, s_end, s_run, s_calm, s_fail, s_start1, s_start2, s_start3, s_start4, s_start5, List.replicate, List.set_cons_zero, List.set_cons_succ, asB_bl, asS_str, Nat.reduceSub, Nat.reduceAdd, addW.eq_1, addW.eq_2, addW.eq_3, addW.eq_4, addW.eq_5, subW.eq_1, subW.eq_2, mulW.eq_1, mulW.eq_2, mulW.eq_3, intOp.eq_1, negW.eq_1, ordW.eq_1, ordW.eq_2, isW.eq_1, isntW.eq_1, ixW.eq_1, ixW.eq_2, ixW.eq_3, slW.eq_1, slW.eq_2, slW.eq_3, revTW.eq_1, revLW.eq_1, lenW.eq_1, lenW.eq_2, lenW.eq_3, tupleW.eq_1, tupleW.eq_2, listW.eq_1, listW.eq_2, min2W.eq_1, max2W.eq_1, strW.eq_1, strW.eq_2, joinW.eq_1, joinW.eq_2, walkLW.eq_1, walkTW.eq_1, walkSW.eq_1, range1W.eq_1, zipW.eq_1, zipW.eq_2, tupG.eq_1, gsW.eq_1, gsW.eq_2, par2.eq_1, extW.eq_1, extW.eq_2, partW.eq_1, optW.eq_1, optW.eq_2, modW, fdivW, powW, ltW, leW, gtW, geW, isNone, isi_non, isi_bl, isi_int, isi_str, isi_tup, isi_lst, upperW, putW, appW, tupW, lstW, asB_bl, String.reduceBEq, beq_self_eq_true, Bool.or_true, Bool.true_or, Bool.or_false, Bool.false_or, Bool.and_true, Bool.true_and, Bool.and_false, Bool.false_and, Bool.not_true, Bool.not_false, forall_const, true_implies, true_and, and_true, false_implies, reduceCtorEq, List.length_cons, List.length_nil, forall_eq, imp_self, implies_true, if_true, if_false, Bool.false_eq_true, Bool.true_eq_false]
    refine Ret.go (lc_map (ds := (Ls.map sumR).map heapD) (fun d => match heapOf d with | some L => rowsT L | none => d) (fun Q E q => q) (by rw [List.length_map, List.length_map]; exact small (by omega)) fun d hd => ?_) ?_
    · obtain ⟨G, hG, rfl⟩ := List.mem_map.mp hd
      obtain ⟨L, hl, rfl⟩ := List.mem_map.mp hG
      have := (hL.each L hl).len
      simp only [wipeE, objW_heap, W.bind_wp, W.ret_wp, W.want_wp, W.any_wp, s_ite, s_get0, s_get, s_then, s_end, s_run, s_calm, s_fail, s_start1, s_start2, s_start3, s_start4, s_start5, List.replicate, List.set_cons_zero, List.set_cons_succ, asB_bl, asS_str, Nat.reduceSub, Nat.reduceAdd, addW.eq_1, addW.eq_2, addW.eq_3, addW.eq_4, addW.eq_5, subW.eq_1, subW.eq_2, mulW.eq_1, mulW.eq_2, mulW.eq_3, intOp.eq_1, negW.eq_1, ordW.eq_1, ordW.eq_2, isW.eq_1, isntW.eq_1, ixW.eq_1, ixW.eq_2, ixW.eq_3, slW.eq_1, slW.eq_2, slW.eq_3, revTW.eq_1, revLW.eq_1, lenW.eq_1, lenW.eq_2, lenW.eq_3, tupleW.eq_1, tupleW.eq_2, listW.eq_1, listW.eq_2, min2W.eq_1, max2W.eq_1, strW.eq_1, strW.eq_2, joinW.eq_1, joinW.eq_2, walkLW.eq_1, walkTW.eq_1, walkSW.eq_1, range1W.eq_1, zipW.eq_1, zipW.eq_2, tupG.eq_1, gsW.eq_1, gsW.eq_2, par2.eq_1, extW.eq_1, extW.eq_2, partW.eq_1, optW.eq_1, optW.eq_2, modW, fdivW, powW, ltW, leW, gtW, geW, isNone, isi_non, isi_bl, isi_int, isi_str, isi_tup, isi_lst, upperW, putW, appW, tupW, lstW, asB_bl, String.reduceBEq, beq_self_eq_true, Bool.or_true, Bool.true_or, Bool.or_false, Bool.false_or, Bool.and_true, Bool.true_and, Bool.and_false, Bool.false_and, Bool.not_true, Bool.not_false, forall_const, true_implies, true_and, and_true, false_implies, reduceCtorEq, List.length_cons, List.length_nil, forall_eq, imp_self, implies_true, if_true, if_false, Bool.false_eq_true, Bool.true_eq_false]
      rw [rowsW_eq (by have := sumR_len L; omega), heapOf_D]
      exact rfl
    have eR : ((Ls.map sumR).map heapD).map (fun d => match heapOf d with | some L => rowsT L | none => d) = (Ls.map sumR).map rowsT := by
      rw [List.map_map]
      refine List.map_congr_left fun L _ => ?_
      show (match heapOf (heapD L) with | some L => rowsT L | none => heapD L) = _
      rw [heapOf_D]
    rw [eR]
    refine Ret.go (lc_map (ds := Ls.map rowsT) (fun d => match rowsOf d with | some L => rowsT (sumR L) | none => d) (fun Q E q => q) (by rw [List.length_map]; exact small (by omega)) fun d hd => ?_) ?_
    · obtain ⟨L, hl, rfl⟩ := List.mem_map.mp hd
      have := (hL.each L hl).len
      simp only [wipeE, W.bind_wp, W.ret_wp, W.want_wp, W.any_wp, s_ite, s_get0, s_get, s_then, s_end, s_run, s_calm, s_fail, s_start1, s_start2, s_start3, s_start4, s_start5, List.replicate, List.set_cons_zero, List.set_cons_succ, asB_bl, asS_str, Nat.reduceSub, Nat.reduceAdd, addW.eq_1, addW.eq_2, addW.eq_3, addW.eq_4, addW.eq_5, subW.eq_1, subW.eq_2, mulW.eq_1, mulW.eq_2, mulW.eq_3, intOp.eq_1, negW.eq_1, ordW.eq_1, ordW.eq_2, isW.eq_1, isntW.eq_1, ixW.eq_1, ixW.eq_2, ixW.eq_3, slW.eq_1, slW.eq_2, slW.eq_3, revTW.eq_1, revLW.eq_1, lenW.eq_1, lenW.eq_2, lenW.eq_3, tupleW.eq_1, tupleW.eq_2, listW.eq_1, listW.eq_2, min2W.eq_1, max2W.eq_1, strW.eq_1, strW.eq_2, joinW.eq_1, joinW.eq_2, walkLW.eq_1, walkTW.eq_1, walkSW.eq_1, range1W.eq_1, zipW.eq_1, zipW.eq_2, tupG.eq_1, gsW.eq_1, gsW.eq_2, par2.eq_1, extW.eq_1, extW.eq_2, partW.eq_1, optW.eq_1, optW.eq_2, modW, fdivW, powW, ltW, leW, gtW, geW, isNone, isi_non, isi_bl, isi_int, isi_str, isi_tup, isi_lst, upperW, putW, appW, tupW, lstW, asB_bl, String.reduceBEq, beq_self_eq_true, Bool.or_true, Bool.true_or, Bool.or_false, Bool.false_or, Bool.and_true, Bool.true_and, Bool.and_false, Bool.false_and, Bool.not_true, Bool.not_false, forall_const, true_implies, true_and, and_true, false_implies, reduceCtorEq, List.length_cons, List.length_nil, forall_eq, imp_self, implies_true, if_true, if_false, Bool.false_eq_true, Bool.true_eq_false]
      refine (summed_ret L (by omega)).go ?_
      rw [rowsOf_T]
    have eS : (Ls.map rowsT).map (fun d => match rowsOf d with | some L => rowsT (sumR L) | none => d) = (Ls.map sumR).map rowsT := by
      rw [List.map_map, List.map_map]
      refine List.map_congr_left fun L _ => ?_
      show (match rowsOf (rowsT L) with | some L => rowsT (sumR L) | none => rowsT L) = _
      rw [rowsOf_T]
      rfl
    rw [eS, eqW_lots]
    exact ⟨true, rfl, rfl⟩
theorem law_wp : (bLaw (lawE 13)).wp (fun f => ∃ b, f = .rt (.bl b) ∧ b = true) fun _ => False := by
  rw [env_is]
  simp only [bLaw, W.bind_wp, W.ret_wp, W.want_wp, W.any_wp, s_ite, s_get0, s_get, s_then, s_end, s_run, s_calm, s_fail, s_start1, s_start2, s_start3, s_start4, s_start5, List.replicate, List.set_cons_zero, List.set_cons_succ, asB_bl, asS_str, Nat.reduceSub, Nat.reduceAdd, addW.eq_1, addW.eq_2, addW.eq_3, addW.eq_4, addW.eq_5, subW.eq_1, subW.eq_2, mulW.eq_1, mulW.eq_2, mulW.eq_3, intOp.eq_1, negW.eq_1, ordW.eq_1, ordW.eq_2, isW.eq_1, isntW.eq_1, ixW.eq_1, ixW.eq_2, ixW.eq_3, slW.eq_1, slW.eq_2, slW.eq_3, revTW.eq_1, revLW.eq_1, lenW.eq_1, lenW.eq_2, lenW.eq_3, tupleW.eq_1, tupleW.eq_2, listW.eq_1, listW.eq_2, min2W.eq_1, max2W.eq_1, strW.eq_1, strW.eq_2, joinW.eq_1, joinW.eq_2, walkLW.eq_1, walkTW.eq_1, walkSW.eq_1, range1W.eq_1, zipW.eq_1, zipW.eq_2, tupG.eq_1, gsW.eq_1, gsW.eq_2, par2.eq_1, extW.eq_1, extW.eq_2, partW.eq_1, optW.eq_1, optW.eq_2, modW, fdivW, powW, ltW, leW, gtW, geW, isNone, isi_non, isi_bl, isi_int, isi_str, isi_tup, isi_lst, upperW, putW, appW, tupW, lstW, asB_bl, String.reduceBEq, beq_self_eq_true, Bool.or_true, Bool.true_or, Bool.or_false, Bool.false_or, Bool.and_true, Bool.true_and, Bool.and_false, Bool.false_and, Bool.not_true, Bool.not_false, forall_const, true_implies, true_and, and_true, false_implies, reduceCtorEq, List.length_cons, List.length_nil, forall_eq, imp_self, implies_true, if_true, if_false, Bool.false_eq_true, Bool.true_eq_false]
  refine draw_wp (by decide) (by decide) fun r r0 r1 => ?_
  simp only [W.bind_wp, W.ret_wp, W.want_wp, W.any_wp, s_ite, s_get0, s_get, s_then, s_end, s_run, s_calm, s_fail, s_start1, s_start2, s_start3, s_start4, s_start5, List.replicate, List.set_cons_zero, List.set_cons_succ, asB_bl, asS_str, Nat.reduceSub, Nat.reduceAdd, addW.eq_1, addW.eq_2, addW.eq_3, addW.eq_4, addW.eq_5, subW.eq_1, subW.eq_2, mulW.eq_1, mulW.eq_2, mulW.eq_3, intOp.eq_1, negW.eq_1, ordW.eq_1, ordW.eq_2, isW.eq_1, isntW.eq_1, ixW.eq_1, ixW.eq_2, ixW.eq_3, slW.eq_1, slW.eq_2, slW.eq_3, revTW.eq_1, revLW.eq_1, lenW.eq_1, lenW.eq_2, lenW.eq_3, tupleW.eq_1, tupleW.eq_2, listW.eq_1, listW.eq_2, min2W.eq_1, max2W.eq_1, strW.eq_1, strW.eq_2, joinW.eq_1, joinW.eq_2, walkLW.eq_1, walkTW.eq_1, walkSW.eq_1, range1W.eq_1, zipW.eq_1, zipW.eq_2, tupG.eq_1, gsW.eq_1, gsW.eq_2, par2.eq_1, extW.eq_1, extW.eq_2, partW.eq_1, optW.eq_1, optW.eq_2, modW, fdivW, powW, ltW, leW, gtW, geW, isNone, isi_non, isi_bl, isi_int, isi_str, isi_tup, isi_lst, upperW, putW, appW, tupW, lstW, asB_bl, String.reduceBEq, beq_self_eq_true, Bool.or_true, Bool.true_or, Bool.or_false, Bool.false_or, Bool.and_true, Bool.true_and, Bool.and_false, Bool.false_and, Bool.not_true, Bool.not_false, forall_const, true_implies, true_and, and_true, false_implies, reduceCtorEq, List.length_cons, List.length_nil, forall_eq, imp_self, implies_true, if_true, if_false, Bool.false_eq_true, Bool.true_eq_false]
  refine names_wp (by omega) (by omega) fun fs lf fw _ => ?_
  refine draw_wp (by decide) (by decide) fun k k0 k1 => ?_
  simp only [W.bind_wp, W.ret_wp, W.want_wp, W.any_wp, s_ite, s_get0, s_get, s_then, s_end, s_run, s_calm, s_fail, s_start1, s_start2, s_start3, s_start4, s_start5, List.replicate, List.set_cons_zero, List.set_cons_succ, asB_bl, asS_str, Nat.reduceSub, Nat.reduceAdd, addW.eq_1, addW.eq_2, addW.eq_3, addW.eq_4, addW.eq_5, subW.eq_1, subW.eq_2, mulW.eq_1, mulW.eq_2, mulW.eq_3, intOp.eq_1, negW.eq_1, ordW.eq_1, ordW.eq_2, isW.eq_1, isntW.eq_1, ixW.eq_1, ixW.eq_2, ixW.eq_3, slW.eq_1, slW.eq_2, slW.eq_3, revTW.eq_1, revLW.eq_1, lenW.eq_1, lenW.eq_2, lenW.eq_3, tupleW.eq_1, tupleW.eq_2, listW.eq_1, listW.eq_2, min2W.eq_1, max2W.eq_1, strW.eq_1, strW.eq_2, joinW.eq_1, joinW.eq_2, walkLW.eq_1, walkTW.eq_1, walkSW.eq_1, range1W.eq_1, zipW.eq_1, zipW.eq_2, tupG.eq_1, gsW.eq_1, gsW.eq_2, par2.eq_1, extW.eq_1, extW.eq_2, partW.eq_1, optW.eq_1, optW.eq_2, modW, fdivW, powW, ltW, leW, gtW, geW, isNone, isi_non, isi_bl, isi_int, isi_str, isi_tup, isi_lst, upperW, putW, appW, tupW, lstW, asB_bl, String.reduceBEq, beq_self_eq_true, Bool.or_true, Bool.true_or, Bool.or_false, Bool.false_or, Bool.and_true, Bool.true_and, Bool.and_false, Bool.false_and, Bool.not_true, Bool.not_false, forall_const, true_implies, true_and, and_true, false_implies, reduceCtorEq, List.length_cons, List.length_nil, forall_eq, imp_self, implies_true, if_true, if_false, Bool.false_eq_true, Bool.true_eq_false]
  refine names_wp (by omega) (by omega) fun ss ls sw _ => ?_
  refine ⟨small (by decide), ?_⟩
  have f0 : fs ≠ [] := by
    intro z
    rw [z] at lf
    simp at lf
    omega
  have s0 : ss ≠ [] := by
    intro z
    rw [z] at ls
    simp at ls
    omega
  simp only [bLaw_13, W.bind_wp, W.ret_wp, W.want_wp, W.any_wp, s_ite, s_get0, s_get, s_then, s_end, s_run, s_calm, s_fail, s_start1, s_start2, s_start3, s_start4, s_start5, List.replicate, List.set_cons_zero, List.set_cons_succ, asB_bl, asS_str, Nat.reduceSub, Nat.reduceAdd, addW.eq_1, addW.eq_2, addW.eq_3, addW.eq_4, addW.eq_5, subW.eq_1, subW.eq_2, mulW.eq_1, mulW.eq_2, mulW.eq_3, intOp.eq_1, negW.eq_1, ordW.eq_1, ordW.eq_2, isW.eq_1, isntW.eq_1, ixW.eq_1, ixW.eq_2, ixW.eq_3, slW.eq_1, slW.eq_2, slW.eq_3, revTW.eq_1, revLW.eq_1, lenW.eq_1, lenW.eq_2, lenW.eq_3, tupleW.eq_1, tupleW.eq_2, listW.eq_1, listW.eq_2, min2W.eq_1, max2W.eq_1, strW.eq_1, strW.eq_2, joinW.eq_1, joinW.eq_2, walkLW.eq_1, walkTW.eq_1, walkSW.eq_1, range1W.eq_1, zipW.eq_1, zipW.eq_2, tupG.eq_1, gsW.eq_1, gsW.eq_2, par2.eq_1, extW.eq_1, extW.eq_2, partW.eq_1, optW.eq_1, optW.eq_2, modW, fdivW, powW, ltW, leW, gtW, geW, isNone, isi_non, isi_bl, isi_int, isi_str, isi_tup, isi_lst, upperW, putW, appW, tupW, lstW, asB_bl, String.reduceBEq, beq_self_eq_true, Bool.or_true, Bool.true_or, Bool.or_false, Bool.false_or, Bool.and_true, Bool.true_and, Bool.and_false, Bool.false_and, Bool.not_true, Bool.not_false, forall_const, true_implies, true_and, and_true, false_implies, reduceCtorEq, List.length_cons, List.length_nil, forall_eq, imp_self, implies_true, if_true, if_false, Bool.false_eq_true, Bool.true_eq_false]
  refine lcD_go ?_
  simp only [wipeE, W.bind_wp, W.ret_wp, W.want_wp, W.any_wp, s_ite, s_get0, s_get, s_then, s_end, s_run, s_calm, s_fail, s_start1, s_start2, s_start3, s_start4, s_start5, List.replicate, List.set_cons_zero, List.set_cons_succ, asB_bl, asS_str, Nat.reduceSub, Nat.reduceAdd, addW.eq_1, addW.eq_2, addW.eq_3, addW.eq_4, addW.eq_5, subW.eq_1, subW.eq_2, mulW.eq_1, mulW.eq_2, mulW.eq_3, intOp.eq_1, negW.eq_1, ordW.eq_1, ordW.eq_2, isW.eq_1, isntW.eq_1, ixW.eq_1, ixW.eq_2, ixW.eq_3, slW.eq_1, slW.eq_2, slW.eq_3, revTW.eq_1, revLW.eq_1, lenW.eq_1, lenW.eq_2, lenW.eq_3, tupleW.eq_1, tupleW.eq_2, listW.eq_1, listW.eq_2, min2W.eq_1, max2W.eq_1, strW.eq_1, strW.eq_2, joinW.eq_1, joinW.eq_2, walkLW.eq_1, walkTW.eq_1, walkSW.eq_1, range1W.eq_1, zipW.eq_1, zipW.eq_2, tupG.eq_1, gsW.eq_1, gsW.eq_2, par2.eq_1, extW.eq_1, extW.eq_2, partW.eq_1, optW.eq_1, optW.eq_2, modW, fdivW, powW, ltW, leW, gtW, geW, isNone, isi_non, isi_bl, isi_int, isi_str, isi_tup, isi_lst, upperW, putW, appW, tupW, lstW, asB_bl, String.reduceBEq, beq_self_eq_true, Bool.or_true, Bool.true_or, Bool.or_false, Bool.false_or, Bool.and_true, Bool.true_and, Bool.and_false, Bool.false_and, Bool.not_true, Bool.not_false, forall_const, true_implies, true_and, and_true, false_implies, reduceCtorEq, List.length_cons, List.length_nil, forall_eq, imp_self, implies_true, if_true, if_false, Bool.false_eq_true, Bool.true_eq_false]
  refine ⟨by decide, ?_⟩
  refine lcW_go (fun i acc => ∃ Ls : List (List PRow), acc = Ls.map rowsT ∧ Ls.length = i ∧ ∀ L ∈ Ls, LR fs ss 8 L) ⟨[], rfl, rfl, fun _ h => (nomatch h)⟩ (fun i d acc hd hp => ?_) (fun acc hp => ?_)
  · obtain ⟨Ls, rfl, lL, hL⟩ := hp
    obtain ⟨hi, rfl⟩ := rangeAt hd
    have hi : i < 2 := hi
    simp only [W.bind_wp, W.ret_wp, W.want_wp, W.any_wp, s_ite, s_get0, s_get, s_then, s_end, s_run, s_calm, s_fail, s_start1, s_start2, s_start3, s_start4, s_start5, List.replicate, List.set_cons_zero, List.set_cons_succ, asB_bl, asS_str, Nat.reduceSub, Nat.reduceAdd, addW.eq_1, addW.eq_2, addW.eq_3, addW.eq_4, addW.eq_5, subW.eq_1, subW.eq_2, mulW.eq_1, mulW.eq_2, mulW.eq_3, intOp.eq_1, negW.eq_1, ordW.eq_1, ordW.eq_2, isW.eq_1, isntW.eq_1, ixW.eq_1, ixW.eq_2, ixW.eq_3, slW.eq_1, slW.eq_2, slW.eq_3, revTW.eq_1, revLW.eq_1, lenW.eq_1, lenW.eq_2, lenW.eq_3, tupleW.eq_1, tupleW.eq_2, listW.eq_1, listW.eq_2, min2W.eq_1, max2W.eq_1, strW.eq_1, strW.eq_2, joinW.eq_1, joinW.eq_2, walkLW.eq_1, walkTW.eq_1, walkSW.eq_1, range1W.eq_1, zipW.eq_1, zipW.eq_2, tupG.eq_1, gsW.eq_1, gsW.eq_2, par2.eq_1, extW.eq_1, extW.eq_2, partW.eq_1, optW.eq_1, optW.eq_2, modW, fdivW, powW, ltW, leW, gtW, geW, isNone, isi_non, isi_bl, isi_int, isi_str, isi_tup, isi_lst, upperW, putW, appW, tupW, lstW, asB_bl, String.reduceBEq, beq_self_eq_true, Bool.or_true, Bool.true_or, Bool.or_false, Bool.false_or, Bool.and_true, Bool.true_and, Bool.and_false, Bool.false_and, Bool.not_true, Bool.not_false, forall_const, true_implies, true_and, and_true, false_implies, reduceCtorEq, List.length_cons, List.length_nil, forall_eq, imp_self, implies_true, if_true, if_false, Bool.false_eq_true, Bool.true_eq_false]
    refine lrows_wp (m := 8) f0 (by omega) s0 (by omega) (by decide) fun L lr => ⟨by rw [List.length_map]; exact smallT (by omega), Ls ++ [L], by rw [List.map_append]; rfl, by rw [List.length_append, lL]; rfl, fun M hM => ?_⟩
    rcases List.mem_append.mp hM with h | h
    · exact hL M h
    · rw [List.mem_singleton.mp h]
      exact lr
  · obtain ⟨Ls, rfl, lL, hL⟩ := hp
    have lL : Ls.length = 2 := by rw [lL]; exact rangeLen _ _
    have nil8 : LR fs ss 8 [] := ⟨Nat.zero_le _, fun _ h => (nomatch h)⟩
    refine ⟨by decide, by decide, ?_⟩
    have ec : catLW (.lst (Ls.map rowsT)) (.lst [.tup []]) = (W.want (Ls.length + 1 ≤ sizeLine)).bind fun _ => W.ret (.lst ((Ls ++ [[]]).map rowsT)) := by
      show (W.want ((Ls.map rowsT).length + 1 ≤ sizeLine)).bind _ = _
      rw [List.length_map, List.map_append]
      rfl
    rw [ec]
    simp only [W.bind_wp, W.ret_wp, W.want_wp, W.any_wp, s_ite, s_get0, s_get, s_then, s_end, s_run, s_calm, s_fail, s_start1, s_start2, s_start3, s_start4, s_start5, List.replicate, List.set_cons_zero, List.set_cons_succ, asB_bl, asS_str, Nat.reduceSub, Nat.reduceAdd, addW.eq_1, addW.eq_2, addW.eq_3, addW.eq_4, addW.eq_5, subW.eq_1, subW.eq_2, mulW.eq_1, mulW.eq_2, mulW.eq_3, intOp.eq_1, negW.eq_1, ordW.eq_1, ordW.eq_2, isW.eq_1, isntW.eq_1, ixW.eq_1, ixW.eq_2, ixW.eq_3, slW.eq_1, slW.eq_2, slW.eq_3, revTW.eq_1, revLW.eq_1, lenW.eq_1, lenW.eq_2, lenW.eq_3, tupleW.eq_1, tupleW.eq_2, listW.eq_1, listW.eq_2, min2W.eq_1, max2W.eq_1, strW.eq_1, strW.eq_2, joinW.eq_1, joinW.eq_2, walkLW.eq_1, walkTW.eq_1, walkSW.eq_1, range1W.eq_1, zipW.eq_1, zipW.eq_2, tupG.eq_1, gsW.eq_1, gsW.eq_2, par2.eq_1, extW.eq_1, extW.eq_2, partW.eq_1, optW.eq_1, optW.eq_2, modW, fdivW, powW, ltW, leW, gtW, geW, isNone, isi_non, isi_bl, isi_int, isi_str, isi_tup, isi_lst, upperW, putW, appW, tupW, lstW, asB_bl, String.reduceBEq, beq_self_eq_true, Bool.or_true, Bool.true_or, Bool.or_false, Bool.false_or, Bool.and_true, Bool.true_and, Bool.and_false, Bool.false_and, Bool.not_true, Bool.not_false, forall_const, true_implies, true_and, and_true, false_implies, reduceCtorEq, List.length_cons, List.length_nil, forall_eq, imp_self, implies_true, if_true, if_false, Bool.false_eq_true, Bool.true_eq_false]
    refine ⟨by rw [lL]; decide, by decide, ?_⟩
    have hh : 0 < Ls.length := by omega
    have a0 : atI ((Ls ++ [[]]).map rowsT) 0 = some (rowsT Ls[0]) := by
      have : atI ((Ls ++ [[]]).map rowsT) ((0 : Nat) : Int) = some (rowsT Ls[0]) := atI_nat (by rw [List.getElem?_map, List.getElem?_append_left hh, List.getElem?_eq_getElem hh]; rfl)
      exact this
    simp only [bLaw_12, a0, W.bind_wp, W.ret_wp, W.want_wp, W.any_wp, s_ite, s_get0, s_get, s_then, s_end, s_run, s_calm, s_fail, s_start1, s_start2, s_start3, s_start4, s_start5, List.replicate, List.set_cons_zero, List.set_cons_succ, asB_bl, asS_str, Nat.reduceSub, Nat.reduceAdd, addW.eq_1, addW.eq_2, addW.eq_3, addW.eq_4, addW.eq_5, subW.eq_1, subW.eq_2, mulW.eq_1, mulW.eq_2, mulW.eq_3, intOp.eq_1, negW.eq_1, ordW.eq_1, ordW.eq_2, isW.eq_1, isntW.eq_1, ixW.eq_1, ixW.eq_2, ixW.eq_3, slW.eq_1, slW.eq_2, slW.eq_3, revTW.eq_1, revLW.eq_1, lenW.eq_1, lenW.eq_2, lenW.eq_3, tupleW.eq_1, tupleW.eq_2, listW.eq_1, listW.eq_2, min2W.eq_1, max2W.eq_1, strW.eq_1, strW.eq_2, joinW.eq_1, joinW.eq_2, walkLW.eq_1, walkTW.eq_1, walkSW.eq_1, range1W.eq_1, zipW.eq_1, zipW.eq_2, tupG.eq_1, gsW.eq_1, gsW.eq_2, par2.eq_1, extW.eq_1, extW.eq_2, partW.eq_1, optW.eq_1, optW.eq_2, modW, fdivW, powW, ltW, leW, gtW, geW, isNone, isi_non, isi_bl, isi_int, isi_str, isi_tup, isi_lst, upperW, putW, appW, tupW, lstW, asB_bl, String.reduceBEq, beq_self_eq_true, Bool.or_true, Bool.true_or, Bool.or_false, Bool.false_or, Bool.and_true, Bool.true_and, Bool.and_false, Bool.false_and, Bool.not_true, Bool.not_false, forall_const, true_implies, true_and, and_true, false_implies, reduceCtorEq, List.length_cons, List.length_nil, forall_eq, imp_self, implies_true, if_true, if_false, Bool.false_eq_true, Bool.true_eq_false]
    refine near_wp (hL _ (List.getElem_mem hh)) fun N hN => ⟨by rw [List.length_map, List.length_append, lL]; decide, ?_⟩
    have eA : (Ls ++ [[]]).map rowsT ++ [rowsT N] = (Ls ++ [[]] ++ [N]).map rowsT := by
      rw [List.map_append (l₁ := Ls ++ [[]])]
      rfl
    rw [eA]
    refine l11_wp fw sw ⟨by rw [List.length_append, List.length_append, lL]; rfl, fun M hM => ?_⟩
    rcases List.mem_append.mp hM with h | h
    · rcases List.mem_append.mp h with h | h
      · exact hL M h
      · rw [List.mem_singleton.mp h]
        exact nil8
    · rw [List.mem_singleton.mp h]
      exact hN
end LP.K04
/-! Dicts whose keys are tuples within tuples, at the hands' level. -/
namespace PK
open PySem PySem.Spec PyProof.Rows L2
mutual
/-- data that may stand in a key -/
def nkP : PyData → Option NestedKey
  | .none => some .none
  | .int i => some (.num i)
  | .str x => some (.text x)
  | .tuple ds => (nkPs ds).map .tup
  | _ => none
def nkPs : List PyData → Option (List NestedKey)
  | [] => some []
  | d :: ds => (nkP d).bind fun k => (nkPs ds).map (k :: ·)
end
section
variable {X : Cx} {pins : List (Addr × Obj)} {σ : L2.St} {H : Hp} {s : Shared}
mutual
theorem nk_is (I : Inv X pins σ H s) : ∀ {d : PyData} {v : V} {k : NestedKey} {u : Value}, Dp X.K H v d → nkP d = some k → RelV v u → NestedIs s.heap k u
  | .none, _, _, _, .non, e, r => by
    cases e
    cases r
    exact .none
  | .int i, _, _, _, .int _, e, r => by
    cases e
    obtain ⟨t, rfl⟩ := r
    exact .int _ _
  | .str y, _, _, _, .str _, e, r => by
    cases e
    obtain ⟨t, rfl⟩ := r
    exact .text _ _
  | .bool _, _, _, _, _, e, _ => by simp [nkP] at e
  | .list _, _, _, _, _, e, _ => by simp [nkP] at e
  | .dict _, _, _, _, h, _, _ => by cases h
  | .tuple ds, _, _, _, .tup hs ha, e, r => by
    rw [nkP] at e
    obtain ⟨ks, e1, rfl⟩ := Option.map_eq_some_iff.mp e
    cases r
    obtain ⟨its, rv, ⟨o, ho, hc, n, hd⟩, _⟩ := I.tuple hs
    exact .tup ho hc hd (by simpa using nks_is I ha e1 rv)
theorem nks_is (I : Inv X pins σ H s) : ∀ {ds : List PyData} {vs : List V} {ks : List NestedKey} {us : List Value}, DpAll X.K H vs ds → nkPs ds = some ks → Vals vs us → NestedAll s.heap ks us
  | [], _, _, _, .nil, e, r => by
    cases e
    cases r
    exact .nil
  | d :: ds, _, _, _, .cons h1 h2, e, r => by
    rw [nkPs] at e
    obtain ⟨k, e1, e⟩ := Option.bind_eq_some_iff.mp e
    obtain ⟨ks, e2, rfl⟩ := Option.map_eq_some_iff.mp e
    cases r with
    | cons r1 r2 => exact .cons (nk_is I h1 e1 r1) (nks_is I h2 e2 r2)
end
end
/-- v is the tuple that is the key k -/
def KAt (K : PySem.W.Frag) (H : Hp) (v : V) (k : NestedKey) : Prop := ∃ b d, v = .ref b ∧ Dp K H v d ∧ nkP d = some k ∧ k.depth ≤ 8
abbrev NKV := NestedKey × V × V
abbrev KN : List NKV → List (NestedKey × Addr × Value) → Prop := Paired fun p q => p.1 = q.1 ∧ p.2.1 = V.ref q.2.1 ∧ RelV p.2.2 q.2.2
def nget (kvs : List NKV) (k : NestedKey) : Option V := (kvs.find? fun p => decide (p.1 = k)).map fun p => p.2.2
def nput (kvs : List NKV) (k : NestedKey) (y v : V) : List NKV := if (nget kvs k).isSome then kvs.map (fun p => if p.1 = k then (p.1, p.2.1, v) else p) else kvs ++ [(k, y, v)]
theorem nget_pos {p : NKV} {kvs : List NKV} {k : NestedKey} (e : p.1 = k) : nget (p :: kvs) k = some p.2.2 := by simp [nget, List.find?_cons, e]
theorem nget_neg {p : NKV} {kvs : List NKV} {k : NestedKey} (e : ¬ p.1 = k) : nget (p :: kvs) k = nget kvs k := by simp [nget, List.find?_cons, e]
theorem KN.val {kvs : List NKV} {xs : List (NestedKey × Addr × Value)} (r : KN kvs xs) (k : NestedKey) : RelO (nget kvs k) ((atKey xs k).map (·.2)) := by
  induction r with
  | nil => exact True.intro
  | @cons p q ps qs h t ih =>
    obtain ⟨h1, _, h2⟩ := h
    by_cases e : p.1 = k
    · have e' : q.1 = k := h1.symm.trans e
      have b : atKey (q :: qs) k = some q.2 := by simp [atKey, List.find?_cons, e']
      rw [nget_pos e, b]; exact h2
    · have e' : ¬ q.1 = k := fun z => e (h1.trans z)
      have b : atKey (q :: qs) k = atKey qs k := by simp [atKey, List.find?_cons, e']
      rw [nget_neg e, b]; exact ih
theorem KN.repl {kvs : List NKV} {xs : List (NestedKey × Addr × Value)} (r : KN kvs xs) (k : NestedKey) {y : V} {u : Value} (ry : RelV y u) :
    KN (kvs.map fun p => if p.1 = k then (p.1, p.2.1, y) else p) (xs.map (putAt k u)) := by
  induction r with
  | nil => exact .nil
  | @cons p q ps qs h t ih =>
    rw [List.map_cons, List.map_cons]
    refine .cons ?_ ih
    obtain ⟨h1, h2, h3⟩ := h
    unfold putAt
    by_cases e : p.1 = k
    · rw [if_pos e, if_pos (h1.symm.trans e)]; exact ⟨h1, h2, ry⟩
    · rw [if_neg e, if_neg (fun z => e (h1.trans z))]; exact ⟨h1, h2, h3⟩
theorem KN.put {kvs : List NKV} {xs : List (NestedKey × Addr × Value)} (r : KN kvs xs) (k : NestedKey) {b : Addr} {y : V} {u : Value} (ry : RelV y u) : KN (nput kvs k (.ref b) y) (storedH xs k b u) := by
  have e : (nget kvs k).isSome = (atKey xs k).isSome := by rw [(r.val k).isSome_eq, Option.isSome_map]
  unfold nput storedH
  rw [e]
  by_cases q : (atKey xs k).isSome = true
  · rw [if_pos q, if_pos q]; exact r.repl k ry
  · rw [if_neg q, if_neg q]; exact Paired.snoc r ⟨rfl, rfl, ry⟩
section
variable (P : Program) (w : World) (a : Addr) (kvs : List NKV)
def dnOk (h : Heap) : Prop := kvs.length ≤ sizeLine ∧ (a == sysModules) = false ∧ ∃ xs : List (NestedKey × Addr × Value), KN kvs xs ∧
  ∃ o es ep, h.get? a = some o ∧ o.ExactDict ∧ o.data = .dict es ep ∧ es.toList = xs.map (entryOfKey (nestedKind P w)) ∧ (xs.map (·.1)).Nodup
/-- the dict at a -/
def DNO : HO := .ext (dnOk P w a kvs)
end
section
variable {X : Cx} {pins : List (Addr × Obj)} {σ : L2.St} {H : Hp} {s : Shared} {a : Addr} {kvs : List NKV} {y v d : V} {u r : Value} {k : NestedKey} {A : Around} {E : Value → Shared → Prop}
theorem KAt.is (I : Inv X pins σ H s) (h : KAt X.K H y k) (ry : RelV y u) : ∃ b, u = .ref b ∧ y = .ref b ∧ (nestedKind X.prog X.w).is s.heap k b := by
  obtain ⟨b, d, rfl, hd, e, dep⟩ := h
  cases ry
  exact ⟨b, rfl, rfl, nk_is I hd e rfl, dep⟩
end
/-! ### readings and rules -/
section
variable {X : Cx} {o i e f value : Expr} {pos pos' apos cpos : Pos} {td ty tv tx : TE}
end
end PK
/-! Things that change, by value: computations over a store. -/
namespace LP.LM
open PySem PySem.Spec PyProof.Rows L2 PK
abbrev Sto := List D
structure M (α : Type) where
  wp : (α → Sto → Prop) → (Ex → Sto → Prop) → Sto → Prop
  mono : ∀ {Q Q' : α → Sto → Prop} {E E' : Ex → Sto → Prop} {s : Sto}, (∀ a s, Q a s → Q' a s) → (∀ e s, E e s → E' e s) → wp Q E s → wp Q' E' s
namespace M
variable {α β γ : Type}
def ret (a : α) : M α := ⟨fun Q _ s => Q a s, fun h _ q => h _ _ q⟩
def bind (m : M α) (f : α → M β) : M β := ⟨fun Q E s => m.wp (fun a s' => (f a).wp Q E s') E s, fun h1 h2 q => m.mono (fun a s' => (f a).mono h1 h2) h2 q⟩
/-- a computation that looks at no store -/
def lift (m : W α) : M α := ⟨fun Q E s => m.wp (fun a => Q a s) fun e => E e s, fun h1 h2 q => m.mono (fun a => h1 a _) (fun e => h2 e _) q⟩
def want (p : Prop) : M Unit := ⟨fun Q _ s => p ∧ Q () s, fun h _ q => ⟨q.1, h _ _ q.2⟩⟩
def fail : M α := ⟨fun _ _ _ => False, fun _ _ q => q⟩
def raise (e : Ex) : M α := ⟨fun _ E s => E e s, fun _ h q => h _ _ q⟩
def any (P : α → Prop) : M α := ⟨fun Q _ s => ∀ a, P a → Q a s, fun h _ q a p => h _ _ (q a p)⟩
def calm (m : M α) : M α := ⟨fun Q _ s => m.wp Q (fun _ _ => False) s, fun h _ q => m.mono h (fun _ _ z => z) q⟩
def catch_ (m : M α) (f : Ex → M α) : M α := ⟨fun Q E s => m.wp Q (fun e s' => (f e).wp Q E s') s, fun h1 h2 q => m.mono h1 (fun e s' => (f e).mono h1 h2) q⟩
def ite (b : Bool) (x y : M α) : M α := match b with | true => x | false => y
theorem ret_wp {a : α} {Q : α → Sto → Prop} {E : Ex → Sto → Prop} {s : Sto} : (ret a).wp Q E s ↔ Q a s := Iff.rfl
theorem bind_wp {m : M α} {f : α → M β} {Q : β → Sto → Prop} {E : Ex → Sto → Prop} {s : Sto} : (bind m f).wp Q E s ↔ m.wp (fun a s' => (f a).wp Q E s') E s := Iff.rfl
theorem want_wp {p : Prop} {Q : Unit → Sto → Prop} {E : Ex → Sto → Prop} {s : Sto} : (want p).wp Q E s ↔ p ∧ Q () s := Iff.rfl
theorem any_wp {P : α → Prop} {Q : α → Sto → Prop} {E : Ex → Sto → Prop} {s : Sto} : (any P).wp Q E s ↔ ∀ a, P a → Q a s := Iff.rfl
end M
/-! ### where one stands -/
abbrev Ca (Γ : Sig) (al : List Addr) : Ctx := ⟨Γ, .al al⟩
/-- data that may stand in a key -/
def nD (d : D) : Option NestedKey := if d.plain then nkP d.toP else none
/-- a dict whose keys are tuples -/
abbrev dicN (ks ds : List D) : D := .tup [.lst ks, .lst ds]
/-- a thing that is walked: it can't be written -/
abbrev lockD (d : D) : D := .tup [.non, d]
/-- a thing of the store: its object, its value, what stands in it -/
inductive Sh (Γ : Sig) (a : Addr) : HO → D → List V → List D → Prop
  | lst {us : List V} {ds : List D} : Sh Γ a (.lst us) (.lst ds) us ds
  | dN {kvs : List NKV} {ks ds : List D} : ks.map nD = kvs.map (fun p => some p.1) → (∀ p ∈ kvs, p.1.depth ≤ 8 ∧ ∃ l, p.1 = .tup l) → (kvs.map (·.1)).Nodup → ds.length = ks.length → Sh Γ a (DNO Γ.P Γ.w a kvs) (dicN ks ds) (kvs.map (·.2.1) ++ kvs.map (·.2.2)) (ks ++ ds)
  | dK {ps : List (Key × V)} {ks ds : List D} : ks = ps.map (fun p => match p.1 with | .inl i => D.int i | .inr y => D.str y) → (∀ p ∈ ps, ∀ y, p.1 = .inr y → PyData.strOk y = true) → (ps.Pairwise fun a b => a.1 ≠ b.1) → Sh Γ a (.dK ps) (.dct ks ds) (ps.map (·.2)) ds
  | ins {C dx : Addr} {c : Nat} {xs : List V} {ds : List D} : Γ.cl c = some C → xs.length ≤ (Γ.fl c).length → Sh Γ a (.ins C dx ((Γ.fl c).zip xs)) (.obj c ds) xs ds
  | fz {o : HO} {d : D} {us : List V} {ds : List D} {od : PySem.Obj} : Sh Γ a o d us ds → Sh Γ a (.frz od o) (lockD d) us ds
theorem Sh.mt {Γ : Sig} {a : Addr} {o : HO} {d : D} {us : List V} {ds : List D} (h : Sh Γ a o d us ds) : Mt o := by
  cases h with
  | fz h => cases h <;> trivial
  | _ => trivial
def Obj (Γ : Sig) (al : List Addr) (a : Addr) (Hm : Hp) (o : HO) (d : D) : Prop := ∃ us ds, Sh Γ a o d us ds ∧ RpAll (Ca Γ al) Hm us ds
/-- the store stands: M is what is kept out -/
structure Stands (Γ : Sig) (al : List Addr) (s : Sto) (M : List Addr) (H : Hp) : Prop where
  nd : al.Nodup
  len : s.length = al.length
  ob : ∀ (i : Nat) (a : Addr) (d : D), al[i]? = some a → (s : List D)[i]? = some d → ∃ o, H a = some o ∧ Obj Γ al a (ms M H) o d
/-- later: more things in the store, all else as it was -/
structure Later (al : List Addr) (H : Hp) (al' : List Addr) (H' : Hp) : Prop where
  ex : ∃ be, al' = al ++ be ∧ ∀ b ∈ be, H b = none ∧ b ∉ al
  gr : ∀ b o, b ∉ al → H b = some o → H' b = some o
  fz : ∀ b o u, H b = some (.frz o u) → H' b = some (.frz o u)
theorem Later.refl (al : List Addr) (H : Hp) : Later al H al H := ⟨⟨[], (List.append_nil _).symm, fun _ h => (nomatch h)⟩, fun _ _ _ h => h, fun _ _ _ h => h⟩
theorem Later.of {al : List Addr} {H H' : Hp} (s : Same H H') : Later al H al H' := ⟨⟨[], (List.append_nil _).symm, fun _ h => (nomatch h)⟩, fun b o _ h => s b o h, fun b _ _ h => s b _ h⟩
theorem Later.grof {Γ : Sig} {al : List Addr} {H H' : Hp} (s : Gr (Ca Γ al) H H') : Same H H' := fun b o h => s b o (fun z => (nomatch z)) h
theorem Later.trans {a0 a1 a2 : List Addr} {H0 H1 H2 : Hp} (x : Later a0 H0 a1 H1) (y : Later a1 H1 a2 H2) : Later a0 H0 a2 H2 := by
  obtain ⟨b1, rfl, n1⟩ := x.ex
  obtain ⟨b2, rfl, n2⟩ := y.ex
  refine ⟨⟨b1 ++ b2, by rw [List.append_assoc], fun b hb => ?_⟩, fun b o n h => y.gr b o ?_ (x.gr b o n h), fun b o u h => y.fz b o u (x.fz b o u h)⟩
  · rcases List.mem_append.mp hb with h | h
    · exact n1 b h
    · have n0 : b ∉ a0 := fun z => (n2 b h).2 (List.mem_append_left _ z)
      refine ⟨?_, n0⟩
      cases q : H0 b with
      | none => rfl
      | some o =>
        have := x.gr b o n0 q
        rw [(n2 b h).1] at this
        cases this
  · intro z
    rcases List.mem_append.mp z with z | z
    · exact n z
    · rw [(n1 b z).1] at h
      cases h
theorem Later.in_ {al al' : List Addr} {H H' : Hp} (x : Later al H al' H') {b : Addr} (h : b ∈ al) : b ∈ al' := by
  obtain ⟨be, rfl, _⟩ := x.ex
  exact List.mem_append_left _ h
theorem Later.at_ {al al' : List Addr} {H H' : Hp} (x : Later al H al' H') {i : Nat} {a : Addr} (h : al[i]? = some a) : al'[i]? = some a := by
  obtain ⟨be, rfl, _⟩ := x.ex
  have hl := (List.getElem?_eq_some_iff.mp h).1
  rw [List.getElem?_append_left hl]
  exact h
/-- what is kept out grows by new things alone -/
theorem Later.ms {al al' : List Addr} {H H' : Hp} (x : Later al H al' H') {M M' : List Addr} (h : ∀ b ∈ al, b ∈ M) (hm : ∀ b ∈ M', b ∈ M ∨ b ∈ al') : Same (ms M H) (ms M' H') := fun b o e => by
  obtain ⟨h1, h2⟩ := ms_some e
  have n : b ∉ al := fun z => h2 (h b z)
  refine ms_at (x.gr b o n h1) fun z => ?_
  rcases hm b z with z | z
  · exact h2 z
  · obtain ⟨be, rfl, nb⟩ := x.ex
    rcases List.mem_append.mp z with z | z
    · exact n z
    · rw [(nb b z).1] at h1
      cases h1
section
variable {Γ : Sig} {al al' : List Addr} {H H' : Hp}
mutual
theorem _root_.LP.Rp.alm (p : ∀ (i : Nat) (a : Addr), al[i]? = some a → al'[i]? = some a) (x : Same H H') : ∀ {d : D} {v : V}, Rp (Ca Γ al) H v d → Rp (Ca Γ al') H' v d
  | .non, _, .non => .non
  | .bl _, _, .bl b => .bl b
  | .int _, _, .int i => .int i
  | .str _, _, .str y h => .str y h
  | .tup _, _, .tup hs ha => .tup (sqT_same x hs) (LP.RpAll.alm p x ha)
  | .lst _, _, .lst hs ha => .lst (x _ _ hs) (LP.RpAll.alm p x ha)
  | .obj _ _, _, .obj h1 h2 ha => .obj (x _ _ h1) h2 (LP.RpAll.alm p x ha)
  | .tok n, _, .tok h => .tok (by
    cases n with
    | zero => cases h
    | succ n =>
      obtain ⟨a, h1, rfl⟩ := Option.map_eq_some_iff.mp (show al[n]?.map V.ref = some _ from h)
      show al'[n]?.map V.ref = _
      rw [p n a h1]
      rfl)
  | .set _, _, .set h n o => .set (x _ _ h) n o
  | .txt _, _, .txt s => .txt s
  | .dct _ _, _, .dct h o e1 e2 => .dct (x _ _ h) o e1 e2
theorem _root_.LP.RpAll.alm (p : ∀ (i : Nat) (a : Addr), al[i]? = some a → al'[i]? = some a) (x : Same H H') : ∀ {ds : List D} {vs : List V}, RpAll (Ca Γ al) H vs ds → RpAll (Ca Γ al') H' vs ds
  | [], _, .nil => .nil
  | _ :: _, _, .cons h1 h2 => .cons (LP.Rp.alm p x h1) (LP.RpAll.alm p x h2)
end
end
theorem Obj.alm {Γ : Sig} {al al' : List Addr} {a : Addr} {H H' : Hp} {o : HO} {d : D} (p : ∀ (i : Nat) (a : Addr), al[i]? = some a → al'[i]? = some a) (x : Same H H') (h : Obj Γ al a H o d) : Obj Γ al' a H' o d := by
  obtain ⟨us, ds, h1, h2⟩ := h
  exact ⟨us, ds, h1, h2.alm p x⟩
/-- where one stands: al0 and H0 at the def's start; al the store's places, s what is in it -/
structure RelM (Γ : Sig) (al0 : List Addr) (H0 : Hp) (al : List Addr) (s : Sto) (S : List Addr) (A : List (Nat × Addr)) (G : List (V × D)) (σ : L2.St) (H : Hp) (env : LP.Env) : Prop where
  r : Rel (Ca Γ al) (PK.ms al H0) (S ++ al) A G σ H env
  st : Stands Γ al s ((S ++ al) ++ A.map (·.2)) H
  ex : ∃ be, al = al0 ++ be ∧ ∀ b ∈ be, H0 b = none ∧ b ∉ al0
  fz : ∀ b o u, H0 b = some (.frz o u) → H b = some (.frz o u)
section
variable {Γ : Sig} {al0 al al' : List Addr} {s s' : Sto} {H0 H H' H1 : Hp} {S : List Addr} {A : List (Nat × Addr)} {G : List (V × D)} {σ : L2.St} {env : LP.Env}
abbrev msk (S al : List Addr) (A : List (Nat × Addr)) : List Addr := (S ++ al) ++ A.map (·.2)
theorem mk_al {b : Addr} (h : b ∈ al) : b ∈ msk S al A := List.mem_append_left _ (List.mem_append_right _ h)
theorem mk_later (x : Later al H al' H') {b : Addr} (h : b ∈ msk S al' A) : b ∈ msk S al A ∨ b ∈ al' := by
  rcases List.mem_append.mp h with h | h
  · rcases List.mem_append.mp h with h | h
    · exact .inl (List.mem_append_left _ (List.mem_append_left _ h))
    · exact .inr h
  · exact .inl (List.mem_append_right _ h)
theorem Later.mks (x : Later al H al' H') : Same (PK.ms (msk S al A) H) (PK.ms (msk S al' A) H') := x.ms (fun _ h => mk_al h) fun _ h => mk_later x h
theorem _root_.LP.Rp.later {v : V} {d : D} (h : Rp (Ca Γ al) (PK.ms (msk S al A) H) v d) (x : Later al H al' H') : Rp (Ca Γ al') (PK.ms (msk S al' A) H') v d := h.alm (fun _ _ h => x.at_ h) x.mks
theorem _root_.LP.RpAll.later {v : List V} {d : List D} (h : RpAll (Ca Γ al) (PK.ms (msk S al A) H) v d) (x : Later al H al' H') : RpAll (Ca Γ al') (PK.ms (msk S al' A) H') v d := h.alm (fun _ _ h => x.at_ h) x.mks
theorem Stands.same (h : Stands Γ al s (msk S al A) H) (x : Same H H') : Stands Γ al s (msk S al A) H' := ⟨h.nd, h.len, fun i a d h1 h2 => by
  obtain ⟨o, e, ho⟩ := h.ob i a d h1 h2
  exact ⟨o, x _ _ e, ho.alm (fun _ _ h => h) (same_ms x)⟩⟩
/-- all stands on, nothing of the store changed -/
theorem RelM.of {σ' : L2.St} {env' : LP.Env} (r : RelM Γ al0 H0 al s S A G σ H env) (x : Same H H') (r' : Rel (Ca Γ al) (PK.ms al H0) (S ++ al) A G σ' H' env') : RelM Γ al0 H0 al s S A G σ' H' env' := ⟨r', r.st.same x, r.ex, fun b o u h => x _ _ (r.fz b o u h)⟩
theorem RelM.same (r : RelM Γ al0 H0 al s S A G σ H env) (x : Same H H') : RelM Γ al0 H0 al s S A G σ H' env := r.of x (r.r.same x)
end
end LP.LM
namespace LP.LM
open PySem PySem.Spec PyProof.Rows L2 PK
section
variable {Γ : Sig} {al0 al al' : List Addr} {s s' : Sto} {H0 H H' H1 : Hp} {S : List Addr} {A : List (Nat × Addr)} {G : List (V × D)} {σ : L2.St} {env : LP.Env}
theorem Stands.mt (h : Stands Γ al s (msk S al A) H) {b : Addr} (hb : b ∈ al) : ∃ o, H b = some o ∧ Mt o := by
  obtain ⟨i, hi, e⟩ := List.mem_iff_getElem.mp hb
  have h1 : al[i]? = some b := by rw [List.getElem?_eq_getElem hi, e]
  have h2 : i < (s : List D).length := by rw [h.len]; exact hi
  obtain ⟨o, ho, us, ds, sh, _⟩ := h.ob i b _ h1 (List.getElem?_eq_getElem h2)
  exact ⟨o, ho, sh.mt⟩
/-- things of the store have changed, or come to it -/
theorem RelM.later (r : RelM Γ al0 H0 al s S A G σ H env) (x : Later al H al' H') (st : Stands Γ al' s' (msk S al' A) H') : RelM Γ al0 H0 al' s' S A G σ H' env := by
  have mem := r.r
  obtain ⟨be, eb, nb⟩ := x.ex
  have nA : ∀ {i a}, (i, a) ∈ A → a ∉ al := fun h z => (mem.old _ _ h).2 (List.mem_append_right _ z)
  have eA : ∀ {i a}, (i, a) ∈ A → ∃ o, H a = some o ∧ H' a = some o := fun {i a} h => by
    obtain ⟨d, _, _, h3⟩ := mem.ow i a h
    generalize ho : H a = o at h3
    cases h3 with
    | lst _ => exact ⟨_, rfl, x.gr a _ (nA h) ho⟩
  have nA' : ∀ {i a}, (i, a) ∈ A → a ∉ al' := fun {i a} h z => by
    rw [eb] at z
    rcases List.mem_append.mp z with z | z
    · exact nA h z
    · obtain ⟨o, e, _⟩ := eA h
      rw [(nb a z).1] at e
      cases e
  refine ⟨⟨mem.len, fun i d h n => ?_, fun i a h => ?_, fun i a h => ⟨?_, fun z => ?_⟩, mem.nd, mem.ndk, fun y hy => (mem.gh y hy).later x, fun b hb => ?_, trivial, fun b hb => (nomatch hb), fun b o _ e => ?_⟩, st, ?_, fun b o u h => x.fz b o u (r.fz b o u h)⟩
  · obtain ⟨v, h1, h2⟩ := mem.fr i d h n
    exact ⟨v, h1, h2.later x⟩
  · obtain ⟨d, h1, h2, h3⟩ := mem.ow i a h
    refine ⟨d, h1, h2, ?_⟩
    obtain ⟨o, e, e'⟩ := eA h
    rw [e] at h3
    rw [e']
    cases h3 with
    | lst h3 => exact .lst (h3.later x)
  · have h0 := (mem.old i a h).1
    cases q : PK.ms al' H0 a with
    | none => rfl
    | some o =>
      obtain ⟨q1, _⟩ := ms_some q
      rw [ms_at q1 (nA h)] at h0
      cases h0
  · rcases List.mem_append.mp z with z | z
    · exact (mem.old i a h).2 (List.mem_append_left _ z)
    · exact nA' h z
  · by_cases z : b ∈ al'
    · exact st.mt z
    · rcases List.mem_append.mp hb with hb | hb
      · obtain ⟨o, e, m⟩ := mem.mu b (List.mem_append_left _ hb)
        exact ⟨o, x.gr b o (fun w => z (x.in_ w)) e, m⟩
      · exact absurd hb z
  · obtain ⟨e1, e2⟩ := ms_some e
    have n : b ∉ al := fun w => e2 (x.in_ w)
    exact x.gr b o n (mem.gr b o (fun z => (nomatch z)) (ms_at e1 n))
  · obtain ⟨b0, rfl, n0⟩ := r.ex
    refine ⟨b0 ++ be, by rw [eb, List.append_assoc], fun b hb => ?_⟩
    rcases List.mem_append.mp hb with h | h
    · exact n0 b h
    · have n1 : b ∉ al0 := fun z => (nb b h).2 (List.mem_append_left _ z)
      refine ⟨?_, n1⟩
      cases q : H0 b with
      | none => rfl
      | some o =>
        have := mem.gr b o (fun z => (nomatch z)) (ms_at q (nb b h).2)
        rw [(nb b h).1] at this
        cases this
end
/-- read: frozen, or an owned list with frozen things in it -/
inductive BpM (Γ : Sig) (al : List Addr) (M : List Addr) (H : Hp) : V → D → Prop
  | rp {v : V} {d : D} : Rp (Ca Γ al) (PK.ms M H) v d → BpM Γ al M H v d
  | lst {a : Addr} {us : List V} {ds : List D} : a ∉ al → H a = some (.lst us) → RpAll (Ca Γ al) (PK.ms M H) us ds → BpM Γ al M H (.ref a) (.lst ds)
theorem BpM.bp {Γ : Sig} {al M : List Addr} {H : Hp} {v : V} {d : D} (h : BpM Γ al M H v d) : Bp (Ca Γ al) M H v d := by
  cases h with
  | rp h => exact .rp h
  | lst n h1 h2 => exact .lst (fun z => (nomatch z)) h1 h2
theorem BpM.later {Γ : Sig} {al al' S : List Addr} {A : List (Nat × Addr)} {H H' : Hp} {v : V} {d : D} (h : BpM Γ al (msk S al A) H v d) (x : Later al H al' H') : BpM Γ al' (msk S al' A) H' v d := by
  cases h with
  | rp h => exact .rp (h.later x)
  | lst n h1 h2 =>
    refine .lst (fun z => ?_) (x.gr _ _ n h1) (h2.later x)
    obtain ⟨be, rfl, nb⟩ := x.ex
    rcases List.mem_append.mp z with z | z
    · exact n z
    · rw [(nb _ z).1] at h1
      cases h1
inductive BpMAll (Γ : Sig) (al : List Addr) (M : List Addr) (H : Hp) : List V → List D → Prop
  | nil : BpMAll Γ al M H [] []
  | cons {v : V} {vs : List V} {d : D} {ds : List D} : BpM Γ al M H v d → BpMAll Γ al M H vs ds → BpMAll Γ al M H (v :: vs) (d :: ds)
theorem BpMAll.bp {Γ : Sig} {al M : List Addr} {H : Hp} : ∀ {v : List V} {d : List D}, BpMAll Γ al M H v d → BpAll (Ca Γ al) M H v d
  | _, _, .nil => .nil
  | _, _, .cons h1 h2 => .cons h1.bp (BpMAll.bp h2)
/-! ### the readings by value -/
section
variable (Γ : Sig) (al0 : List Addr) (H0 : Hp) (O : List Nat)
/-- what is wanted of a value -/
def kE (al : List Addr) (H : Hp) (S : List Addr) (A : List (Nat × Addr)) (Q : VK) : D → Sto → Prop := fun d s' => ∀ v H' al', Later al H al' H' → Stands Γ al' s' (msk S al' A) H' → Rp (Ca Γ al') (PK.ms (msk S al' A) H') v d → Q v H'
def kB (al : List Addr) (H : Hp) (S : List Addr) (A : List (Nat × Addr)) (Q : VK) : D → Sto → Prop := fun d s' => ∀ v H' al', Later al H al' H' → Stands Γ al' s' (msk S al' A) H' → BpM Γ al' (msk S al' A) H' v d → Q v H'
def kA (al : List Addr) (H : Hp) (S : List Addr) (A : List (Nat × Addr)) (Q : List V → Hp → Prop) : List D → Sto → Prop := fun d s' => ∀ v H' al', Later al H al' H' → Stands Γ al' s' (msk S al' A) H' → RpAll (Ca Γ al') (PK.ms (msk S al' A) H') v d → Q v H'
def kAB (al : List Addr) (H : Hp) (S : List Addr) (A : List (Nat × Addr)) (Q : List V → Hp → Prop) : List D → Sto → Prop := fun d s' => ∀ v H' al', Later al H al' H' → Stands Γ al' s' (msk S al' A) H' → BpMAll Γ al' (msk S al' A) H' v d → Q v H'
def kT {α : Type} (al : List Addr) (H : Hp) (S : List Addr) (A : List (Nat × Addr)) (Q : α → Hp → Prop) : α → Sto → Prop := fun d s' => ∀ H' al', Later al H al' H' → Stands Γ al' s' (msk S al' A) H' → Q d H'
def liE (p : LP.Env → M D) : TE := fun σ H Q => ∃ S A G env E al s, A.map (·.1) = O ∧ RelM Γ al0 H0 al s S A G σ H env ∧ (p env).wp (kE Γ al H S A Q) E s
def liB (p : LP.Env → M D) : TE := fun σ H Q => ∃ S A G env E al s, A.map (·.1) = O ∧ RelM Γ al0 H0 al s S A G σ H env ∧ (p env).wp (kB Γ al H S A Q) E s
def liA (p : LP.Env → M (List D)) : TA := fun σ H Q => ∃ S A G env E al s, A.map (·.1) = O ∧ RelM Γ al0 H0 al s S A G σ H env ∧ (p env).wp (kA Γ al H S A Q) E s
def liAB (p : LP.Env → M (List D)) : TA := fun σ H Q => ∃ S A G env E al s, A.map (·.1) = O ∧ RelM Γ al0 H0 al s S A G σ H env ∧ (p env).wp (kAB Γ al H S A Q) E s
def liT (p : LP.Env → M Bool) : TT := fun σ H Q => ∃ S A G env E al s, A.map (·.1) = O ∧ RelM Γ al0 H0 al s S A G σ H env ∧ (p env).wp (kT Γ al H S A Q) E s
def liO (p : LP.Env → M (Option Int)) : TO := fun σ H Q => ∃ S A G env E al s, A.map (·.1) = O ∧ RelM Γ al0 H0 al s S A G σ H env ∧ (p env).wp (kT Γ al H S A Q) E s
end
section
variable {X : Cx} {Γ : Sig} {al0 : List Addr} {H0 : Hp} {O : List Nat} {e a b c : Expr} {es : List Expr} {pos : Pos}
abbrev LE (Γ : Sig) (al0 : List Addr) (H0 : Hp) (O : List Nat) (X : Cx) (e : Expr) (p : LP.Env → M D) : Prop := PE X e (liE Γ al0 H0 O p)
abbrev LB (Γ : Sig) (al0 : List Addr) (H0 : Hp) (O : List Nat) (X : Cx) (e : Expr) (p : LP.Env → M D) : Prop := PE X e (liB Γ al0 H0 O p)
abbrev LT (Γ : Sig) (al0 : List Addr) (H0 : Hp) (O : List Nat) (X : Cx) (e : Expr) (p : LP.Env → M Bool) : Prop := PT X e (liT Γ al0 H0 O p)
abbrev LW (Γ : Sig) (al0 : List Addr) (H0 : Hp) (O : List Nat) (X : Cx) (e : Expr) (p : LP.Env → M Bool) : Prop := PW X e (liT Γ al0 H0 O p)
abbrev LA (Γ : Sig) (al0 : List Addr) (H0 : Hp) (O : List Nat) (X : Cx) (es : List Expr) (p : LP.Env → M (List D)) : Prop := PA X es (liA Γ al0 H0 O p)
abbrev LAB (Γ : Sig) (al0 : List Addr) (H0 : Hp) (O : List Nat) (X : Cx) (es : List Expr) (p : LP.Env → M (List D)) : Prop := PA X es (liAB Γ al0 H0 O p)
abbrev LO (Γ : Sig) (al0 : List Addr) (H0 : Hp) (O : List Nat) (X : Cx) (o : Option Expr) (p : LP.Env → M (Option Int)) : Prop := PO X o (liO Γ al0 H0 O p)
/-! ### what looks at no store -/
/-- the old readings, for any places and any start -/
abbrev FE (Γ : Sig) (O : List Nat) (X : Cx) (e : Expr) (p : LP.Env → W D) : Prop := ∀ (al : List Addr) (H0 : Hp), LP.LE (Ca Γ al) H0 O X e p
theorem fr {p : LP.Env → W D} (h : FE Γ O X e p) : LE Γ al0 H0 O X e fun env => M.lift (p env) :=
  ⟨fun pins st σ H Q I ⟨S, A, G, env, E, al, s, hA, r, q⟩ => (h al (PK.ms al H0)).run pins st σ H Q I ⟨S ++ al, A, G, env, fun e => E e s, hA, r.r, (p env).mono (fun d k v H' g r' hv => k v H' al (Later.of (Later.grof g)) (r.st.same (Later.grof g)) hv) (fun _ z => z) q⟩⟩
theorem lb {p : LP.Env → M D} (h : LE Γ al0 H0 O X e p) : LB Γ al0 H0 O X e p := wkE h fun σ H Q ⟨S, A, G, env, E, al, s, hA, r, q⟩ =>
  ⟨S, A, G, env, E, al, s, hA, r, (p env).mono (fun d s' k v H' al' x st h' => k v H' al' x st (.rp h')) (fun _ _ z => z) q⟩
theorem lb_var (i : Nat) (h : PE X e (tVar i)) : LB Γ al0 H0 O X e fun env => M.lift (getW env i) := wkE h fun σ H Q ⟨S, A, G, env, E, al, s, hA, r, q⟩ => by
  obtain ⟨d, he, q⟩ := getW_wp q
  by_cases z : ∃ a, (i, a) ∈ A
  · obtain ⟨a, ha⟩ := z
    obtain ⟨d', h1, h2, h3⟩ := r.r.ow i a ha
    rw [he] at h1
    cases h1
    refine ⟨.ref a, h2, q _ H al (Later.refl al H) r.st ?_⟩
    generalize ho : H a = o at h3
    cases h3 with
    | lst h3 => exact .lst (fun z => (r.r.old i a ha).2 (List.mem_append_right _ z)) ho h3
  · obtain ⟨v, h1, h2⟩ := r.r.fr i d he fun a ha => z ⟨a, ha⟩
    exact ⟨v, h1, q v H al (Later.refl al H) r.st (.rp h2)⟩
/-! ### two parts, one behind the other -/
theorem two {pa pb : LP.Env → M D} {ta tb : TE} {f : D → D → W D} {r : R2} (hf : ∀ al, OpOk (Ca Γ al) r f) (ha : ∀ σ H Q, liB Γ al0 H0 O pa σ H Q → ta σ H Q) (hb : ∀ σ H Q, liB Γ al0 H0 O pb σ H Q → tb σ H Q) :
    ∀ σ H Q, liE Γ al0 H0 O (fun env => (pa env).bind fun x => (pb env).bind fun y => M.lift (f x y)) σ H Q → ta σ H fun x H1 => tb σ H1 fun y H2 => r x y H2 Q := by
  rintro σ H Q ⟨S, A, G, env, E, al, s, hA, rl, q⟩
  refine ha σ H _ ⟨S, A, G, env, E, al, s, hA, rl, (pa env).mono (fun d1 s1 k x H1 al1 x1 st1 b1 => ?_) (fun _ _ z => z) q⟩
  have r1 := rl.later x1 st1
  refine hb σ H1 _ ⟨S, A, G, env, E, al1, s1, hA, r1, (pb env).mono (fun d2 s2 k y H2 al2 x2 st2 b2 => ?_) (fun _ _ z => z) k⟩
  have r2 := r1.later x2 st2
  refine hf al2 _ H2 x y d1 d2 Q (fun e => E e s2) r2.r.muA r2.r.ffM (b1.later x2).bp b2.bp ((f d1 d2).mono (fun d k v H3 s3 rv => ?_) (fun _ z => z) k)
  exact k v H3 al2 ((x1.trans x2).trans (Later.of s3)) (st2.same s3) rv
theorem le_op {op : Operator} {r : R2} {f : D → D → W D} {pa pb : LP.Env → M D} (ho : OpR X (binaryOp op) r) (hf : ∀ al, OpOk (Ca Γ al) r f) (ha : LB Γ al0 H0 O X a pa) (hb : LB Γ al0 H0 O X b pb) :
    LE Γ al0 H0 O X (.BinOp a op b pos) fun env => (pa env).bind fun x => (pb env).bind fun y => M.lift (f x y) :=
  wkE (pe_op ho ha hb) (two hf (fun _ _ _ h => h) fun _ _ _ h => h)
theorem le_cmp {op : CmpOp} {r : R2} {f : D → D → W D} {pa pb : LP.Env → M D} (ho : OpR X (compareOp op) r) (hf : ∀ al, OpOk (Ca Γ al) r f) (hm : behindInMarks op b = false) (ha : LB Γ al0 H0 O X a pa) (hb : LB Γ al0 H0 O X b pb) :
    LE Γ al0 H0 O X (.Compare a [op] [b] pos) fun env => (pa env).bind fun x => (pb env).bind fun y => M.lift (f x y) :=
  wkE (pe_cmpR ho ha hb hm) (two hf (fun _ _ _ h => h) fun _ _ _ h => h)
theorem le_ix {r : R2} {f : D → D → W D} {pa pb : LP.Env → M D} (ho : IxR X r) (hf : ∀ al, OpOk (Ca Γ al) r f) (hs : PlainIx b) (ha : LB Γ al0 H0 O X a pa) (hb : LB Γ al0 H0 O X b pb) :
    LE Γ al0 H0 O X (.Subscript a b pos) fun env => (pa env).bind fun x => (pb env).bind fun y => M.lift (f x y) :=
  wkE (pe_ix ho ha hb hs) (two hf (fun _ _ _ h => h) fun _ _ _ h => h)
/-! ### tests -/
def asBM (d : D) : M Bool := M.lift (asB d)
theorem asBM_wp {d : D} {Q : Bool → Sto → Prop} {E : Ex → Sto → Prop} {s : Sto} (h : (asBM d).wp Q E s) : ∃ b, d = .bl b ∧ Q b s := asB_wp h
theorem lt_cmp {op : CmpOp} {r : R2} {f : D → D → W D} {pa pb : LP.Env → M D} (ho : OpR X (compareOp op) r) (hf : ∀ al, OpOk (Ca Γ al) r f) (hm : behindInMarks op b = false) (ha : LB Γ al0 H0 O X a pa) (hb : LB Γ al0 H0 O X b pb) :
    LT Γ al0 H0 O X (.Compare a [op] [b] pos) fun env => ((pa env).bind fun x => (pb env).bind fun y => M.lift (f x y)).bind asBM := by
  refine wkT (pt_cmpR ho ha hb hm) fun σ H Q h => ?_
  have key : liE Γ al0 H0 O (fun env => (pa env).bind fun x => (pb env).bind fun y => M.lift (f x y)) σ H (fun v H' => ∃ k, v = .bl k ∧ Q k H') := by
    obtain ⟨S, A, G, env, E, al, s, hA, r', q⟩ := h
    refine ⟨S, A, G, env, E, al, s, hA, r', M.mono _ (fun d s' k v H' al' x st hv => ?_) (fun _ _ z => z) q⟩
    obtain ⟨b, rfl, k⟩ := asBM_wp k
    cases hv
    exact ⟨b, rfl, k H' al' x st⟩
  exact two hf (fun _ _ _ h => h) (fun _ _ _ h => h) σ H _ key
variable {rest : List Expr} {p q : LP.Env → M Bool}
theorem lw_and1 (h : LT Γ al0 H0 O X a p) : LW Γ al0 H0 O X (.BoolOp .And [a] pos) p := pw_and1 h
theorem lw_and (h : LT Γ al0 H0 O X a p) (h2 : LW Γ al0 H0 O X (.BoolOp .And (b :: rest) pos) q) : LW Γ al0 H0 O X (.BoolOp .And (a :: b :: rest) pos) fun env => (p env).bind fun k => M.ite k (q env) (M.ret false) :=
  wkW (pw_and h h2) fun σ H Q ⟨S, A, G, env, E, al, s, hA, r, z⟩ => ⟨S, A, G, env, E, al, s, hA, r, (p env).mono (fun k s' u H' al' x st => by
    cases k with
    | true => exact iteT ⟨S, A, G, env, E, al', s', hA, r.later x st, (q env).mono (fun k s2 u H2 al2 x2 st2 => u H2 al2 (x.trans x2) st2) (fun _ _ z => z) u⟩
    | false => exact iteF (u H' al' x st)) (fun _ _ z => z) z⟩
/-! ### and, or, not, if as values -/
variable {pa pb : LP.Env → M D}
theorem le_neg (ha : LE Γ al0 H0 O X a pa) : LE Γ al0 H0 O X (.UnaryOp .USub a pos) fun env => (pa env).bind fun d => M.lift (negW d) :=
  wkE (pe_un un_neg ha) fun σ H Q ⟨S, A, G, env, E, al, s, hA, r, z⟩ => ⟨S, A, G, env, E, al, s, hA, r, (pa env).mono (fun d s' u v H' al' x st hv => by
    cases d <;> try exact u.elim
    cases hv
    exact ⟨_, rfl, u _ H' al' x st (.int _)⟩) (fun _ _ z => z) z⟩
/-! ### arguments, displays -/
theorem la_nil : LA Γ al0 H0 O X [] fun _ => M.ret [] := wkA pa_nil fun σ H Q ⟨S, A, G, env, E, al, s, hA, r, z⟩ => z [] H al (Later.refl al H) r.st .nil
theorem lab_nil : LAB Γ al0 H0 O X [] fun _ => M.ret [] := wkA pa_nil fun σ H Q ⟨S, A, G, env, E, al, s, hA, r, z⟩ => z [] H al (Later.refl al H) r.st .nil
variable {ps : LP.Env → M (List D)}
theorem la_cons (h : LE Γ al0 H0 O X e pa) (h2 : LA Γ al0 H0 O X es ps) (hs : starEach (e :: es) X.env = (false, eval e X.env) :: starEach es X.env := by rfl) : LA Γ al0 H0 O X (e :: es) fun env => (pa env).bind fun d => (ps env).bind fun ds => M.ret (d :: ds) :=
  wkA (pa_cons h h2 hs) fun σ H Q ⟨S, A, G, env, E, al, s, hA, r, z⟩ => ⟨S, A, G, env, E, al, s, hA, r, (pa env).mono (fun d s1 u v H1 al1 x1 st1 hv => ⟨S, A, G, env, E, al1, s1, hA, r.later x1 st1, (ps env).mono (fun ds s2 u vs H2 al2 x2 st2 hvs =>
    u (v :: vs) H2 al2 (x1.trans x2) st2 (.cons (hv.later x2) hvs)) (fun _ _ z => z) u⟩) (fun _ _ z => z) z⟩
theorem lab_cons (h : LB Γ al0 H0 O X e pa) (h2 : LAB Γ al0 H0 O X es ps) (hs : starEach (e :: es) X.env = (false, eval e X.env) :: starEach es X.env := by rfl) : LAB Γ al0 H0 O X (e :: es) fun env => (pa env).bind fun d => (ps env).bind fun ds => M.ret (d :: ds) :=
  wkA (pa_cons h h2 hs) fun σ H Q ⟨S, A, G, env, E, al, s, hA, r, z⟩ => ⟨S, A, G, env, E, al, s, hA, r, (pa env).mono (fun d s1 u v H1 al1 x1 st1 hv => ⟨S, A, G, env, E, al1, s1, hA, r.later x1 st1, (ps env).mono (fun ds s2 u vs H2 al2 x2 st2 hvs =>
    u (v :: vs) H2 al2 (x1.trans x2) st2 (.cons (hv.later x2) hvs)) (fun _ _ z => z) u⟩) (fun _ _ z => z) z⟩
theorem le_tup {x1} (h : LA Γ al0 H0 O X es ps) : LE Γ al0 H0 O X (.Tuple es x1 pos) fun env => (ps env).bind fun ds => M.lift (tupW ds) :=
  wkE (pe_tup h) fun σ H Q ⟨S, A, G, env, E, al, s, hA, r, z⟩ => ⟨S, A, G, env, E, al, s, hA, r, (ps env).mono (fun ds s' u vs H1 al1 x1 st1 hv => ⟨by rw [hv.len]; exact u.1, fun p np => by
    have sm : Same H1 (upd H1 p (.tup vs)) := same_new (Same.refl H1) np
    have r2 := (r.later x1 st1).same sm
    exact u.2 (.ref p) _ al1 (x1.trans (Later.of sm)) r2.st (.tup (sqT_mu (SqT.of upd_same) r2.r.muA) (hv.later (Later.of sm)))⟩) (fun _ _ z => z) z⟩
theorem le_lst (h : LA Γ al0 H0 O X es ps) : LE Γ al0 H0 O X (.List es pos) fun env => (ps env).bind fun ds => M.lift (lstW ds) :=
  wkE (pe_lst h) fun σ H Q ⟨S, A, G, env, E, al, s, hA, r, z⟩ => ⟨S, A, G, env, E, al, s, hA, r, (ps env).mono (fun ds s' u vs H1 al1 x1 st1 hv => ⟨by rw [hv.len]; exact u.1, fun p np => by
    have sm : Same H1 (upd H1 p (.lst vs)) := same_new (Same.refl H1) np
    have r1 := r.later x1 st1
    have r2 := r1.same sm
    exact u.2 (.ref p) _ al1 (x1.trans (Later.of sm)) r2.st (.lst (ms_at upd_same (r1.r.muA.out np)) (hv.later (Later.of sm)))⟩) (fun _ _ z => z) z⟩
/-! ### built-in calls -/
theorem le_args {r : List V → Hp → VK → Prop} {f : List D → W D} (hf : ∀ al, CallOk (Ca Γ al) r f) : ∀ σ H Q, liE Γ al0 H0 O (fun env => (ps env).bind fun ds => M.lift (f ds)) σ H Q → liAB Γ al0 H0 O ps σ H fun xs H1 => r xs H1 Q := by
  rintro σ H Q ⟨S, A, G, env, E, al, s, hA, rl, q⟩
  refine ⟨S, A, G, env, E, al, s, hA, rl, (ps env).mono (fun ds s1 k xs H1 al1 x1 st1 b1 => ?_) (fun _ _ z => z) q⟩
  have r1 := rl.later x1 st1
  refine hf al1 _ H1 xs ds Q (fun e => E e s1) r1.r.muA r1.r.ffM b1.bp ((f ds).mono (fun d k v H3 s3 rv => ?_) (fun _ z => z) k)
  exact k v H3 al1 (x1.trans (Later.of s3)) (st1.same s3) rv
theorem le_callB {id : String} {x : Str} {r : List V → Hp → VK → Prop} {f : List D → W D} {p pos : Pos} (hc : CallR X (.builtin id) r) (hf : ∀ al, CallOk (Ca Γ al) r f) (hg : Gl X x) (hm : X.mg x = none) (hv : bootBuiltins x = some (.builtin id)) (ha : LAB Γ al0 H0 O X (e :: es) ps) (hn : x ≠ "__name__" := by decide) (hdb : (x == ("__debug__" : Str)) = false := by decide)
    (he : starEach (e :: es) X.env = (false, eval e X.env) :: starEach es X.env := by rfl) (hpl : (backTo pos (starEach es X.env)).any (·.1) = false := by rfl) :
    LE Γ al0 H0 O X (.Call (.Name x p) (e :: es) [] pos) fun env => (ps env).bind fun ds => M.lift (f ds) := wkE (pe_callB hc hg hm hv ha hn hdb he hpl) (le_args hf)
theorem le_callTy {T : String} {x : Str} {r : List V → Hp → VK → Prop} {f : List D → W D} {p pos : Pos} (hc : CallR X (.type T) r) (hf : ∀ al, CallOk (Ca Γ al) r f) (hg : Gl X x) (hm : X.mg x = none) (hv : bootBuiltins x = some (.type T)) (ha : LAB Γ al0 H0 O X (e :: es) ps) (hn : x ≠ "__name__" := by decide) (hdb : (x == ("__debug__" : Str)) = false := by decide)
    (he : starEach (e :: es) X.env = (false, eval e X.env) :: starEach es X.env := by rfl) (hpl : (backTo pos (starEach es X.env)).any (·.1) = false := by rfl) :
    LE Γ al0 H0 O X (.Call (.Name x p) (e :: es) [] pos) fun env => (ps env).bind fun ds => M.lift (f ds) := wkE (pe_callTy hc hg hm hv ha hn hdb he hpl) (le_args hf)
end
end LP.LM
namespace LP.LM
open PySem PySem.Spec PyProof.Rows L2 PK RZ
section
variable {X : Cx} {Γ : Sig} {al0 : List Addr} {H0 : Hp} {O : List Nat} {e a b c : Expr} {es : List Expr} {pos : Pos} {pa pb pc : LP.Env → M D} {ps : LP.Env → M (List D)}
/-! ### operators -/
theorem le_add (hK : X.K = Γ.K) (ha : LB Γ al0 H0 O X a pa) (hb : LB Γ al0 H0 O X b pb) : LE Γ al0 H0 O X (.BinOp a .Add b pos) fun env => (pa env).bind fun x => (pb env).bind fun y => M.lift (addW x y) :=
  le_op (((op_addW.or op_add_str).or (ko_catB Γ.K hK)).or op_cat) (fun _ => add_ok) ha hb
theorem le_sub (ha : LB Γ al0 H0 O X a pa) (hb : LB Γ al0 H0 O X b pb) : LE Γ al0 H0 O X (.BinOp a .Sub b pos) fun env => (pa env).bind fun x => (pb env).bind fun y => M.lift (subW x y) := le_op op_subW (fun _ => sub_ok) ha hb
theorem le_mod (ha : LB Γ al0 H0 O X a pa) (hb : LB Γ al0 H0 O X b pb) : LE Γ al0 H0 O X (.BinOp a .Mod b pos) fun env => (pa env).bind fun x => (pb env).bind fun y => M.lift (modW x y) := le_op op_mod (fun _ => intOp_ok) ha hb
theorem le_pow (ha : LB Γ al0 H0 O X a pa) (hb : LB Γ al0 H0 O X b pb) : LE Γ al0 H0 O X (.BinOp a .Pow b pos) fun env => (pa env).bind fun x => (pb env).bind fun y => M.lift (powW x y) := le_op op_pow (fun _ => intOp_ok) ha hb
theorem le_item (hK : X.K = Γ.K) (hs : PlainIx b) (ha : LB Γ al0 H0 O X a pa) (hb : LB Γ al0 H0 O X b pb) : LE Γ al0 H0 O X (.Subscript a b pos) fun env => (pa env).bind fun x => (pb env).bind fun y => M.lift (ixW x y) :=
  le_ix (r := rIx Γ.K) (by rw [← hK]; exact ix_seq) (fun _ => ix_ok) hs ha hb
section
variable {k : Nat}
theorem le_eq (hr : Room k X.A) (hK : X.K = Γ.K) (ha : LB Γ al0 H0 O X a pa) (hb : LB Γ al0 H0 O X b pb) : LE Γ al0 H0 O X (.Compare a [.Eq] [b] pos) fun env => (pa env).bind fun x => (pb env).bind fun y => M.lift (eqW x y) := le_cmp (op_eq.or (ko_eqD Γ.K hr hK)) (fun _ => eq_ok) (nomark _) ha hb
theorem lt_eq (hr : Room k X.A) (hK : X.K = Γ.K) (ha : LB Γ al0 H0 O X a pa) (hb : LB Γ al0 H0 O X b pb) : LT Γ al0 H0 O X (.Compare a [.Eq] [b] pos) fun env => ((pa env).bind fun x => (pb env).bind fun y => M.lift (eqW x y)).bind asBM := lt_cmp (op_eq.or (ko_eqD Γ.K hr hK)) (fun _ => eq_ok) (nomark _) ha hb
theorem lt_ne (hr : Room k X.A) (hK : X.K = Γ.K) (ha : LB Γ al0 H0 O X a pa) (hb : LB Γ al0 H0 O X b pb) : LT Γ al0 H0 O X (.Compare a [.NotEq] [b] pos) fun env => ((pa env).bind fun x => (pb env).bind fun y => M.lift (neW x y)).bind asBM := lt_cmp (op_ne.or (ko_neD Γ.K hr hK)) (fun _ => ne_ok) (nomark _) ha hb
end
theorem lt_lt (ha : LB Γ al0 H0 O X a pa) (hb : LB Γ al0 H0 O X b pb) : LT Γ al0 H0 O X (.Compare a [.Lt] [b] pos) fun env => ((pa env).bind fun x => (pb env).bind fun y => M.lift (ltW x y)).bind asBM := lt_cmp (op_lt.or op_lt_str) (fun _ => ord_ok) (nomark _) ha hb
theorem lt_gt (ha : LB Γ al0 H0 O X a pa) (hb : LB Γ al0 H0 O X b pb) : LT Γ al0 H0 O X (.Compare a [.Gt] [b] pos) fun env => ((pa env).bind fun x => (pb env).bind fun y => M.lift (gtW x y)).bind asBM := lt_cmp (op_gt.or op_gt_str) (fun _ => ord_ok) (nomark _) ha hb
/-! ### xs[a:b] -/
theorem lo_none : LO Γ al0 H0 O X none fun _ => M.ret none := wkO po_none fun σ H Q ⟨S, A, G, env, E, al, s, hA, r, q⟩ => q H al (Later.refl al H) r.st
theorem lo_some (h : LE Γ al0 H0 O X e pa) : LO Γ al0 H0 O X (some e) fun env => (pa env).bind fun d => M.lift (partW d) := wkO (po_some h) fun σ H Q ⟨S, A, G, env, E, al, s, hA, r, q⟩ =>
  ⟨S, A, G, env, E, al, s, hA, r, (pa env).mono (fun d s' k v H' al' x st hv => by
    cases d <;> try exact k.elim
    cases hv
    exact ⟨_, rfl, k H' al' x st⟩) (fun _ _ z => z) q⟩
theorem le_slice {lo hi : Option Expr} {pl ph : LP.Env → M (Option Int)} {p2 : Pos} (hK : X.K = Γ.K) (h : LB Γ al0 H0 O X e pa) (hl : LO Γ al0 H0 O X lo pl) (hh : LO Γ al0 H0 O X hi ph) :
    LE Γ al0 H0 O X (.Subscript e (.Slice lo hi none p2) pos) fun env => (pa env).bind fun d => (pl env).bind fun l => (ph env).bind fun u => M.lift (slW d l u) := by
  refine wkE (pe_slice (((ks_tupB Γ.K hK).or (ks_list Γ.K hK)).or sl_str) h hl hh) fun σ H Q ⟨S, A, G, env, E, al, s, hA, r, q⟩ => ?_
  refine ⟨S, A, G, env, E, al, s, hA, r, (pa env).mono (fun d s1 k x H1 al1 x1 st1 b1 => ?_) (fun _ _ z => z) q⟩
  have r1 := r.later x1 st1
  refine ⟨S, A, G, env, E, al1, s1, hA, r1, (pl env).mono (fun l s2 k H2 al2 x2 st2 => ?_) (fun _ _ z => z) k⟩
  have r2 := r1.later x2 st2
  refine ⟨S, A, G, env, E, al2, s2, hA, r2, (ph env).mono (fun u s3 k H3 al3 x3 st3 => ?_) (fun _ _ z => z) k⟩
  have r3 := r2.later x3 st3
  refine sl_ok (Ξ := Ca Γ al3) _ H3 x d l u Q (fun e => E e s3) r3.r.muA (b1.later (x2.trans x3)).bp ((slW d l u).mono (fun d k v H4 s4 rv => ?_) (fun _ z => z) k)
  exact k v H4 al3 (((x1.trans x2).trans x3).trans (Later.of s4)) (st3.same s4) rv
theorem le_len {p pos : Pos} (hK : X.K = Γ.K) (hg : Gl X "len") (hm : X.mg "len" = none) (ha : LAB Γ al0 H0 O X [e] ps) (he : starEach [e] X.env = [(false, eval e X.env)] := by rfl) : LE Γ al0 H0 O X (.Call (.Name "len" p) [e] [] pos) fun env => (ps env).bind fun ds => M.lift (lenW ds) := le_callB ((k_len Γ.K hK).or call_len_str) (fun _ => len_ok) hg hm PySem.boot_len ha (by decide) (by decide) he rfl
theorem le_tuple {p pos : Pos} (hK : X.K = Γ.K) (hg : Gl X "tuple") (hm : X.mg "tuple" = none) (ha : LAB Γ al0 H0 O X [e] ps) (he : starEach [e] X.env = [(false, eval e X.env)] := by rfl) : LE Γ al0 H0 O X (.Call (.Name "tuple" p) [e] [] pos) fun env => (ps env).bind fun ds => M.lift (tupleW ds) := le_callTy (k_tup Γ.K hK) (fun _ => tuple_ok) hg hm (by decide +kernel) ha (by decide) (by decide) he rfl
theorem le_sum {p pos : Pos} (hc : X.calm = true) (hK : X.K = Γ.K) (hg : Gl X "sum") (hm : X.mg "sum" = none) (ha : LAB Γ al0 H0 O X [e] ps) (he : starEach [e] X.env = [(false, eval e X.env)] := by rfl) : LE Γ al0 H0 O X (.Call (.Name "sum" p) [e] [] pos) fun env => (ps env).bind fun ds => M.lift (sumW ds) := le_callB (k_sum Γ.K hc hK) (fun _ => sum_ok) hg hm (by decide +kernel) ha (by decide) (by decide) he rfl
theorem le_repr {k : Nat} {p pos : Pos} (hgd : X.A.guards = some []) (hr : Room k X.A) (hK : X.K = Γ.K) (hg : Gl X "repr") (hm : X.mg "repr" = none) (ha : LAB Γ al0 H0 O X [e] ps) (he : starEach [e] X.env = [(false, eval e X.env)] := by rfl) : LE Γ al0 H0 O X (.Call (.Name "repr" p) [e] [] pos) fun env => (ps env).bind fun ds => M.lift (reprD ds) := le_callB (call_reprV Γ.K hgd hr hK) (fun _ => repr_ok) hg hm (by decide +kernel) ha (by decide) (by decide) he rfl
theorem le_min2 {e2 : Expr} {p pos : Pos} (hc : X.calm = true) (hg : Gl X "min") (hm : X.mg "min" = none) (ha : LAB Γ al0 H0 O X [e, e2] ps) (he : starEach [e, e2] X.env = (false, eval e X.env) :: starEach [e2] X.env := by rfl) (hpl : (backTo pos (starEach [e2] X.env)).any (·.1) = false := by rfl) : LE Γ al0 H0 O X (.Call (.Name "min" p) [e, e2] [] pos) fun env => (ps env).bind fun ds => M.lift (min2W ds) := le_callB (call_min2 hc) (fun _ => min2_ok) hg hm (by decide +kernel) ha (by decide) (by decide) he hpl
theorem le_minL {k : Nat} {p pos : Pos} (hc : X.calm = true) (hr : Room k X.A) (hK : X.K = Γ.K) (hg : Gl X "min") (hm : X.mg "min" = none) (ha : LAB Γ al0 H0 O X [e] ps) (he : starEach [e] X.env = [(false, eval e X.env)] := by rfl) : LE Γ al0 H0 O X (.Call (.Name "min" p) [e] [] pos) fun env => (ps env).bind fun ds => M.lift (minLW ds) :=
  le_callB (by rw [← hK]; exact call_minI hc hr : CallR X _ (rMinI Γ.K)) (fun _ => min_ok) hg hm (by decide +kernel) ha (by decide) (by decide) he rfl
theorem le_join {o : Expr} {apos pos : Pos} (hK : X.K = Γ.K) (ho : LB Γ al0 H0 O X o pa) (he : LB Γ al0 H0 O X e pb) (hs : starEach [e] X.env = [(false, eval e X.env)] := by rfl) (hbase : attributeBase o "join" X.env (eval o X.env) = eval o X.env := by rfl) (hline : (apos.endLine == pos.line) = true := by rfl) :
    LE Γ al0 H0 O X (.Call (.Attribute o "join" apos) [e] [] pos) fun env => (pa env).bind fun x => (M.lift (asS x)).bind fun a => (pb env).bind fun y => M.lift (joinW a y) := by
  refine wkE (pe_join ho he hs hbase hline) fun σ H Q ⟨S, A, G, env, E, al, s, hA, r, q⟩ => ?_
  refine ⟨S, A, G, env, E, al, s, hA, r, (pa env).mono (fun d1 s1 k x H1 al1 x1 st1 b1 => ?_) (fun _ _ z => z) q⟩
  obtain ⟨a, rfl, k⟩ := asS_wp k
  obtain ⟨rfl, oa⟩ := b1.bp.strE
  have r1 := r.later x1 st1
  refine ⟨⟨a, rfl⟩, S, A, G, env, E, al1, s1, hA, r1, (pb env).mono (fun d2 s2 k y H2 al2 x2 st2 b2 => ?_) (fun _ _ z => z) k⟩
  rw [hK]
  have b2 := b2.bp
  cases d2 <;> try exact k.elim
  · obtain ⟨ys, e, hl, k⟩ := optW_wp k
    rw [ssOf_eq e] at b2
    obtain ⟨b, zs, rfl, t, ha⟩ := b2.tupE
    have ok := ha.strs_ok
    rw [ha.of_strs] at t
    exact ⟨a, b, ys, rfl, rfl, .inr t, hl, by rw [TL.join_eq]; exact k _ H2 al2 (x1.trans x2) st2 (.str _ (strOk_joinL oa ok))⟩
  · obtain ⟨ys, e, hl, k⟩ := optW_wp k
    rw [ssOf_eq e] at b2
    obtain ⟨b, zs, rfl, t, ha⟩ := b2.lstE
    have ok := ha.strs_ok
    rw [ha.of_strs] at t
    exact ⟨a, b, ys, rfl, rfl, .inl (SqL.of t), hl, by rw [TL.join_eq]; exact k _ H2 al2 (x1.trans x2) st2 (.str _ (strOk_joinL oa ok))⟩
end
/-! ### targets: they look at no store -/
def liG (Γ : Sig) (al0 : List Addr) (H0 : Hp) (O vs : List Nat) (g : D → LP.Env → W LP.Env) : TG := fun v σ H Q => ∃ S A G env d E al s, A.map (·.1) = O ∧ RelM Γ al0 H0 al s S A G σ H env ∧ Rp (Ca Γ al) (PK.ms (msk S al A) H) v d ∧
  (g d env).wp (fun env' => ∀ σ', σ'.length = σ.length → (∀ j, j ∉ vs → σ'[j]? = σ[j]?) → RelM Γ al0 H0 al s S A G σ' H env' → Q σ' H) E
section
variable {X : Cx} {Γ : Sig} {al0 : List Addr} {H0 : Hp} {O vs : List Nat} {tg e : Expr} {es : List Expr} {pos : Pos} {pa : LP.Env → M D} {ps : LP.Env → M (List D)}
abbrev LG (Γ : Sig) (al0 : List Addr) (H0 : Hp) (O vs : List Nat) (X : Cx) (e : Expr) (g : D → LP.Env → W LP.Env) : Prop := PG X e (liG Γ al0 H0 O vs g)
/-! ### what is walked -/
def kI (Γ : Sig) (al : List Addr) (H : Hp) (S : List Addr) (A : List (Nat × Addr)) (R : It → Hp → Prop) : List D → Sto → Prop := fun ds s' => ∀ J H' al' g, Later al H al' H' → Stands Γ al' s' (msk S al' A) H' → (∀ x ∈ g, Rp (Ca Γ al') (PK.ms (msk S al' A) H') x.1 x.2) → (∀ al2, Wk (Ca Γ al2) J g ds) → R J H'
def liI (Γ : Sig) (al0 : List Addr) (H0 : Hp) (O : List Nat) (p : LP.Env → M (List D)) : TI := fun σ H R => ∃ S A G env E al s, A.map (·.1) = O ∧ RelM Γ al0 H0 al s S A G σ H env ∧ (p env).wp (kI Γ al H S A R) E s
abbrev LI (Γ : Sig) (al0 : List Addr) (H0 : Hp) (O : List Nat) (X : Cx) (tg e : Expr) (p : LP.Env → M (List D)) : Prop := PI X tg e (liI Γ al0 H0 O p)
theorem li_list (h : LE Γ al0 H0 O X e pa) (hK : X.K = Γ.K) : LI Γ al0 H0 O X tg e fun env => (pa env).bind fun d => M.lift (walkLW d) :=
  wkI (pi_list h) fun σ H R ⟨S, A, G, env, E, al, s, hA, r, q⟩ => ⟨S, A, G, env, E, al, s, hA, r, (pa env).mono (fun d s' k v H' al' x st hv => by
    cases d with
    | lst ds =>
      have hv' := hv
      obtain ⟨b, xs, rfl, h1, h2⟩ := hv'.lstE
      exact ⟨b, rfl, ⟨xs, SqL.of (ms_sub _ _ h1)⟩, k _ H' al' [(.ref b, .lst ds)] x st (fun x hx => by rw [List.mem_singleton.mp hx]; exact hv) (fun _ => wk_list hK)⟩
    | _ => exact k.elim) (fun _ _ z => z) q⟩
theorem li_tup (h : LE Γ al0 H0 O X e pa) (hK : X.K = Γ.K) : LI Γ al0 H0 O X tg e fun env => (pa env).bind fun d => M.lift (walkTW d) :=
  wkI (pi_tup h) fun σ H R ⟨S, A, G, env, E, al, s, hA, r, q⟩ => ⟨S, A, G, env, E, al, s, hA, r, (pa env).mono (fun d s' k v H' al' x st hv => by
    cases d with
    | tup ds =>
      have hv' := hv
      obtain ⟨b, xs, rfl, h1, h2⟩ := hv'.tupE
      exact ⟨b, rfl, ⟨xs, by rw [hK]; exact sqT_same ms_sub h1⟩, k _ H' al' [(.ref b, .tup ds)] x st (fun x hx => by rw [List.mem_singleton.mp hx]; exact hv) (fun _ => wk_tup hK)⟩
    | _ => exact k.elim) (fun _ _ z => z) q⟩
theorem li_range {a : Expr} {pp pos : Pos} (hg : Gl X "range") (hm : X.mg "range" = none) (ha : LA Γ al0 H0 O X [a] ps) (hs : starEach [a] X.env = [(false, eval a X.env)] := by rfl) :
    LI Γ al0 H0 O X tg (.Call (.Name "range" pp) [a] [] pos) fun env => (ps env).bind fun ds => M.lift (range1W ds) :=
  wkI (pi_range1 hg hm ha hs) fun σ H R ⟨S, A, G, env, E, al, s, hA, r, q⟩ => ⟨S, A, G, env, E, al, s, hA, r, (ps env).mono (fun ds s' k vs H' al' x st hv => by
    match ds, k, hv with
    | [.int n], k, .cons (.int _) .nil => exact ⟨n, rfl, k.1.1, k.1.2, k.2 _ H' al' [] x st (fun _ hx => (nomatch hx)) (fun _ => wk_range)⟩) (fun _ _ z => z) q⟩
end
end LP.LM
namespace LP.LM
open PySem PySem.Spec PyProof.Rows L2 PK RZ
/-! ### comprehensions -/
def lcM (g : D → LP.Env → W LP.Env) (t : LP.Env → M Bool) (el : LP.Env → M D) (env : LP.Env) : List D → List D → M (List D)
  | [], acc => M.ret acc
  | d :: ds, acc => (M.lift (W.calm (g d env))).bind fun env' => (M.calm (t env')).bind fun b => M.ite b
    ((M.calm (el env')).bind fun y => (M.want (acc.length < sizeLine)).bind fun _ => lcM g t el env ds (acc ++ [y])) (lcM g t el env ds acc)
/-- the new list -/
def kN (Γ : Sig) (al : List Addr) (H : Hp) (S : List Addr) (A : List (Nat × Addr)) (Q : VK) : D → Sto → Prop := fun d s' => ∀ (l : Addr) H' al', Later al H al' H' → Stands Γ al' s' (msk (l :: S) al' A) H' → H l = none → l ∉ al' → Ow (Ca Γ al') (PK.ms (msk (l :: S) al' A) H') (H' l) d → Q (.ref l) H'
def liN (Γ : Sig) (al0 : List Addr) (H0 : Hp) (O : List Nat) (p : LP.Env → M D) : TE := fun σ H Q => ∃ S A G env E al s, A.map (·.1) = O ∧ RelM Γ al0 H0 al s S A G σ H env ∧ (p env).wp (kN Γ al H S A Q) E s
section
variable {Γ : Sig} {al0 al al' : List Addr} {s s' : Sto} {H0 H H' : Hp} {S : List Addr} {A : List (Nat × Addr)} {G : List (V × D)} {σ : L2.St} {env : LP.Env}
/-- fewer things are kept out -/
theorem Stands.sub {M M' : List Addr} (h : Stands Γ al s M H) (hm : ∀ b ∈ M', b ∈ M) : Stands Γ al s M' H := ⟨h.nd, h.len, fun i a d h1 h2 => by
  obtain ⟨o, e, ho⟩ := h.ob i a d h1 h2
  exact ⟨o, e, ho.alm (fun _ _ h => h) (ms_mono hm)⟩⟩
/-- one more new object is kept out -/
theorem Stands.mask {p : Addr} {o : HO} (h : Stands Γ al s (msk S al A) H) (np : H p = none) : Stands Γ al s (msk (p :: S) al A) (upd H p o) := ⟨h.nd, h.len, fun i a d h1 h2 => by
  obtain ⟨u, e, ho⟩ := h.ob i a d h1 h2
  refine ⟨u, by rw [upd_ne (ne_of_none e np)]; exact e, ho.alm (fun _ _ h => h) fun b w z => ?_⟩
  obtain ⟨z1, z2⟩ := ms_some z
  have n := ne_of_none z1 np
  exact ms_at (by rw [upd_ne n]; exact z1) fun q => (List.mem_cons.mp q).elim n z2⟩
theorem RelM.mask {p : Addr} {o : HO} (r : RelM Γ al0 H0 al s S A G σ H env) (np : H p = none) (m : Mt o) : RelM Γ al0 H0 al s (p :: S) A G σ (upd H p o) env :=
  ⟨r.r.mask np m, r.st.mask np, r.ex, fun b o u h => by have e := r.fz b o u h; rw [upd_ne (ne_of_none e np)]; exact e⟩
theorem RelM.outN (r : RelM Γ al0 H0 al s S A G σ H env) {p : Addr} (np : H p = none) : p ∉ al := fun z => r.r.muA.out np (mk_al' z)
  where mk_al' {b : Addr} (h : b ∈ al) : b ∈ msk S al A := mk_al h
end
section
variable {X : Cx} {Γ : Sig} {al0 : List Addr} {H0 : Hp} {O : List Nat}
theorem le_new {e : Expr} {p : LP.Env → M D} (h : PE X e (liN Γ al0 H0 O p)) : LE Γ al0 H0 O X e p := wkE h fun σ H Q ⟨S, A, G, env, E, al, s, hA, r, q⟩ =>
  ⟨S, A, G, env, E, al, s, hA, r, (p env).mono (fun d s' k l H' al' x st nl nal ho => by
    have hm : ∀ b ∈ msk S al' A, b ∈ msk (l :: S) al' A := fun b hb => List.mem_cons_of_mem _ hb
    have st' : Stands Γ al' s' (msk S al' A) H' := st.sub hm
    refine k (.ref l) H' al' x st' ?_
    have nM : l ∉ msk S al' A := fun z => by
      rcases mk_later x z with z | z
      · exact r.r.muA.out nl z
      · exact nal z
    generalize hq : H' l = o at ho
    cases ho with
    | lst ho => exact .lst (ms_at hq nM) (ho.same (ms_mono hm))) (fun _ _ z => z) q⟩
theorem lc_reads {wi : TI} {g : TG} {tt : TT} {te : TE} {vs : List Nat} {p : LP.Env → M (List D)} {gW : D → LP.Env → W LP.Env} {tW : LP.Env → M Bool} {eW : LP.Env → M D} (hvs : ∀ i ∈ vs, i ∉ O)
    (hi : ∀ σ H R, liI Γ al0 H0 O p σ H R → wi σ H R) (hg : ∀ v σ H Q, liG Γ al0 H0 O vs gW v σ H Q → g v σ H Q) (ht : ∀ σ H Q, liT Γ al0 H0 O tW σ H Q → tt σ H Q) (he : ∀ σ H Q, liE Γ al0 H0 O eW σ H Q → te σ H Q) :
    ∀ σ H Q, liN Γ al0 H0 O (fun env => (p env).bind fun ds => (lcM gW tW eW (wipeE env vs) ds []).bind fun l => M.ret (.lst l)) σ H Q → tLc wi g tt te vs σ H Q := by
  rintro σ H Q ⟨S, A, G, env, E, al, s, hA, r, q⟩
  refine hi σ H _ ⟨S, A, G, env, E, al, s, hA, r, (p env).mono (fun ds s1 k J H1 al1 gh x1 st1 hgh w D nD => ?_) (fun _ _ z => z) q⟩
  have r1 := r.later x1 st1
  have nDal : D ∉ al1 := r1.outN nD
  have hwp : ∀ i ∈ vs, i ∉ A.map (·.1) := fun i hi => by rw [hA]; exact hvs i hi
  have nDH : H D = none := by
    cases q : H D with
    | none => rfl
    | some o =>
      have := x1.gr D o (fun z => nDal (x1.in_ z)) q
      rw [nD] at this
      cases this
  have r1g : RelM Γ al0 H0 al1 s1 S A (gh ++ G) σ H1 env := ⟨r1.r.ghost hgh, r1.st, r1.ex, r1.fz⟩
  -- the state of the turns
  let Pv : Nat → Hp → Prop := fun i H2 => ∃ us acc al2 s2, Later al1 H1 al2 H2 ∧ RelM Γ al0 H0 al2 s2 (D :: S) A (gh ++ G) σ H2 env ∧ H2 D = some (.lst us) ∧ D ∉ al2 ∧ RpAll (Ca Γ al2) (PK.ms (msk (D :: S) al2 A) H2) us acc ∧
    (lcM gW tW eW (wipeE env vs) (ds.drop i) acc).wp (fun l s' => ∀ (l' : Addr) H' al', Later al H al' H' → Stands Γ al' s' (msk (l' :: S) al' A) H' → H l' = none → l' ∉ al' → Ow (Ca Γ al') (PK.ms (msk (l' :: S) al' A) H') (H' l') (.lst l) → Q (.ref l') H') E s2
  refine ⟨fun i m H2 => m = ds.length - i ∧ i ≤ ds.length ∧ Pv i H2, ⟨ds.length, rfl, Nat.zero_le _, [], [], al1, s1, ?_⟩, ?_⟩
  · exact ⟨Later.of (same_new (Same.refl H1) nD), r1g.mask nD trivial, upd_same, nDal, .nil, k⟩
  · rintro i m H2 ⟨rfl, hi2, us, acc, al2, s2, x2, r2, eD, nD2, ha, k2⟩
    have gh2 : ∀ x ∈ gh, Rp (Ca Γ al2) (PK.ms (msk (D :: S) al2 A) H2) x.1 x.2 := fun x hx => r2.r.gh x (List.mem_append_left _ hx)
    by_cases hlt : i < ds.length
    · refine .inr ⟨(w al2).goes _ H2 i r2.r.muA gh2 hlt, Pv (i + 1), fun H' p' => ⟨ds.length - (i + 1), by omega, rfl, hlt, p'⟩, fun x H3 y => ?_⟩
      obtain ⟨s3, d, hd, rx⟩ := (w al2).yields _ H2 i x H3 r2.r.muA gh2 hlt y
      have r3 := r2.same s3
      have eD3 := s3 _ _ eD
      have ha3 := ha.later (Later.of s3)
      rw [List.drop_eq_getElem_cons hlt] at k2
      have ed : ds[i] = d := by
        rw [List.getElem?_eq_getElem hlt] at hd
        exact Option.some.inj hd
      rw [ed] at k2
      have r3w : RelM Γ al0 H0 al2 s2 (D :: S) A (gh ++ G) (wipe σ vs) H3 (wipeE env vs) := ⟨r3.r.wipe hwp, r3.st, r3.ex, r3.fz⟩
      refine hg x _ H3 _ ⟨D :: S, A, gh ++ G, wipeE env vs, d, fun _ => False, al2, s2, hA, r3w, rx, W.mono _ (fun env' k3 σ' l' k' r4 => ?_) (fun _ z => z) k2⟩
      refine ⟨(wipe_eq l' k').trans wipe_wipe, ht σ' H3 _ ⟨D :: S, A, gh ++ G, env', fun _ _ => False, al2, s2, hA, r4, M.mono _ (fun b s4 k4 H4 al4 x4 st4 => ?_) (fun _ _ z => z) k3⟩⟩
      have eD4 := x4.gr _ _ nD2 eD3
      have nD4 : D ∉ al4 := fun z => by
        obtain ⟨be, rfl, nb⟩ := x4.ex
        rcases List.mem_append.mp z with z | z
        · exact nD2 z
        · rw [(nb _ z).1] at eD3
          cases eD3
      have ha4 := ha3.later x4
      cases b with
      | false => exact iteF ⟨us, acc, al4, s4, (x2.trans (Later.of s3)).trans x4, r3.later x4 st4, eD4, nD4, ha4, k4⟩
      | true =>
        have r5 := r4.later x4 st4
        refine iteT (he σ' H4 _ ⟨D :: S, A, gh ++ G, env', fun _ _ => False, al4, s4, hA, r5, M.mono _ (fun y s5 k5 v H5 al5 x5 st5 hv => ?_) (fun _ _ z => z) k4⟩)
        have eD5 := x5.gr _ _ nD4 eD4
        have nD5 : D ∉ al5 := fun z => by
          obtain ⟨be, rfl, nb⟩ := x5.ex
          rcases List.mem_append.mp z with z | z
          · exact nD4 z
          · rw [(nb _ z).1] at eD4
            cases eD4
        have ha5 := ha4.later x5
        have r7 := r3.later (x4.trans x5) st5
        have hD : D ∈ msk (D :: S) al5 A := List.mem_cons_self
        refine ⟨us, eD5, by rw [ha5.len]; exact k5.1, us ++ [v], acc ++ [y], al5, s5, ⟨?_, fun b o n e => ?_, fun b o u e => ?_⟩, ⟨?_, ⟨r7.st.nd, r7.st.len, fun i a d h1 h2 => ?_⟩, r7.ex, fun b o u e => ?_⟩, upd_same, nD5, ?_, k5.2⟩
        · exact ((x2.trans (Later.of s3)).trans (x4.trans x5)).ex
        · rw [upd_ne (ne_of_none e nD)]
          exact ((x2.trans (Later.of s3)).trans (x4.trans x5)).gr b o n e
        · rw [upd_ne (ne_of_none e nD)]
          exact ((x2.trans (Later.of s3)).trans (x4.trans x5)).fz b o u e
        · have q7 := r7.r
          refine ⟨q7.len, fun j z h n => ?_, fun j a h => ?_, q7.old, q7.nd, q7.ndk, fun x hx => ?_, q7.mu.upd trivial, trivial, fun b hb => (nomatch hb), fun b o n e => ?_⟩
          · rw [ms_upd hD]
            exact q7.fr j z h n
          · have na : a ≠ D := fun z => (q7.old j a h).2 (by rw [z]; exact List.mem_cons_self)
            rw [ms_upd hD, upd_ne na]
            exact q7.ow j a h
          · rw [ms_upd hD]
            exact q7.gh x hx
          · have nb : b ≠ D := fun z => by
              obtain ⟨e1, e2⟩ := ms_some e
              rw [z] at e1 e2
              have := r1.r.gr D o (fun z => (nomatch z)) (ms_at e1 nDal)
              rw [nD] at this
              cases this
            rw [upd_ne nb]
            exact q7.gr b o n e
        · obtain ⟨o, e, ho⟩ := r7.st.ob i a d h1 h2
          have na : a ≠ D := fun z => nD5 (by rw [← z]; exact List.mem_of_getElem? h1)
          refine ⟨o, by rw [upd_ne na]; exact e, ?_⟩
          rw [ms_upd hD]
          exact ho
        · have e1 := r7.fz b o u e
          rw [upd_ne fun z => by rw [z, eD5] at e1; cases e1]
          exact e1
        · rw [ms_upd hD]
          exact ha5.snoc hv
    · have e : i = ds.length := by omega
      subst e
      refine .inl ⟨(w al2).stops _ H2 r2.r.muA gh2, ?_⟩
      rw [List.drop_length] at k2
      refine k2 D H2 al2 (x1.trans x2) r2.st nDH nD2 ?_
      rw [eD]
      exact .lst ha
abbrev LTs (Γ : Sig) (al0 : List Addr) (H0 : Hp) (O : List Nat) (X : Cx) (ifs : List Expr) (p : LP.Env → M Bool) : Prop := PTs X ifs (liT Γ al0 H0 O p)
theorem lts_nil : LTs Γ al0 H0 O X [] fun _ => M.ret true := ⟨fun pins s σ H Q I h => pts_nil.run pins s σ H Q I (by
  obtain ⟨S, A, G, env, E, al, s, hA, r, q⟩ := h
  exact q H al (Later.refl al H) r.st)⟩
theorem lts_one {c : Expr} {p : LP.Env → M Bool} (h : LT Γ al0 H0 O X c p) : LTs Γ al0 H0 O X [c] p := pts_one h
def lcDM (gW : D → LP.Env → W LP.Env) (tW : LP.Env → M Bool) (eW : LP.Env → M D) (vs : List Nat) (pi : LP.Env → M (List D)) (env : LP.Env) : M D :=
  (pi env).bind fun ds => (lcM gW tW eW (wipeE env vs) ds []).bind fun l => M.ret (.lst l)
section
variable {pos : Pos} {elt tg iter : Expr} {ifs : List Expr} {scope : Scope} {own : List (Str × Nat)} {pi : LP.Env → M (List D)} {gW : D → LP.Env → W LP.Env} {tW : LP.Env → M Bool} {eW : LP.Env → M D}
theorem ln_lc (hc : X.calm = true) (hN : X.N.Nodup) (hi : LI Γ al0 H0 O X tg iter pi) (ok : BlkOk X.N X.env.scope scope own) (hvs : ∀ i ∈ own.map (·.2), i ∉ O)
    (hg : ∀ (s : Shared) (H : Hp) (C : Addr) (cl : List (Str × Addr)) (fp : List Addr), LG Γ al0 H0 O (own.map (·.2)) (X.blk s H scope (compEnvC scope cl C X.env) fp) tg gW)
    (ht : ∀ (s : Shared) (H : Hp) (C : Addr) (cl : List (Str × Addr)) (fp : List Addr), LTs Γ al0 H0 O (X.blk s H scope (compEnvC scope cl C X.env) fp) ifs tW)
    (he : ∀ (s : Shared) (H : Hp) (C : Addr) (cl : List (Str × Addr)) (fp : List Addr), LE Γ al0 H0 O (X.blk s H scope (compEnvC scope cl C X.env) fp) elt eW) (hs : ∀ x, foldedSetIterable iter X.env x = pure x := by intro _; rfl) :
    PE X (.ListComp elt [⟨tg, iter, ifs, 0⟩] scope pos) (liN Γ al0 H0 O (lcDM gW tW eW (own.map (·.2)) pi)) :=
  wkE (pe_lc hc hN hi ok hg ht he hs) (lc_reads hvs (fun _ _ _ h => h) (fun _ _ _ _ h => h) (fun _ _ _ h => h) fun _ _ _ h => h)
end
end
end LP.LM
namespace LP.LM
open PySem PySem.Spec PyProof.Rows L2 PK RZ
/-! ### statements -/
/-- what is wanted behind -/
def FQ (Γ : Sig) (al0 : List Addr) (H0 : Hp) (S : List Addr) (G : List (V × D)) (O' Ob : List Nat) (De : Ends) : Fl → Sto → Prop
  | .nx env, s => ∀ A σ H al, A.map (·.1) = O' → RelM Γ al0 H0 al s S A G σ H env → De.nx σ H
  | .rt d, s => ∀ v H al, Later al0 H0 al H → Stands Γ al s (msk S al []) H → Rp (Ca Γ al) (PK.ms (msk S al []) H) v d → De.rt v H
  | .bk env, s => ∀ A σ H al, A.map (·.1) = Ob → RelM Γ al0 H0 al s S A G σ H env → De.bk σ H
  | .ct env, s => ∀ A σ H al, A.map (·.1) = Ob → RelM Γ al0 H0 al s S A G σ H env → De.ct σ H
def liS (Γ : Sig) (al0 : List Addr) (H0 : Hp) (O O' Ob : List Nat) (p : LP.Env → M Fl) : TS := fun De σ H => ∃ S A G env E al s, A.map (·.1) = O ∧ RelM Γ al0 H0 al s S A G σ H env ∧ (p env).wp (FQ Γ al0 H0 S G O' Ob De) E s
def thenM (m : M Fl) (q : LP.Env → M Fl) : M Fl := m.bind fun f => match f with
  | .nx e => q e
  | f => M.ret f
section
variable {Γ : Sig} {al0 al al' : List Addr} {s s' : Sto} {H0 H H' : Hp} {S : List Addr} {A : List (Nat × Addr)} {G : List (V × D)} {σ : L2.St} {env : LP.Env}
theorem RelM.sub (k : Nat → Bool) (r : RelM Γ al0 H0 al s S A G σ H env) : RelM Γ al0 H0 al s S (A.filter fun x => k x.1) G σ H env :=
  ⟨r.r.sub k, r.st.sub fun b hb => by
    rcases List.mem_append.mp hb with h | h
    · exact List.mem_append_left _ h
    · obtain ⟨x, hx, rfl⟩ := List.mem_map.mp h
      exact List.mem_append_right _ (List.mem_map.mpr ⟨x, (List.mem_filter.mp hx).1, rfl⟩), r.ex, r.fz⟩
theorem RelM.set {v : V} {d : D} {i : Nat} (r : RelM Γ al0 H0 al s S A G σ H env) (n : ∀ a, (i, a) ∉ A) (hv : Rp (Ca Γ al) (PK.ms (msk S al A) H) v d) : RelM Γ al0 H0 al s S A G (σ.set i (some v)) H (env.set i (some d)) :=
  ⟨r.r.set n hv, r.st, r.ex, r.fz⟩
theorem RelM.lat (r : RelM Γ al0 H0 al s S A G σ H env) : Later al0 H0 al H := by
  obtain ⟨be, rfl, nb⟩ := r.ex
  refine ⟨⟨be, rfl, nb⟩, fun b o n e => r.r.gr b o (fun z => (nomatch z)) (ms_at e fun z => ?_), r.fz⟩
  rcases List.mem_append.mp z with z | z
  · exact n z
  · rw [(nb b z).1] at e
    cases e
theorem Stands.bare (h : Stands Γ al s (msk S al A) H) : Stands Γ al s (msk S al []) H := h.sub fun b hb => by
  rcases List.mem_append.mp hb with h | h
  · exact List.mem_append_left _ h
  · cases h
/-- a new list comes to be owned -/
theorem RelM.own {p : Addr} {d : D} {i : Nat} (r : RelM Γ al0 H0 al s S A G σ H env) (n : ∀ a, (i, a) ∉ A) (hi : i < env.length) (np : H p = none) (x : Later al H al' H') (st : Stands Γ al' s' (msk (p :: S) al' A) H') (npal : p ∉ al') (ho : Ow (Ca Γ al') (PK.ms (msk (p :: S) al' A) H') (H' p) d) :
    RelM Γ al0 H0 al' s' S ((i, p) :: A) G (σ.set i (some (.ref p))) H' (env.set i (some d)) := by
  have hm : ∀ b ∈ msk S al' A, b ∈ msk (p :: S) al' A := fun b hb => List.mem_cons_of_mem _ hb
  have r1 : RelM Γ al0 H0 al' s' S A G σ H' env := r.later x (st.sub hm)
  have q := r1.r
  have hM : ∀ b : Addr, b ∈ msk S al' ((i, p) :: A) → b ∈ msk (p :: S) al' A := fun b h => by
    rcases List.mem_append.mp h with h | h
    · exact List.mem_cons_of_mem _ (List.mem_append_left _ h)
    · rcases List.mem_cons.mp h with h | h
      · rw [h]
        exact List.mem_cons_self
      · exact List.mem_cons_of_mem _ (List.mem_append_right _ h)
  -- what was known is known still with p kept out
  have s1 : Same (PK.ms (msk S al A) H) (PK.ms (msk S al' ((i, p) :: A)) H') := fun b o e => by
    have e2 := (x.mks (S := S) (A := A)) b o e
    obtain ⟨z1, z2⟩ := ms_some e2
    obtain ⟨w1, w2⟩ := ms_some e
    refine ms_at z1 fun z => ?_
    rcases List.mem_cons.mp (hM b z) with z | z
    · exact ne_of_none w1 np z
    · exact z2 z
  have at' : ∀ (j : Nat) (a : Addr), al[j]? = some a → al'[j]? = some a := fun _ _ h => x.at_ h
  have nA : ∀ {j a}, (j, a) ∈ A → a ∉ al := fun h z => (r.r.old _ _ h).2 (List.mem_append_right _ z)
  have hp : p ∉ msk S al A := r.r.muA.out np
  have s2 : Same (PK.ms (msk (p :: S) al' A) H') (PK.ms (msk S al' ((i, p) :: A)) H') := ms_mono hM
  refine ⟨⟨by rw [List.length_set, List.length_set]; exact q.len, fun j e h nj => ?_, fun j a h => ?_, fun j a h => ?_, ?_, ?_, fun y hy => (r.r.gh y hy).alm at' s1, q.mu, trivial, fun b hb => (nomatch hb), q.gr⟩, ⟨st.nd, st.len, fun j a e h1 h2 => ?_⟩, r1.ex, r1.fz⟩
  · have z : i ≠ j := fun z => nj p (z ▸ List.mem_cons_self)
    rw [List.getElem?_set_ne z] at h
    obtain ⟨w, h1, h2⟩ := r.r.fr j e h fun a ha => nj a (List.mem_cons_of_mem _ ha)
    exact ⟨w, by rw [List.getElem?_set_ne z]; exact h1, h2.alm at' s1⟩
  · rcases List.mem_cons.mp h with e | h
    · cases e
      exact ⟨d, List.getElem?_set_self hi, List.getElem?_set_self (by rw [q.len]; exact hi), ho.same s2⟩
    · have z : i ≠ j := fun z => n a (z ▸ h)
      obtain ⟨e, h1, h2, h3⟩ := r.r.ow j a h
      refine ⟨e, by rw [List.getElem?_set_ne z]; exact h1, by rw [List.getElem?_set_ne z]; exact h2, ?_⟩
      generalize hq : H a = o at h3
      cases h3 with
      | lst h3 =>
        rw [x.gr a _ (nA h) hq]
        exact .lst (h3.alm at' s1)
  · rcases List.mem_cons.mp h with e | h
    · cases e
      refine ⟨?_, fun z => ?_⟩
      · cases q0 : PK.ms al' H0 p with
        | none => rfl
        | some o =>
          obtain ⟨q1, q2⟩ := ms_some q0
          have := r.r.gr p o (fun z => (nomatch z)) (ms_at q1 fun z => q2 (x.in_ z))
          rw [np] at this
          cases this
      · rcases List.mem_append.mp z with z | z
        · exact hp (List.mem_append_left _ (List.mem_append_left _ z))
        · exact npal z
    · exact q.old j a h
  · rw [List.map_cons, List.nodup_cons]
    exact ⟨fun z => hp (List.mem_append_right _ z), q.nd⟩
  · rw [List.map_cons, List.nodup_cons]
    refine ⟨fun z => ?_, q.ndk⟩
    obtain ⟨⟨j, a⟩, hx, e⟩ := List.mem_map.mp z
    have e : j = i := e
    subst e
    exact n a hx
  · obtain ⟨o, e1, ho'⟩ := st.ob j a e h1 h2
    exact ⟨o, e1, ho'.alm (fun _ _ h => h) s2⟩
/-- an owned list changes -/
theorem RelM.put {a : Addr} {d : D} {i : Nat} {o : HO} (r : RelM Γ al0 H0 al s S A G σ H env) (h : (i, a) ∈ A) (ho : Ow (Ca Γ al) (PK.ms (msk S al A) H) (some o) d) : RelM Γ al0 H0 al s S A G σ (upd H a o) (env.set i (some d)) := by
  have ha : a ∈ msk S al A := List.mem_append_right _ (List.mem_map.mpr ⟨(i, a), h, rfl⟩)
  refine ⟨r.r.put h ho, ⟨r.st.nd, r.st.len, fun j b e h1 h2 => ?_⟩, r.ex, fun b o' u e => by
    have e1 := r.fz b o' u e
    by_cases z : b = a
    · obtain ⟨d', _, _, w⟩ := r.r.ow i a h
      rw [← z, e1] at w
      cases w
    · rw [upd_ne z]
      exact e1⟩
  obtain ⟨u, e1, hu⟩ := r.st.ob j b e h1 h2
  have nb : b ≠ a := fun z => (r.r.old i a h).2 (List.mem_append_right _ (by rw [← z]; exact List.mem_of_getElem? h1))
  refine ⟨u, by rw [upd_ne nb]; exact e1, ?_⟩
  rw [ms_upd ha]
  exact hu
end
section
variable {X : Cx} {Γ : Sig} {al0 : List Addr} {H0 : Hp} {O O1 O2 O' Ob : List Nat} {st : Stmt} {sts a b : List Stmt} {e c : Expr} {es : List Expr} {pos : Pos} {p q : LP.Env → M Fl}
abbrev LS (Γ : Sig) (al0 : List Addr) (H0 : Hp) (O O' Ob : List Nat) (X : Cx) (st : Stmt) (p : LP.Env → M Fl) : Prop := PS X st (liS Γ al0 H0 O O' Ob p)
abbrev LSs (Γ : Sig) (al0 : List Addr) (H0 : Hp) (O O' Ob : List Nat) (X : Cx) (st : List Stmt) (p : LP.Env → M Fl) : Prop := PSs X st (liS Γ al0 H0 O O' Ob p)
theorem lss_nil : LSs Γ al0 H0 O O Ob X [] fun env => M.ret (.nx env) := wkSs pss_nil fun De σ H ⟨S, A, G, env, E, al, s, hA, r, k⟩ => k A σ H al hA r
theorem lss_cons (h1 : LS Γ al0 H0 O O1 Ob X st p) (h2 : LSs Γ al0 H0 O2 O' Ob X sts q) (hs : O1.filter (fun i => decide (i ∈ O2)) = O2 := by decide) : LSs Γ al0 H0 O O' Ob X (st :: sts) fun env => thenM (p env) q :=
  wkSs (pss_cons h1 h2) fun De σ H ⟨S, A, G, env, E, al, s, hA, r, k⟩ => ⟨S, A, G, env, E, al, s, hA, r, (p env).mono (fun f s' k => by
    cases f with
    | nx env' => exact fun A' σ' H' al' hA' r' => ⟨S, _, G, env', E, al', s', keys_filter hA' hs, r'.sub fun i => decide (i ∈ O2), k⟩
    | rt d => exact k
    | bk env' => exact k
    | ct env' => exact k) (fun _ _ z => z) k⟩
theorem lss_one (h1 : LS Γ al0 H0 O O' Ob X st p) : LSs Γ al0 H0 O O' Ob X [st] p := pss_one h1
theorem lss_last (h1 : LS Γ al0 H0 O O1 Ob X st p) (hs : O1.filter (fun i => decide (i ∈ O')) = O' := by decide) : LSs Γ al0 H0 O O' Ob X [st] p := by
  refine wkSs (pss_one h1) fun De σ H ⟨S, A, G, env, E, al, s, hA, r, k⟩ => ⟨S, A, G, env, E, al, s, hA, r, (p env).mono (fun f s' k => ?_) (fun _ _ z => z) k⟩
  cases f with
  | nx env' => exact fun A' σ' H' al' hA' r' => k _ σ' H' al' (keys_filter hA' hs) (r'.sub fun i => decide (i ∈ O'))
  | rt d => exact k
  | bk env' => exact k
  | ct env' => exact k
theorem Rp_bare {al : List Addr} {S : List Addr} {A : List (Nat × Addr)} {H : Hp} {v : V} {d : D} (h : Rp (Ca Γ al) (PK.ms (msk S al A) H) v d) : Rp (Ca Γ al) (PK.ms (msk S al []) H) v d := h.same (ms_mono fun b hb => by
  rcases List.mem_append.mp hb with h | h
  · exact List.mem_append_left _ h
  · cases h)
theorem ls_ret {pe : LP.Env → M D} (h : LE Γ al0 H0 O X e pe) : LS Γ al0 H0 O O' Ob X (.Return (some e) pos) fun env => (pe env).bind fun d => M.ret (.rt d) :=
  wkS (ps_ret h) fun De σ H ⟨S, A, G, env, E, al, s, hA, r, k⟩ => ⟨S, A, G, env, E, al, s, hA, r, (pe env).mono (fun d s' k v H' al' x st hv => by
    have r' := r.later x st
    exact k v H' al' r'.lat st.bare (Rp_bare hv)) (fun _ _ z => z) k⟩
theorem ls_if {pt : LP.Env → M Bool} (hc : LT Γ al0 H0 O X c pt) (ha : LSs Γ al0 H0 O O' Ob X a p) (hb : LSs Γ al0 H0 O O' Ob X b q) : LS Γ al0 H0 O O' Ob X (.If c a b pos) fun env => (pt env).bind fun k => M.ite k (p env) (q env) :=
  wkS (ps_if hc ha hb) fun De σ H ⟨S, A, G, env, E, al, s, hA, r, k⟩ => ⟨S, A, G, env, E, al, s, hA, r, (pt env).mono (fun b s' k H' al' x st => by
    cases b with
    | true => exact iteT ⟨S, A, G, env, E, al', s', hA, r.later x st, k⟩
    | false => exact iteF ⟨S, A, G, env, E, al', s', hA, r.later x st, k⟩) (fun _ _ z => z) k⟩
/-- x = e -/
theorem asg_reads {te : TE} {pe : LP.Env → M D} {i : Nat} (hO : O.filter (fun j => decide (j ∈ O')) = O') (hi : i ∉ O') (h : ∀ σ H Q, liE Γ al0 H0 O pe σ H Q → te σ H Q) :
    ∀ De σ H, liS Γ al0 H0 O O' Ob (fun env => (pe env).bind fun d => M.ret (.nx (env.set i (some d)))) De σ H → tAsg te (gName i) De σ H := by
  rintro De σ H ⟨S, A, G, env, E, al, s, hA, r, k⟩
  refine h σ H _ ⟨S, A, G, env, E, al, s, hA, r, (pe env).mono (fun d s' k v H' al' x st hv => ?_) (fun _ _ z => z) k⟩
  refine k _ _ H' al' (keys_filter hA hO) (((r.later x st).sub fun j => decide (j ∈ O')).set (fun a ha => hi ?_) (hv.same (ms_mono fun b hb => ?_)))
  · exact of_decide_eq_true (List.mem_filter.mp ha).2
  · rcases List.mem_append.mp hb with hb | hb
    · exact List.mem_append_left _ hb
    · obtain ⟨x, hx, rfl⟩ := List.mem_map.mp hb
      exact List.mem_append_right _ (List.mem_map.mpr ⟨x, (List.mem_filter.mp hx).1, rfl⟩)
theorem ls_set {pe : LP.Env → M D} {i : Nat} {x : Str} {pos' : Pos} (hN : X.N.Nodup) (hi : X.N[i]? = some x) (hx : Loc X.env.scope x) (he : LE Γ al0 H0 O X e pe) (hO : O.filter (fun j => decide (j ∈ O')) = O' := by decide) (hi2 : i ∉ O' := by decide)
    (hs : swapsWith e (some (.Name x pos')) pos.line X.env = pure false := by rfl) (hf : X.fn x = true ∨ X.env.scope.names.lookup x = some .local := by first | exact .inl rfl | exact .inr rfl | assumption) :
    LS Γ al0 H0 O O' Ob X (.Assign [.Name x pos'] e pos) fun env => (pe env).bind fun d => M.ret (.nx (env.set i (some d))) :=
  wkS (ps_set hN hi hx he hs hf) (asg_reads hO hi2 fun _ _ _ h => h)
/-- x = a new list, owned -/
theorem own_reads {te : TE} {pe : LP.Env → M D} {i : Nat} (hO : O.filter (fun j => decide (j ∈ O')) = O') (hi : i ∉ O') (h : ∀ σ H Q, liN Γ al0 H0 O pe σ H Q → te σ H Q) :
    ∀ De σ H, liS Γ al0 H0 O (i :: O') Ob (fun env => (pe env).bind fun d => (M.want (i < env.length)).bind fun _ => M.ret (.nx (env.set i (some d)))) De σ H → tAsg te (gName i) De σ H := by
  rintro De σ H ⟨S, A, G, env, E, al, s, hA, r, k⟩
  let A' := A.filter fun x => decide (x.1 ∈ O')
  have hm : ∀ {l al' b}, b ∈ msk (l :: S) al' A' → b ∈ msk (l :: S) al' A := fun {l al' b} hb => by
    rcases List.mem_append.mp hb with hb | hb
    · exact List.mem_append_left _ hb
    · obtain ⟨x, hx, rfl⟩ := List.mem_map.mp hb
      exact List.mem_append_right _ (List.mem_map.mpr ⟨x, (List.mem_filter.mp hx).1, rfl⟩)
  refine h σ H _ ⟨S, A, G, env, E, al, s, hA, r, (pe env).mono (fun d s' k l H' al' x st nl nal ho => ?_) (fun _ _ z => z) k⟩
  refine k.2 _ _ H' al' (by rw [List.map_cons, keys_filter hA hO]) ((r.sub fun j => decide (j ∈ O')).own (fun a ha => hi ?_) k.1 nl x (st.sub fun b hb => hm hb) nal (ho.same (ms_mono fun b hb => hm hb)))
  exact of_decide_eq_true (List.mem_filter.mp ha).2
theorem ls_own {pe : LP.Env → M D} {i : Nat} {x : Str} {pos' : Pos} (hN : X.N.Nodup) (hi : X.N[i]? = some x) (hx : Loc X.env.scope x) (he : PE X e (liN Γ al0 H0 O pe)) (hO : O.filter (fun j => decide (j ∈ O')) = O' := by decide) (hi2 : i ∉ O' := by decide)
    (hs : swapsWith e (some (.Name x pos')) pos.line X.env = pure false := by rfl) (hf : X.fn x = true ∨ X.env.scope.names.lookup x = some .local := by first | exact .inl rfl | exact .inr rfl | assumption) :
    LS Γ al0 H0 O (i :: O') Ob X (.Assign [.Name x pos'] e pos) fun env => (pe env).bind fun d => (M.want (i < env.length)).bind fun _ => M.ret (.nx (env.set i (some d))) :=
  wkS (ps_set hN hi hx he hs hf) (own_reads hO hi2 fun _ _ _ h => h)
/-- a, b = e -/
theorem ls_asg {pe : LP.Env → M D} {tg : Expr} {gW : D → LP.Env → W LP.Env} {vs : List Nat} (he : LE Γ al0 H0 O X e pe) (hg : LG Γ al0 H0 O vs X tg gW) (hs : swapsWithSole [tg] e pos.line X.env = pure false := by rfl) (hw : swappedStores [tg] e X.env = pure none := by rfl) (h1 : (assignEach [tg] X.env).map (·.2) = [assign tg X.env] := by rfl) :
    LS Γ al0 H0 O O Ob X (.Assign [tg] e pos) fun env => (pe env).bind fun d => (M.lift (gW d env)).bind fun env' => M.ret (.nx env') :=
  wkS (ps_asg he hg hs hw h1) fun De σ H ⟨S, A, G, env, E, al, s, hA, r, k⟩ => ⟨S, A, G, env, E, al, s, hA, r, (pe env).mono (fun d s' k v H' al' x st hv =>
    ⟨S, A, G, env, d, fun e => E e s', al', s', hA, r.later x st, hv, W.mono _ (fun env' k σ' _ _ r2 => k A σ' H' al' hA r2) (fun _ z => z) k⟩) (fun _ _ z => z) k⟩
/-! ### loops -/
def forM' (g : D → LP.Env → W LP.Env) (p : LP.Env → M Fl) : List D → LP.Env → M Fl
  | [], env => M.ret (.nx env)
  | d :: ds, env => (M.lift (g d env)).bind fun env1 => (p env1).bind fun f => match f with
    | .nx e => forM' g p ds e
    | .ct e => forM' g p ds e
    | .bk e => M.ret (.nx e)
    | .rt d => M.ret (.rt d)
theorem ls_for {tg iter : Expr} {body : List Stmt} {pi : LP.Env → M (List D)} {gW : D → LP.Env → W LP.Env} {vs : List Nat} (hp : PassesOwn (model X.prog X.w) X.A X.env X.xe) (hc : X.calm = true) (hi : LI Γ al0 H0 O X tg iter pi) (hg : LG Γ al0 H0 O vs X tg gW) (hb : LSs Γ al0 H0 O O O X body p)
    (hs : ∀ x, foldedSetIterable iter X.env x = pure x := by intro _; rfl) : LS Γ al0 H0 O O Ob X (.For tg iter body [] pos) fun env => (pi env).bind fun ds => forM' gW p ds env := by
  refine wkS (ps_for hp hc hi hg hb hs) fun De σ H ⟨S, A, G, env, E, al, s, hA, r, k⟩ => ⟨S, A, G, env, E, al, s, hA, r, (pi env).mono (fun ds s1 k J H1 al1 gh x1 st1 hgh w => ?_) (fun _ _ z => z) k⟩
  have r1 := r.later x1 st1
  refine ⟨fun i m σ' H' => m = ds.length - i ∧ i ≤ ds.length ∧ ∃ A' env' al' s', A'.map (·.1) = O ∧ RelM Γ al0 H0 al' s' S A' (gh ++ G) σ' H' env' ∧ (forM' gW p (ds.drop i) env').wp (FQ Γ al0 H0 S G O Ob De) E s', ⟨ds.length, rfl, Nat.zero_le _, A, env, al1, s1, hA, ⟨r1.r.ghost hgh, r1.st, r1.ex, r1.fz⟩, k⟩, ?_⟩
  rintro i m σ2 H2 ⟨rfl, hi2, A2, env2, al2, s2, hA2, r2, k2⟩
  have gh2 : ∀ x ∈ gh, Rp (Ca Γ al2) (PK.ms (msk S al2 A2) H2) x.1 x.2 := fun x hx => r2.r.gh x (List.mem_append_left _ hx)
  by_cases hlt : i < ds.length
  · refine .inr ⟨(w al2).goes _ H2 i r2.r.muA gh2 hlt, fun σ' H' => ∃ A' env' al' s', A'.map (·.1) = O ∧ RelM Γ al0 H0 al' s' S A' (gh ++ G) σ' H' env' ∧ (forM' gW p (ds.drop (i + 1)) env').wp (FQ Γ al0 H0 S G O Ob De) E s', fun σ' H' p' => ⟨ds.length - (i + 1), by omega, rfl, hlt, p'⟩, fun x H3 y => ?_⟩
    obtain ⟨s3, d, hd, rx⟩ := (w al2).yields _ H2 i x H3 r2.r.muA gh2 hlt y
    rw [List.drop_eq_getElem_cons hlt] at k2
    have ed : ds[i] = d := by
      rw [List.getElem?_eq_getElem hlt] at hd
      exact Option.some.inj hd
    rw [ed] at k2
    refine ⟨S, A2, gh ++ G, env2, d, fun e => E e s2, al2, s2, hA2, r2.same s3, rx, W.mono _ (fun env3 k3 σ3 _ _ r3 => ?_) (fun _ z => z) k2⟩
    refine ⟨S, A2, gh ++ G, env3, E, al2, s2, hA2, r3, (p env3).mono (fun f s4 k4 => ?_) (fun _ _ z => z) k3⟩
    cases f with
    | nx e => exact fun A' σ' H' al' hA' r' => ⟨A', e, al', s4, hA', r', k4⟩
    | ct e => exact fun A' σ' H' al' hA' r' => ⟨A', e, al', s4, hA', r', k4⟩
    | bk e => exact fun A' σ' H' al' hA' r' => k4 A' σ' H' al' hA' ⟨r'.r.unghost, r'.st, r'.ex, r'.fz⟩
    | rt d => exact k4
  · have e : i = ds.length := by omega
    subst e
    rw [List.drop_length] at k2
    exact .inl ⟨(w al2).stops _ H2 r2.r.muA gh2, k2 A2 σ2 H2 al2 hA2 ⟨r2.r.unghost, r2.st, r2.ex, r2.fz⟩⟩
def whileN (t : LP.Env → M Bool) (p : LP.Env → M Fl) : Nat → LP.Env → M Fl
  | 0, _ => M.fail
  | n + 1, env => (t env).bind fun b => M.ite b ((p env).bind fun f => match f with
    | .nx e => whileN t p n e
    | .ct e => whileN t p n e
    | .bk e => M.ret (.nx e)
    | .rt d => M.ret (.rt d)) (M.ret (.nx env))
def whileM (t : LP.Env → M Bool) (p : LP.Env → M Fl) (env : LP.Env) : M Fl := ⟨fun Q E s => ∃ n, (whileN t p n env).wp Q E s, fun h1 h2 ⟨n, q⟩ => ⟨n, M.mono _ h1 h2 q⟩⟩
theorem ls_while {body : List Stmt} {pt : LP.Env → M Bool} (hp : PassesOwn (model X.prog X.w) X.A X.env X.xe) (hc : LT Γ al0 H0 O X c pt) (hb : LSs Γ al0 H0 O O O X body p) : LS Γ al0 H0 O O Ob X (.While c body [] pos) fun env => whileM pt p env := by
  refine wkS (ps_while hp hc hb) fun De σ H ⟨S, A, G, env, E, al, s, hA, r, n, k⟩ => ?_
  refine ⟨fun m σ' H' => ∃ A' env' al' s', A'.map (·.1) = O ∧ RelM Γ al0 H0 al' s' S A' G σ' H' env' ∧ (whileN pt p m env').wp (FQ Γ al0 H0 S G O Ob De) E s', ⟨n, A, env, al, s, hA, r, k⟩, ?_⟩
  rintro m σ2 H2 ⟨A2, env2, al2, s2, hA2, r2, k2⟩
  cases m with
  | zero => exact k2.elim
  | succ m =>
    refine ⟨S, A2, G, env2, E, al2, s2, hA2, r2, (pt env2).mono (fun b s3 k3 H3 al3 x3 st3 => ?_) (fun _ _ z => z) k2⟩
    have r3 := r2.later x3 st3
    cases b with
    | false => exact iteF (k3 A2 σ2 H3 al3 hA2 r3)
    | true =>
      refine iteT ⟨fun σ' H' => ∃ A' env' al' s', A'.map (·.1) = O ∧ RelM Γ al0 H0 al' s' S A' G σ' H' env' ∧ (whileN pt p m env').wp (FQ Γ al0 H0 S G O Ob De) E s', fun σ' H' p' => ⟨m, by omega, p'⟩, ?_⟩
      refine ⟨S, A2, G, env2, E, al3, s3, hA2, r3, (p env2).mono (fun f s4 k4 => ?_) (fun _ _ z => z) k3⟩
      cases f with
      | nx e => exact fun A' σ' H' al' hA' r' => ⟨A', e, al', s4, hA', r', k4⟩
      | ct e => exact fun A' σ' H' al' hA' r' => ⟨A', e, al', s4, hA', r', k4⟩
      | bk e => exact fun A' σ' H' al' hA' r' => k4 A' σ' H' al' hA' r'
      | rt d => exact k4
end
end LP.LM
namespace LP.LM
open PySem PySem.Spec PyProof.Rows L2 PK RZ
section
variable {X : Cx} {Γ : Sig} {al0 : List Addr} {H0 : Hp} {O O' Ob : List Nat} {e ix : Expr} {es : List Expr} {pos : Pos} {pa pi' : LP.Env → M D} {ps : LP.Env → M (List D)}
/-! ### owned lists -/
theorem ln_lst (h : LA Γ al0 H0 O X es ps) : PE X (.List es pos) (liN Γ al0 H0 O fun env => (ps env).bind fun ds => M.lift (lstW ds)) :=
  wkE (pe_lst h) fun σ H Q ⟨S, A, G, env, E, al, s, hA, r, z⟩ => ⟨S, A, G, env, E, al, s, hA, r, (ps env).mono (fun ds s' u vs H1 al1 x1 st1 hv => ⟨by rw [hv.len]; exact u.1, fun p np => by
    have sm : Same H1 (upd H1 p (.lst vs)) := same_new (Same.refl H1) np
    have r1 := r.later x1 st1
    have npal := r1.outN np
    have n0 : H p = none := by
      cases q : H p with
      | none => rfl
      | some o =>
        have := x1.gr p o (fun z => npal (x1.in_ z)) q
        rw [np] at this
        cases this
    refine u.2 p _ al1 (x1.trans (Later.of sm)) (r1.st.mask np) n0 npal ?_
    rw [upd_same]
    refine .lst (hv.same fun b o e => ?_)
    obtain ⟨h1, h2⟩ := ms_some e
    exact ms_at (sm _ _ h1) fun z => (List.mem_cons.mp z).elim (ne_of_none h1 np) h2⟩) (fun _ _ z => z) z⟩
def putM (env : LP.Env) (i : Nat) (f : List D → W (List D)) : M Fl := M.lift (putW env i f)
theorem owned {al : List Addr} {s : Sto} {S : List Addr} {A : List (Nat × Addr)} {G : List (V × D)} {σ : L2.St} {H : Hp} {env : LP.Env} {i : Nat} (hA : A.map (·.1) = O) (hO : i ∈ O) (r : RelM Γ al0 H0 al s S A G σ H env) :
    ∃ a us ds, (i, a) ∈ A ∧ env[i]? = some (some (.lst ds)) ∧ σ[i]? = some (some (.ref a)) ∧ H a = some (.lst us) ∧ RpAll (Ca Γ al) (PK.ms (msk S al A) H) us ds ∧ a ∉ al := by
  rw [← hA] at hO
  obtain ⟨⟨j, a⟩, ha, e1⟩ := List.mem_map.mp hO
  have e1 : j = i := e1
  subst e1
  obtain ⟨d0, h1, h2, h3⟩ := r.r.ow j a ha
  generalize hq : H a = o at h3
  cases h3 with
  | lst h => exact ⟨a, _, _, ha, h1, h2, hq, h, fun z => (r.r.old j a ha).2 (List.mem_append_right _ z)⟩
theorem ls_append {i : Nat} {x : Str} {pn pa' pc' : Pos} (hO : i ∈ O)
    (hm : PE X (.Call (.Attribute (.Name x pn) "append" pa') [e] [] pc') (tBM X.K "list" rAppend (tVar i) (tCons (liE Γ al0 H0 O pa) tNil)))
    (hs : swapsWith (.Call (.Attribute (.Name x pn) "append" pa') [e] [] pc') none pos.line X.env = pure false := by rfl) :
    LS Γ al0 H0 O O Ob X (.Expr (.Call (.Attribute (.Name x pn) "append" pa') [e] [] pc') pos) fun env => (pa env).bind fun d => putM env i (appW d) := by
  refine wkS (ps_expr hm hs) fun De σ H ⟨S, A, G, env, E, al, s, hA, r, q⟩ => ?_
  obtain ⟨a, us, ds, ha, h1, h2, ea, _, nal⟩ := owned hA hO r
  refine ⟨.ref a, h2, .inl ⟨rfl, us, SqL.of ea⟩, S, A, G, env, E, al, s, hA, r, (pa env).mono (fun d s1 k v H1 al1 x1 st1 hv1 => ?_) (fun _ _ z => z) q⟩
  obtain ⟨l, el, k⟩ := putW_wp k
  have r1 := r.later x1 st1
  obtain ⟨d1, i1, i2, i3⟩ := r1.r.ow i a ha
  rw [el] at i1
  cases i1
  have ea1 : H1 a = some (.lst us) := x1.gr a _ nal ea
  rw [ea1] at i3
  cases i3 with
  | lst i3 => exact ⟨a, us, v, rfl, rfl, ea1, by rw [i3.len]; exact k.1, k.2 A σ _ al1 hA (r1.put ha (.lst (i3.snoc hv1)))⟩
section
variable {elt tg iter : Expr} {ifs : List Expr} {scope : Scope} {own : List (Str × Nat)} {pi : LP.Env → M (List D)} {gW : D → LP.Env → W LP.Env} {tW : LP.Env → M Bool} {eW : LP.Env → M D}
/-- the same, frozen at once -/
theorem ls_lcF {i : Nat} {y : Str} {py spos : Pos} (hc : X.calm = true) (hN : X.N.Nodup) (hy : X.N[i]? = some y) (hyl : X.env.scope.names.lookup y = some .local)
    (hsw : swapsWith (.ListComp elt [⟨tg, iter, ifs, 0⟩] scope pos) (some (.Name y py)) spos.line X.env = pure true) (hi : LI Γ al0 H0 O X tg iter pi) (ok : BlkOk X.N X.env.scope scope own) (hvs : ∀ i ∈ own.map (·.2), i ∉ O)
    (hg : ∀ (s : Shared) (H : Hp) (C : Addr) (cl : List (Str × Addr)) (fp : List Addr), LG Γ al0 H0 O (own.map (·.2)) (X.blk s H scope (compEnvC scope cl C X.env) fp) tg gW)
    (ht : ∀ (s : Shared) (H : Hp) (C : Addr) (cl : List (Str × Addr)) (fp : List Addr), LTs Γ al0 H0 O (X.blk s H scope (compEnvC scope cl C X.env) fp) ifs tW)
    (he : ∀ (s : Shared) (H : Hp) (C : Addr) (cl : List (Str × Addr)) (fp : List Addr), LE Γ al0 H0 O (X.blk s H scope (compEnvC scope cl C X.env) fp) elt eW) (hO : O.filter (fun j => decide (j ∈ O')) = O' := by decide) (hi2 : i ∉ O' := by decide) (hs : ∀ x, foldedSetIterable iter X.env x = pure x := by intro _; rfl) :
    LS Γ al0 H0 O O' Ob X (.Assign [.Name y py] (.ListComp elt [⟨tg, iter, ifs, 0⟩] scope pos) spos) fun env => (lcDM gW tW eW (own.map (·.2)) pi env).bind fun d => M.ret (.nx (env.set i (some d))) :=
  wkS (ps_setLc hc hN hy hyl hsw hi ok hg ht he hs) (asg_reads hO hi2 fun σ H Q h => lc_reads hvs (fun _ _ _ h => h) (fun _ _ _ _ h => h) (fun _ _ _ h => h) (fun _ _ _ h => h) σ H Q (by
    obtain ⟨S, A, G, env, E, al, s, hA, r, q⟩ := h
    refine ⟨S, A, G, env, E, al, s, hA, r, M.mono _ (fun d s' k l H' al' x st nl nal ho => ?_) (fun _ _ z => z) q⟩
    have hm : ∀ b ∈ msk S al' A, b ∈ msk (l :: S) al' A := fun b hb => List.mem_cons_of_mem _ hb
    refine k (.ref l) H' al' x (st.sub hm) ?_
    have nM : l ∉ msk S al' A := fun z => by
      rcases mk_later x z with z | z
      · exact r.r.muA.out nl z
      · exact nal z
    generalize hq : H' l = o at ho
    cases ho with
    | lst ho => exact .lst (ms_at hq nM) (ho.same (ms_mono hm))))
end
end
/-! ### defs -/
/-- a def by value: p of what is handed in -/
def liF (Γ : Sig) (p : List D → M D) : Sp := fun vs H Q E => ∃ (al S : List Addr) (s : Sto) (ds : List D) (EE : Ex → Sto → Prop),
  Mu (S ++ al) H ∧ Stands Γ al s (msk S al []) H ∧ RpAll (Ca Γ al) (PK.ms (msk S al []) H) vs ds ∧ (p ds).wp (kE Γ al H S [] Q) EE s
/-- what a body gives -/
def endM (m : M Fl) : M D := m.bind fun f => match f with
  | .rt d => M.ret d
  | .nx _ => M.ret .non
  | _ => M.fail
def runM (np nN : Nat) (b : LP.Env → M Fl) (ds : List D) : M D := (M.want (ds.length = np)).bind fun _ => endM (b (startE nN ds))
theorem RelM.start {Γ : Sig} {al S : List Addr} {s : Sto} {H : Hp} {vs : List V} {ds : List D} {N : List Str} (mu : Mu (S ++ al) H) (st : Stands Γ al s (msk S al []) H) (h : RpAll (Ca Γ al) (PK.ms (msk S al []) H) vs ds) : RelM Γ al H al s S [] [] (L2.start N vs) H (startE N.length ds) := by
  have h' : RpAll (Ca Γ al) (PK.ms (S ++ al) H) vs ds := h.same (ms_mono fun b hb => List.mem_append_left _ hb)
  have q := Rel.start (Ξ := Ca Γ al) (N := N) mu (fun b hb => (nomatch hb)) trivial h'
  exact ⟨⟨q.len, q.fr, q.ow, fun i a h => (nomatch h), q.nd, q.ndk, q.gh, q.mu, q.fi, q.ffs, fun b o _ e => (ms_some e).1⟩, st, ⟨[], (List.append_nil _).symm, fun _ h => (nomatch h)⟩, fun _ _ _ h => h⟩
section
variable {Γ : Sig} {mg : Str → Option Value} {base : Heap}
theorem ok_run {x qual : Str} {st : Stmt} {f : Addr} {fd : FuncData} {N ps : List Str} {k np nN : Nat} {pb : LP.Env → M Fl} (F : Fun Γ.K x qual st f fd) (Sc : FnScope N ps (defScope st)) (h1 : ps.length = np) (h2 : N.length = nN)
    (hbody : ∀ (al : List Addr) (cdv : Value) (A : Around) (outer : List PySem.Env) (s : Shared) (H : Hp) (E : XK), Room k (A.deeper (envOfC qual (defScope st) s.heap.objs.size f cdv)) →
      LSs Γ al H [] [] [] (cxOf CX0 Γ.P Γ.w Γ.K mg base N qual (defScope st) f cdv A outer s H E).nox (defBody st) pb) : FnOk Γ.P Γ.w Γ.K mg base CX0 (k + 1) f fd ps (liF Γ (runM np nN pb)) := by
  subst h1 h2
  refine F.ok Sc (fun vs H Q E ⟨al, S, s, ds, EE, mu, st, hv, q⟩ => by rw [hv.len]; exact q.1) (fun cdv A outer sh H vs Q E hr ⟨al, S, s, ds, EE, mu, st, hv, q⟩ => ?_)
  refine ⟨_, hbody al cdv A outer sh H E hr, S, [], [], startE N.length ds, EE, al, s, rfl, RelM.start mu st hv, ?_⟩
  refine M.mono _ (fun fl' s' k => ?_) (fun _ _ z => z) q.2
  cases fl' with
  | nx e => exact fun A' σ' H' al' hA' r' => k .non H' al' r'.lat r'.st.bare .non
  | rt d => exact fun v H' al' x st hv => k v H' al' x st hv
  | bk e => exact k.elim
  | ct e => exact k.elim
end
/-! ### a def called -/
structure CalM (Γ : Sig) (mg : Str → Option Value) (base : Heap) (k : Nat) (x : Str) (f : Addr)
    (fd : FuncData) (ps : List Str) (p : List D → M D) : Prop where
  ok : FnOk Γ.P Γ.w Γ.K mg base CX0 k f fd ps (liF Γ p)
  g : mg x = some (.ref f)
  kp : PySem.W.keepIn Γ.K (.ref f) = true
  b : Binds Γ.K fd ps []
structure CalMG (Γ : Sig) (mg : Str → Option Value) (base : Heap) (k : Nat) (x : Str) (f : Addr)
    (fd : FuncData) (ps : List Str) (p : List D → M D) : Prop where
  ok : FnG Γ.P Γ.w Γ.K mg base CX0 k f fd ps (liF Γ p)
  g : mg x = some (.ref f)
  kp : PySem.W.keepIn Γ.K (.ref f) = true
  b : Binds Γ.K fd ps []
section
variable {X : Cx} {Γ : Sig} {al0 : List Addr} {H0 : Hp} {O : List Nat} {k : Nat} {f : Addr} {fd : FuncData} {ps : List Str} {e : Expr} {es : List Expr} {x : Str} {pp pos : Pos} {p : List D → M D} {pw : List D → W D} {pa : LP.Env → M (List D)}
theorem sw_in {S al : List Addr} {A : List (Nat × Addr)} {b : Addr} (h : b ∈ msk (S ++ A.map (·.2)) al []) : b ∈ msk S al A := by
  rcases List.mem_append.mp h with h | h
  · rcases List.mem_append.mp h with h | h
    · rcases List.mem_append.mp h with h | h
      · exact List.mem_append_left _ (List.mem_append_left _ h)
      · exact List.mem_append_right _ h
    · exact List.mem_append_left _ (List.mem_append_right _ h)
  · cases h
theorem sw_out {S al : List Addr} {A : List (Nat × Addr)} {b : Addr} (h : b ∈ msk S al A) : b ∈ msk (S ++ A.map (·.2)) al [] := by
  refine List.mem_append_left _ ?_
  rcases List.mem_append.mp h with h | h
  · rcases List.mem_append.mp h with h | h
    · exact List.mem_append_left _ (List.mem_append_left _ h)
    · exact List.mem_append_right _ h
  · exact List.mem_append_left _ (List.mem_append_right _ h)
theorem call_reads {ta : TA} (ha : ∀ σ H Q, liA Γ al0 H0 O pa σ H Q → ta σ H Q) :
    ∀ σ H Q, liE Γ al0 H0 O (fun env => (pa env).bind p) σ H Q → ta σ H fun vs H1 => liF Γ p (vs ++ []) H1 Q fun _ _ _ => True := by
  rintro σ H Q ⟨S, A, G, env, E, al, s, hA, r, q⟩
  refine ha σ H _ ⟨S, A, G, env, E, al, s, hA, r, (pa env).mono (fun ds s1 k vs H1 al1 x1 st1 hv => ?_) (fun _ _ z => z) q⟩
  show liF Γ p (vs ++ []) H1 Q _
  rw [List.append_nil]
  have r1 := r.later x1 st1
  refine ⟨al1, S ++ A.map (·.2), s1, ds, E, fun b hb => r1.r.muA b (sw_in (List.mem_append_left _ hb)), st1.sub fun b hb => sw_in hb, hv.same (ms_mono fun b hb => sw_in hb), (p ds).mono (fun d s2 k v H2 al2 x2 st2 hv2 => ?_) (fun _ _ z => z) k⟩
  exact k v H2 al2 (x1.trans x2) (st2.sub fun b hb => sw_out hb) (hv2.same (ms_mono fun b hb => sw_out hb))
theorem le_call {mg : Str → Option Value} {base : Heap} (C : CalM Γ mg base k x f fd ps p) (hP : X.prog = Γ.P) (hw : X.w = Γ.w) (hK : X.K = Γ.K) (hmg : X.mg = mg) (hbs : X.base = base) (hr : Room k X.A) (hg : Gl X x) (ha : LA Γ al0 H0 O X (e :: es) pa)
    (hdb : (x == ("__debug__" : Str)) = false := by decide) (he : starEach (e :: es) X.env = (false, eval e X.env) :: starEach es X.env := by rfl) (hpl : (backTo pos (starEach es X.env)).any (·.1) = false := by rfl) :
    LE Γ al0 H0 O X (.Call (.Name x pp) (e :: es) [] pos) fun env => (pa env).bind p :=
  wkE (pe_call (E := fun _ _ _ => True) (by rw [hP, hw, hK, hmg, hbs]; exact C.ok) hr hg (by rw [hmg]; exact C.g) (by rw [hK]; exact C.kp) (by rw [hK]; exact C.b) .nil pass0 ha hdb he hpl) (call_reads fun _ _ _ h => h)
end
end LP.LM
namespace LP.LM
open PySem PySem.Spec PyProof.Rows L2 PK RZ
/-! ### the things of the store -/
def look (k : Nat) : M D := ⟨fun Q _ s => ∃ d, (s : List D)[k]? = some d ∧ Q d s, fun h _ ⟨d, e, q⟩ => ⟨d, e, h _ _ q⟩⟩
def store (k : Nat) (d : D) : M Unit := ⟨fun Q _ s => Q () ((s : List D).set k d), fun h _ q => h _ _ q⟩
section
variable {Γ : Sig} {al al' : List Addr} {s : Sto} {M : List Addr} {H H' : Hp} {v : V}
theorem Stands.lst {k : Nat} {a : Addr} {ds : List D} (h : Stands Γ al s M H) (ha : al[k]? = some a) (hd : (s : List D)[k]? = some (.lst ds)) : ∃ us, H a = some (.lst us) ∧ RpAll (Ca Γ al) (PK.ms M H) us ds := by
  obtain ⟨o, e, us, ds', sh, hr⟩ := h.ob k a _ ha hd
  cases sh with
  | lst => exact ⟨_, e, hr⟩
theorem Stands.put {k : Nat} {a : Addr} {o : HO} {d : D} (h : Stands Γ al s M H) (hM : ∀ b ∈ al, b ∈ M) (ha : al[k]? = some a) (ho : Obj Γ al a (PK.ms M H) o d) : Stands Γ al ((s : List D).set k d) M (upd H a o) := by
  have haM : a ∈ M := hM a (List.mem_of_getElem? ha)
  refine ⟨h.nd, by rw [List.length_set]; exact h.len, fun i b e h1 h2 => ?_⟩
  rw [ms_upd haM]
  by_cases z : k = i
  · subst z
    rw [ha] at h1
    cases h1
    have hl : k < (s : List D).length := by
      have := (List.getElem?_eq_some_iff.mp h2).1
      rwa [List.length_set] at this
    rw [List.getElem?_set_self hl] at h2
    cases h2
    exact ⟨o, upd_same, ho⟩
  · rw [List.getElem?_set_ne z] at h2
    obtain ⟨u, e1, hu⟩ := h.ob i b e h1 h2
    have nb : b ≠ a := fun w => by
      subst w
      obtain ⟨l1, e1⟩ := List.getElem?_eq_some_iff.mp h1
      obtain ⟨l2, e2⟩ := List.getElem?_eq_some_iff.mp ha
      exact z ((List.getElem_inj h.nd).mp (e2.trans e1.symm))
    exact ⟨u, by rw [upd_ne nb]; exact e1, hu⟩
theorem Later.upd {a : Addr} {o o0 : HO} (h : a ∈ al) (e0 : H a = some o0) (hn : ∀ od u, o0 ≠ .frz od u := by intro _ _ z; cases z) : Later al H al (upd H a o) := ⟨⟨[], (List.append_nil _).symm, fun _ h => (nomatch h)⟩, fun b u n e => by rw [upd_ne (fun z => n (by rw [z]; exact h))]; exact e, fun b od u e => by rw [upd_ne (fun z => by rw [z, e0] at e; exact hn _ _ (Option.some.inj e))]; exact e⟩
end
/-! ### pop -/
theorem RpAll.erase {Ξ : Ctx} {H : Hp} : ∀ (n : Nat) {vs : List V} {ds : List D}, RpAll Ξ H vs ds → RpAll Ξ H (vs.eraseIdx n) (ds.eraseIdx n)
  | _, _, _, .nil => .nil
  | 0, _, _, .cons _ h2 => h2
  | n + 1, _, _, .cons h1 h2 => .cons h1 (RpAll.erase n h2)
section
variable {X : Cx} {Γ : Sig} {al0 : List Addr} {H0 : Hp} {O O' Ob : List Nat} {o e i : Expr} {es : List Expr} {pos : Pos} {po pa pi' : LP.Env → M D} {ps : LP.Env → M (List D)}
/-! ### len of a thing of the store -/
/-! ### a new thing of the store -/
end
end LP.LM
namespace LP.LM
open PySem PySem.Spec PyProof.Rows L2 PK RZ
/-! ### dicts of the store, their keys numbers and texts -/
abbrev keyD : Key → D := fun p => match p with | .inl i => D.int i | .inr y => D.str y
section
variable {Ξ : Ctx} {H : Hp}
end
section
variable {Γ : Sig} {al : List Addr} {s : Sto} {M : List Addr} {H : Hp}
theorem Stands.dct {k : Nat} {a : Addr} {ks ds : List D} (h : Stands Γ al s M H) (ha : al[k]? = some a) (hd : (s : List D)[k]? = some (.dct ks ds)) :
    ∃ kvs : List (Key × V), H a = some (.dK kvs) ∧ ks = kvs.map (fun p => keyD p.1) ∧ (∀ p ∈ kvs, ∀ y, p.1 = .inr y → PyData.strOk y = true) ∧ (kvs.Pairwise fun a b => a.1 ≠ b.1) ∧ RpAll (Ca Γ al) (PK.ms M H) (kvs.map (·.2)) ds := by
  obtain ⟨o, e, us, ds', sh, hr⟩ := h.ob k a _ ha hd
  cases sh with
  | dK h1 h2 h3 => exact ⟨_, e, h1, h2, h3, hr⟩
end
/-! ### reading and writing -/
section
variable {X : Cx} {Γ : Sig} {al0 : List Addr} {H0 : Hp} {O O' Ob : List Nat} {o e i a b : Expr} {es : List Expr} {pos pos' : Pos} {po pa pb pi' : LP.Env → M D} {ps : LP.Env → M (List D)}
end
end LP.LM
namespace LP.LM
open PySem PySem.Spec PyProof.Rows L2 PK RZ
/-! ### the law's own def -/
def tRest (Γ : Sig) (pb : LP.Env → M Fl) : TS := fun De σ H => ∃ al H0, liS Γ al H0 [] [] [] pb De σ H
theorem pss_rest {X : Cx} {Γ : Sig} {sts : List Stmt} {pb : LP.Env → M Fl} (h : ∀ al H0, LSs Γ al H0 [] [] [] X sts pb) : PSs X sts (tRest Γ pb) :=
  ⟨fun pins s σ H D I ⟨a, H0, q⟩ => (h a H0).run pins s σ H D I q⟩
/-- the names at the law's start -/
def lawE (n : Nat) : LP.Env := (List.replicate n none).set 1 (some (.tok 1))
section
variable {Γ : Sig} {mg : Str → Option Value} {base : Heap}
theorem law_by {st : Stmt} {f : Addr} {fd : FuncData} {N : List Str} {k nN : Nat} {s0 : Str} {pb : LP.Env → M Fl} {P0 : Sto → Prop} (F : Fun Γ.K "law" "law" st f fd) (Sc : FnScope N [s0] (defScope st)) (hn : N.length = nN) (h1 : 1 < nN)
    (hS : ∀ H p c, Γ.fk H p c → ∃ s, P0 s ∧ Stands Γ [p, c] s (msk [] [p, c] []) H)
    (hb : ∀ (cdv : Value) (A : Around) (outer : List PySem.Env) (s : Shared) (H : Hp) (E : XK), A.guards = some [] → Room k (A.deeper (envOfC "law" (defScope st) s.heap.objs.size f cdv)) →
      PSs (cxOf CX0 Γ.P Γ.w Γ.K mg base N "law" (defScope st) f cdv A outer s H E).nox (defBody st) (tSeq (tAsg (tCall (spFeedOf Γ.fk Γ.K) [] (fun _ _ _ => True) (tCons (tVar 0) tNil)) (gName 1)) (tRest Γ pb)))
    (hp : ∀ s, P0 s → (pb (lawE nN)).wp (fun f _ => ∃ b, f = .rt (.bl b) ∧ b = true) (fun _ _ => False) s) : FnG Γ.P Γ.w Γ.K mg base CX0 (k + 1) f fd [s0] (spLawK Γ.K) := by
  subst hn
  refine funG_ok F Sc (fun vs H Q E h => ?_) (fun cdv A outer s H vs Q E hgd hr h => ?_)
  · obtain ⟨a, ns, rfl, _⟩ := h
    rfl
  · obtain ⟨a, ns, rfl, hS', q⟩ := h
    refine ⟨_, hb cdv A outer s H E hgd hr, ?_⟩
    refine ⟨.ref a, by rfl, a, ns, rfl, hS', fun p c H' np sm fk => ?_⟩
    obtain ⟨s', p0, st⟩ := hS H' p c fk
    have e0 : (L2.start N [V.ref a]).length = N.length := by
      unfold L2.start
      simp
      omega
    refine ⟨[p, c], H', [], [], [], lawE N.length, fun _ _ => False, [p, c], s', rfl, ⟨?_, st, ⟨[], (List.append_nil _).symm, fun _ h => (nomatch h)⟩, fun _ _ _ h => h⟩, ?_⟩
    · refine ⟨?_, fun i d hd _ => ?_, fun i a h => (nomatch h), fun i a h => (nomatch h), List.nodup_nil, List.nodup_nil, fun x hx => (nomatch hx), fun b hb => st.mt (S := []) (A := []) hb, trivial, fun b hb => (nomatch hb), fun b o _ e => (ms_some e).1⟩
      · rw [List.length_set, e0]
        simp [lawE]
      · unfold lawE at hd
        by_cases z : 1 = i
        · subst z
          rw [List.getElem?_set_self (by simpa using h1)] at hd
          cases hd
          exact ⟨.ref p, List.getElem?_set_self (by rw [e0]; exact h1), .tok rfl⟩
        · rw [List.getElem?_set_ne z] at hd
          have := List.mem_of_getElem? hd
          rw [List.mem_replicate] at this
          cases this.2
    · refine M.mono _ (fun fl s2 hf => ?_) (fun _ _ z => z) (hp s' p0)
      obtain ⟨b, rfl, rfl⟩ := hf
      intro v H2 al2 x2 st2 hv
      cases hv
      exact q H2
end
/-! ### what is drawn from: a dict, or a list -/
section
variable {P : Program} {w : World} {K : PySem.W.Frag} {cl : Nat → Option Addr} {fl : Nat → List Str}
end
end LP.LM
namespace LP
open PySem PySem.Spec PyProof.Rows L2 PK RZ
section
variable {K : PySem.W.Frag} {t : Value} {C : Addr} {b : Bool}
/-- an own class that isinstance asks for -/
theorem kit_ref (hd : PySem.W.hasDictIn K C = true) (ht : PySem.W.typeIn K (.ref C) = some (.type "type")) (h : PySem.W.subIn K t (.ref C) = some b) (hb : b = true ∨ (t == .ref C) = false) : PySem.W.kitOne K t (.ref C) = some b := by
  unfold PySem.W.kitOne
  split
  · rename_i e
    rcases hb with rfl | z
    · rfl
    · rw [z] at e
      cases e
  · obtain ⟨cd, hc, _⟩ := PySem.W.any_some hd
    have e2 : ((PySem.W.clsIn K C).isSome && PySem.W.typeIn K (.ref C) == some (.type "type")) = true := by rw [hc, ht] <;> rfl
    show (if ((PySem.W.clsIn K C).isSome && PySem.W.typeIn K (.ref C) == some (.type "type")) = true then PySem.W.subIn K t (.ref C) else none) = some b
    rw [if_pos e2]
    exact h
theorem kit_no {c : Value} {cs : List Value} (h : PySem.W.kitOne K t c = some false) (hs : PySem.W.kitAny K t cs = some false) : PySem.W.kitAny K t (c :: cs) = some false := by
  unfold PySem.W.kitAny
  rw [h]
  exact hs
end
end LP
namespace K04
open PySem PySem.Spec PyProof.Rows L2 PK
section
variable {P : Program} {w : World} {K : PySem.W.Frag} {mg : Str → Option Value} {base : Heap}
theorem ok_rowsH {f C : Addr} {fd : FuncData} {k : Nat} (F : Fun K "rows" "Heap.rows" (inClass (topS 10) 1) f fd) (T : HCls K mg C) (hT : mg "tuple" = none) :
    L2H.FnH P w K mg base CX0 (k + 1) f fd ["self"] (spRows K C) := by
  refine fun_hot F scRows (fun vs H Q E h => ?_) (fun cdv A outer s H vs Q E pp hot hr h => ?_)
  · obtain ⟨p, L, rfl, _⟩ := h
    rfl
  · obtain ⟨p, L, rfl, ⟨dx, t0, hp, dt⟩, hL, q⟩ := h
    obtain ⟨b, us, eb, hb, du⟩ := Dp.tupE dt
    cases eb
    have lus : us.length = L.length := dp_lenM du
    refine ⟨_, (pss_one (ps_ret (pe_callTy (k_tup K) (by rfl) hT (by decide +kernel) (pa_cons (pe_lcTH (own := [("form", 1), ("shade", 2), ("many", 3)]) ⟨pp, hot, List.mem_cons_self⟩ scRows.nd (pe_fld (pv 0) rfl) (blkOk_by (N := NRows) (sc := defScope (inClass (topS 10) 1)) (own := [("form", 1), ("shade", 2), ("many", 3)]) (by decide +kernel)) (fun _ _ _ _ _ p2 h2 => (pgk_tupH K (n := 3) ⟨p2, h2, List.mem_cons_self⟩ (pgs_cons (pg_name (i := 1) scRows.nd rfl (.inl rfl)) (pgs_cons (pg_name (i := 2) scRows.nd rfl (.inl rfl)) (pgs_cons (pg_name (i := 3) scRows.nd rfl (.inl rfl)) pgs_nil))))) (fun _ _ _ _ _ _ _ => (pe_tup (pa_cons (pv 1) (pa_cons (pv 2) (pa_cons (pv 3) pa_nil)))))) pa_nil)))), ?_⟩
    refine ⟨.ref p, rfl, p, C, dx, _, _, rfl, hp, T.cl, T.nh, hf_held _, t0, us, rfl, hb, fun d nd => ?_⟩
    refine ⟨fun i H2 => ∃ zs : List V, H2 d = some (.lst zs) ∧ DpAll K H2 zs ((L.take i).map prowD) ∧ Same H H2, ?_, ?_, ?_, ?_⟩
    · exact ⟨[], upd_same, .nil, same_new (Same.refl H) nd⟩
    · rintro i H2 ⟨zs, _, _, s2⟩
      exact (TKeep.of s2).sq hb
    · rintro i v H2 hv ⟨zs, ed, dz, s2⟩
      obtain ⟨e, he, de⟩ := DpAll.getV du hv
      rw [List.getElem?_map] at he
      obtain ⟨r, hxi, rfl⟩ := Option.map_eq_some_iff.mp he
      have hi := (List.getElem?_eq_some_iff.mp hxi).1
      obtain ⟨b1, rfl, hb1⟩ := Dp.prowE (Dp.same s2 de)
      refine ⟨b1, _, rfl, hb1, rfl, _, _, rfl, _, _, rfl, _, _, rfl, rfl, rfl, .str r.1, rfl, .str r.2.1, rfl, .int r.2.2, rfl, by show 3 ≤ sizeLine; decide, fun u nu => ?_⟩
      have ed6 : (upd H2 u (.tup [.str r.1, .str r.2.1, .int r.2.2])) d = some (.lst zs) := by rw [upd_ne (ne_of_none ed nu)]; exact ed
      have eu : (upd H2 u (.tup [.str r.1, .str r.2.1, .int r.2.2])) u = some (.tup [.str r.1, .str r.2.1, .int r.2.2]) := upd_same
      have s6 : Same H2 (upd H2 u (.tup [.str r.1, .str r.2.1, .int r.2.2])) := same_new (Same.refl H2) nu
      generalize upd H2 u (.tup [.str r.1, .str r.2.1, .int r.2.2]) = H6 at ed6 eu s6
      have lz : zs.length < sizeLine := by
        rw [dp_lenM dz, List.length_take]
        exact small1000 (by omega)
      refine ⟨zs, ed6, lz, zs ++ [.ref u], upd_same, ?_, same_own (s2.trans s6) nd⟩
      rw [take_snoc hxi]
      have tkd := TKeep.lst (o := .lst (zs ++ [.ref u])) ed6
      exact dp_snoc flat_prow dz ((TKeep.of s6).trans tkd) (Dp.prow (tkd.sq (SqT.of eu)))
    · rintro H2 ⟨zs, ed, dz, s2⟩
      rw [lus, List.take_length] at dz
      refine ⟨d, zs, rfl, .inl ⟨.inl (.inl ed), fun t nt => ?_⟩⟩
      exact q (.ref t) _ (same_new s2 nt) (.tup (SqT.of upd_same) (dp_move flat_prow dz (TKeep.new nt)))
end
end K04
namespace K04
open PySem PySem.Spec PyProof.Rows L2 PK
section
variable {P : Program} {w : World} {K : PySem.W.Frag} {mg : Str → Option Value} {base : Heap}
theorem ok_lessN {f fA fI fN C CN : Addr} {fd fdA fdI fdN : FuncData} {k : Nat} (F : Fun K "less" "Heap.less" (inClass (topS 10) 5) f fd) (Ab : Cal P w K mg base 2 "rows_above" fA fdA ["heap", "other"] (spAbove K C))
    (Hm : HMk P w K mg base 2 C fI fdI) (U : SupC K mg CN) (iN : PySem.W.findIn K (.ref CN) "__init__" = some (some (.ref fN))) (tN : PySem.W.typeIn K (.ref fN) = some (.type "function"))
    (Er : FnOk P w K mg base CX0 1 fN fdN ["self", "lacking"] (spErr1 CN "lacking")) (bN : Binds K fdN ["self", "lacking"] []) (gN : mg "NoParts" = some (.ref CN)) :
    FnOk P w K mg base (L2N.CX P w) (k + 4) f fd ["self", "other"] (spLess K C CN) := by
  refine fun_ctx F scLess (fun vs H Q E h => ?_) (fun cdv A outer s H vs Q E hr h => ?_)
  · obtain ⟨p, q, L, M, n, b, rfl, _⟩ := h
    rfl
  · obtain ⟨p, r, L, M, n, b, rfl, hp, hq, okL, okM, hn, rL, rM, q, qe⟩ := h
    refine ⟨_, (pss_cons (ps_set (i := 2) scLess.nd rfl (.inl rfl) (pe_call Ab.ok (hr.mono (Nat.le_add_left 2 (k + 1))) (by rfl) Ab.g Ab.kp Ab.b .nil pass0 (pa_cons (pv 1) (pa_cons (pv 0) pa_nil))))
  (pss_cons (ps_if (pt_cmpR (ko_neD K hr) (pv 2) (pe_tup pa_nil) (nomark _))
  (pss_one (L2N.ps_raise rfl (L2N.takes_of rfl rfl rfl rfl) (pmk_new U.ex iN tN Er (hr.mono (Nat.le_add_left 2 (k + 1))) bN (by rfl) gN (pa_cons (kheap1 K Hm (hr.mono (Nat.le_add_left 3 k)) (by rfl) (pv 2)) pa_nil)))) pss_nil)
  (pss_one (ps_ret (kheap1 K Hm (hr.mono (Nat.le_add_left 3 k)) (by rfl) (pe_call Ab.ok (hr.mono (Nat.le_add_left 2 (k + 1))) (by rfl) Ab.g Ab.kp Ab.b .nil pass0 (pa_cons (pv 0) (pa_cons (pv 1) pa_nil)))))))), ?_⟩
    have lL := okL.len
    have lM := okM.len
    refine ⟨.ref r, rfl, .ref p, rfl, r, p, M, L, rfl, hq, hp, by omega, by omega, fun v H1 s1 dv => ?_⟩
    refine ⟨v, rfl, Nat.zero_le _, fun e ne => ?_⟩
    have s2 : Same H1 (upd H1 e (.tup [])) := same_new (Same.refl H1) ne
    have de : Dp K (upd H1 e (.tup [])) (.ref e) (rowsD []) := .tup (SqT.of upd_same) .nil
    generalize upd H1 e (.tup []) = H2 at s2 de
    have s12 : Same H H2 := s1.trans s2
    have dv2 := Dp.same s2 dv
    refine ⟨_, rowsD [], dv2, de, rows_shaped (aboveR_ok okM okL), rows_shaped (n := 0) (b := 0) ⟨Nat.le_refl _, fun _ h => (nomatch h)⟩, _, rfl, ?_⟩
    rw [rows_eqv]
    refine ite2 (fun h1 => ?_) (fun h1 => ?_)
    · have h1 : aboveR M L ≠ [] := by simpa using h1
      have la := aboveR_len M L
      refine ⟨v, rfl, aboveR M L, .inr dv2, by omega, fun p' H3 n3 s3 h3 => ⟨by show 1 ≤ 1000; decide, fun a na => ?_⟩⟩
      rw [sumR_id (rises_above rM)] at h3
      refine ⟨a, .ref p', rfl, upd_same, fun dx ndx ndxa => ⟨rfl, dx, [("lacking", .ref p')], upd_same, ?_, ?_, ?_⟩⟩
      · rw [upd_ne ndxa, upd_same]
      · rw [upd_ne ndxa] at ndx
        exact ndx
      · have nd3 : H3 dx = none := by
          rw [upd_ne ndxa] at ndx
          exact ndx
        have s4 : Same H3 (upd (del (upd (upd (upd H3 a (exo a CN none)) dx (exd dx [("lacking", .ref p')])) a (exo a CN (some dx))) a) dx (.xd [("lacking", .ref p')])) := fun b o z => by
          have z1 : b ≠ dx := ne_of_none z nd3
          have z2 : b ≠ a := ne_of_none z na
          rw [upd_ne z1, del_ne z2, upd_ne z2, upd_ne z1, upd_ne z2]
          exact z
        have s34 := (s12.trans s3).trans s4
        exact qe h1 p' dx _ ((s12.trans s3).free nd3) (s12.free n3) s34 (h3.same s4) upd_same
    · have h1 : aboveR M L = [] := by simpa using h1
      refine ⟨.ref p, rfl, .ref r, rfl, p, r, L, M, rfl, hp.same s12, hq.same s12, by omega, by omega, fun v3 H3 s3 dv3 => ?_⟩
      have la := aboveR_len L M
      refine ⟨aboveR L M, .inr dv3, by omega, fun p' H4 n4 s4 h4 => ?_⟩
      rw [sumR_id (rises_above rL)] at h4
      have s13 := s12.trans s3
      exact q h1 p' H4 (s13.free n4) (s13.trans s4) h4
end
end K04
namespace LP.K04
open PySem PySem.Spec PyProof.Rows L2 PK LP RZ
open _root_.K04
section
variable {K : PySem.W.Frag}
theorem kb_m2 {f : Addr} {fd : FuncData} (F : FunM K f fd) : KB K fd ["self", "form", "shade"] 2 [] (fun vs _ => vs ++ [.non]) :=
  kb_of F 2 [] (fun vs ds _ => vs ++ ds) (by simp) (fun r d _ => r.append d) fun T kV doc pm an cdv ct us its ws h1 h2 h3 => by
    match us, its, ws, h1, h2, h3 with
    | [a, b], [c], [], _, _, _ => exact ⟨_, rfl, rfl⟩
theorem b_many3 {f : Addr} {fd : FuncData} (F : FunM K f fd) : ∃ ds, Vals ([] : List V) ds ∧ Binds K fd ["self", "form", "shade"] ds := by
  refine F.binds1 (ps := ["self", "form", "shade"]) 3 1 (by simp) rfl fun T kV doc pm an cdv ct us its h1 h2 => ?_
  match us, its, h1, h2 with
  | [a, b, c], [d], _, _ => exact ⟨_, rfl, rfl⟩
end
theorem all_mk {l : PySem.W.OpenLaw} {w : World} {K : PySem.W.Frag} {h : Heap} {mg : Str → Option Value} {fa : Addr} (X : K.In h) (G : h.Ns mainGlobals mg) (hfa : mg "law" = some (.ref fa))
    {f_feed : Addr} {od_feed an_feed : Option Addr} {sl_feed : Array (Option Value)} {oc_feed kV_feed dc_feed pm_feed cd_feed ct_feed : Value}
    (a_feed : PySem.W.nsIn K mainGlobals "_law_feed" = some (some (.ref f_feed))) (l_feed : K.lookup f_feed = some ⟨oc_feed, od_feed, .func (PySem.W.fnOf "_law_feed" "_law_feed" (defArgs (topS 12)) (defBody (topS 12)) (defScope (topS 12)) .none kV_feed dc_feed pm_feed an_feed cd_feed ct_feed), sl_feed⟩) (c_feed : PySem.W.codeIn K cd_feed "_law_feed" = true) (k_feed : PySem.W.keepIn K (.ref f_feed) = true)
    {f_Draw : Addr} {od_Draw an_Draw : Option Addr} {sl_Draw : Array (Option Value)} {oc_Draw kV_Draw dc_Draw pm_Draw cd_Draw ct_Draw : Value}
    (a_Draw : PySem.W.nsIn K mainGlobals "_law_draw" = some (some (.ref f_Draw))) (l_Draw : K.lookup f_Draw = some ⟨oc_Draw, od_Draw, .func (PySem.W.fnOf "_law_draw" "_law_draw" (defArgs (topS 13)) (defBody (topS 13)) (defScope (topS 13)) .none kV_Draw dc_Draw pm_Draw an_Draw cd_Draw ct_Draw), sl_Draw⟩) (c_Draw : PySem.W.codeIn K cd_Draw "_law_draw" = true) (k_Draw : PySem.W.keepIn K (.ref f_Draw) = true)
    {f_added : Addr} {od_added an_added : Option Addr} {sl_added : Array (Option Value)} {oc_added kV_added dc_added pm_added cd_added ct_added : Value}
    (a_added : PySem.W.nsIn K mainGlobals "added_rows" = some (some (.ref f_added))) (l_added : K.lookup f_added = some ⟨oc_added, od_added, .func (PySem.W.fnOf "added_rows" "added_rows" (defArgs (topS 8)) (defBody (topS 8)) (defScope (topS 8)) .none kV_added dc_added pm_added an_added cd_added ct_added), sl_added⟩) (c_added : PySem.W.codeIn K cd_added "added_rows" = true) (k_added : PySem.W.keepIn K (.ref f_added) = true)
    {f_above : Addr} {od_above an_above : Option Addr} {sl_above : Array (Option Value)} {oc_above kV_above dc_above pm_above cd_above ct_above : Value}
    (a_above : PySem.W.nsIn K mainGlobals "rows_above" = some (some (.ref f_above))) (l_above : K.lookup f_above = some ⟨oc_above, od_above, .func (PySem.W.fnOf "rows_above" "rows_above" (defArgs (topS 9)) (defBody (topS 9)) (defScope (topS 9)) .none kV_above dc_above pm_above an_above cd_above ct_above), sl_above⟩) (c_above : PySem.W.codeIn K cd_above "rows_above" = true) (k_above : PySem.W.keepIn K (.ref f_above) = true)
    {f_LNames : Addr} {od_LNames an_LNames : Option Addr} {sl_LNames : Array (Option Value)} {oc_LNames kV_LNames dc_LNames pm_LNames cd_LNames ct_LNames : Value}
    (a_LNames : PySem.W.nsIn K mainGlobals "_law_names" = some (some (.ref f_LNames))) (l_LNames : K.lookup f_LNames = some ⟨oc_LNames, od_LNames, .func (PySem.W.fnOf "_law_names" "_law_names" (defArgs (topS 14)) (defBody (topS 14)) (defScope (topS 14)) .none kV_LNames dc_LNames pm_LNames an_LNames cd_LNames ct_LNames), sl_LNames⟩) (c_LNames : PySem.W.codeIn K cd_LNames "_law_names" = true) (k_LNames : PySem.W.keepIn K (.ref f_LNames) = true)
    {f_LMany : Addr} {od_LMany an_LMany : Option Addr} {sl_LMany : Array (Option Value)} {oc_LMany kV_LMany dc_LMany pm_LMany cd_LMany ct_LMany : Value}
    (a_LMany : PySem.W.nsIn K mainGlobals "_law_many" = some (some (.ref f_LMany))) (l_LMany : K.lookup f_LMany = some ⟨oc_LMany, od_LMany, .func (PySem.W.fnOf "_law_many" "_law_many" (defArgs (topS 15)) (defBody (topS 15)) (defScope (topS 15)) .none kV_LMany dc_LMany pm_LMany an_LMany cd_LMany ct_LMany), sl_LMany⟩) (c_LMany : PySem.W.codeIn K cd_LMany "_law_many" = true) (k_LMany : PySem.W.keepIn K (.ref f_LMany) = true)
    {f_LRows : Addr} {od_LRows an_LRows : Option Addr} {sl_LRows : Array (Option Value)} {oc_LRows kV_LRows dc_LRows pm_LRows cd_LRows ct_LRows : Value}
    (a_LRows : PySem.W.nsIn K mainGlobals "_law_rows" = some (some (.ref f_LRows))) (l_LRows : K.lookup f_LRows = some ⟨oc_LRows, od_LRows, .func (PySem.W.fnOf "_law_rows" "_law_rows" (defArgs (topS 16)) (defBody (topS 16)) (defScope (topS 16)) .none kV_LRows dc_LRows pm_LRows an_LRows cd_LRows ct_LRows), sl_LRows⟩) (c_LRows : PySem.W.codeIn K cd_LRows "_law_rows" = true) (k_LRows : PySem.W.keepIn K (.ref f_LRows) = true)
    {f_Summed : Addr} {od_Summed an_Summed : Option Addr} {sl_Summed : Array (Option Value)} {oc_Summed kV_Summed dc_Summed pm_Summed cd_Summed ct_Summed : Value}
    (a_Summed : PySem.W.nsIn K mainGlobals "_law_summed" = some (some (.ref f_Summed))) (l_Summed : K.lookup f_Summed = some ⟨oc_Summed, od_Summed, .func (PySem.W.fnOf "_law_summed" "_law_summed" (defArgs (topS 17)) (defBody (topS 17)) (defScope (topS 17)) .none kV_Summed dc_Summed pm_Summed an_Summed cd_Summed ct_Summed), sl_Summed⟩) (c_Summed : PySem.W.codeIn K cd_Summed "_law_summed" = true) (k_Summed : PySem.W.keepIn K (.ref f_Summed) = true)
    {f_Near : Addr} {od_Near an_Near : Option Addr} {sl_Near : Array (Option Value)} {oc_Near kV_Near dc_Near pm_Near cd_Near ct_Near : Value}
    (a_Near : PySem.W.nsIn K mainGlobals "_law_near" = some (some (.ref f_Near))) (l_Near : K.lookup f_Near = some ⟨oc_Near, od_Near, .func (PySem.W.fnOf "_law_near" "_law_near" (defArgs (topS 18)) (defBody (topS 18)) (defScope (topS 18)) .none kV_Near dc_Near pm_Near an_Near cd_Near ct_Near), sl_Near⟩) (c_Near : PySem.W.codeIn K cd_Near "_law_near" = true) (k_Near : PySem.W.keepIn K (.ref f_Near) = true)
    {f_Over : Addr} {od_Over an_Over : Option Addr} {sl_Over : Array (Option Value)} {oc_Over kV_Over dc_Over pm_Over cd_Over ct_Over : Value}
    (a_Over : PySem.W.nsIn K mainGlobals "_law_over" = some (some (.ref f_Over))) (l_Over : K.lookup f_Over = some ⟨oc_Over, od_Over, .func (PySem.W.fnOf "_law_over" "_law_over" (defArgs (topS 19)) (defBody (topS 19)) (defScope (topS 19)) .none kV_Over dc_Over pm_Over an_Over cd_Over ct_Over), sl_Over⟩) (c_Over : PySem.W.codeIn K cd_Over "_law_over" = true) (k_Over : PySem.W.keepIn K (.ref f_Over) = true)
    {f_Left : Addr} {od_Left an_Left : Option Addr} {sl_Left : Array (Option Value)} {oc_Left kV_Left dc_Left pm_Left cd_Left ct_Left : Value}
    (a_Left : PySem.W.nsIn K mainGlobals "_law_left" = some (some (.ref f_Left))) (l_Left : K.lookup f_Left = some ⟨oc_Left, od_Left, .func (PySem.W.fnOf "_law_left" "_law_left" (defArgs (topS 20)) (defBody (topS 20)) (defScope (topS 20)) .none kV_Left dc_Left pm_Left an_Left cd_Left ct_Left), sl_Left⟩) (c_Left : PySem.W.codeIn K cd_Left "_law_left" = true) (k_Left : PySem.W.keepIn K (.ref f_Left) = true)
    {f_law : Addr} {od_law an_law : Option Addr} {sl_law : Array (Option Value)} {oc_law kV_law dc_law pm_law cd_law ct_law : Value}
    (a_law : PySem.W.nsIn K mainGlobals "law" = some (some (.ref f_law))) (l_law : K.lookup f_law = some ⟨oc_law, od_law, .func (PySem.W.fnOf "law" "law" (defArgs (topS 21)) (defBody (topS 21)) (defScope (topS 21)) .none kV_law dc_law pm_law an_law cd_law ct_law), sl_law⟩) (c_law : PySem.W.codeIn K cd_law "law" = true) (k_law : PySem.W.keepIn K (.ref f_law) = true)
    {C_heap : Addr} (a_heap : PySem.W.nsIn K mainGlobals "Heap" = some (some (.ref C_heap)))
    (pg_heap : PySem.W.plainGet K C_heap Str.empty = true) (hd_heap : PySem.W.hasDictIn K C_heap = true) (po_heap : PySem.W.plainOver K C_heap = true) (sa_heap : PySem.W.findIn K (.ref C_heap) "__setattr__" = some (some (.builtin "object.__setattr__"))) (mk_heap : PySem.W.makesIn K C_heap = true) (kc_heap : PySem.W.keepIn K (.ref C_heap) = true)
    (n_heap_held : PySem.W.findIn K (.ref C_heap) "held" = some none)
    {f_init : Addr} {od_init an_init : Option Addr} {sl_init : Array (Option Value)} {oc_init kV_init dc_init pm_init cd_init ct_init : Value}
    {T_init : Addr} {odT_init : Option Addr} {slT_init : Array (Option Value)} {nT_init : Nat} {ocT_init : Value}
    (a_init : PySem.W.findIn K (.ref C_heap) "__init__" = some (some (.ref f_init))) (i_init : PySem.W.isFn K (.ref f_init) = true) (l_init : K.lookup f_init = some ⟨oc_init, od_init, .func (PySem.W.fnOf "__init__" "Heap.__init__" (defArgs (inClass (topS 10) 0)) (defBody (inClass (topS 10) 0)) (defScope (inClass (topS 10) 0)) (.ref T_init) kV_init dc_init pm_init an_init cd_init ct_init), sl_init⟩) (t_init : K.lookup T_init = some ⟨ocT_init, odT_init, .seq #[.none] nT_init, slT_init⟩) (c_init : PySem.W.codeIn K cd_init "Heap.__init__" = true) (k_init : PySem.W.keepIn K (.ref f_init) = true)
    {f_rows : Addr} {od_rows an_rows : Option Addr} {sl_rows : Array (Option Value)} {oc_rows kV_rows dc_rows pm_rows cd_rows ct_rows : Value}
    (a_rows : PySem.W.findIn K (.ref C_heap) "rows" = some (some (.ref f_rows))) (i_rows : PySem.W.isFn K (.ref f_rows) = true) (l_rows : K.lookup f_rows = some ⟨oc_rows, od_rows, .func (PySem.W.fnOf "rows" "Heap.rows" (defArgs (inClass (topS 10) 1)) (defBody (inClass (topS 10) 1)) (defScope (inClass (topS 10) 1)) .none kV_rows dc_rows pm_rows an_rows cd_rows ct_rows), sl_rows⟩) (c_rows : PySem.W.codeIn K cd_rows "Heap.rows" = true) (k_rows : PySem.W.keepIn K (.ref f_rows) = true)
    {f_hmany : Addr} {od_hmany an_hmany : Option Addr} {sl_hmany : Array (Option Value)} {oc_hmany kV_hmany dc_hmany pm_hmany cd_hmany ct_hmany : Value}
    {T_hmany : Addr} {odT_hmany : Option Addr} {slT_hmany : Array (Option Value)} {nT_hmany : Nat} {ocT_hmany : Value}
    (a_hmany : PySem.W.findIn K (.ref C_heap) "many" = some (some (.ref f_hmany))) (i_hmany : PySem.W.isFn K (.ref f_hmany) = true) (l_hmany : K.lookup f_hmany = some ⟨oc_hmany, od_hmany, .func (PySem.W.fnOf "many" "Heap.many" (defArgs (inClass (topS 10) 2)) (defBody (inClass (topS 10) 2)) (defScope (inClass (topS 10) 2)) (.ref T_hmany) kV_hmany dc_hmany pm_hmany an_hmany cd_hmany ct_hmany), sl_hmany⟩) (t_hmany : K.lookup T_hmany = some ⟨ocT_hmany, odT_hmany, .seq #[.none] nT_hmany, slT_hmany⟩) (c_hmany : PySem.W.codeIn K cd_hmany "Heap.many" = true) (k_hmany : PySem.W.keepIn K (.ref f_hmany) = true)
    {f_plus : Addr} {od_plus an_plus : Option Addr} {sl_plus : Array (Option Value)} {oc_plus kV_plus dc_plus pm_plus cd_plus ct_plus : Value}
    (a_plus : PySem.W.findIn K (.ref C_heap) "plus" = some (some (.ref f_plus))) (i_plus : PySem.W.isFn K (.ref f_plus) = true) (l_plus : K.lookup f_plus = some ⟨oc_plus, od_plus, .func (PySem.W.fnOf "plus" "Heap.plus" (defArgs (inClass (topS 10) 4)) (defBody (inClass (topS 10) 4)) (defScope (inClass (topS 10) 4)) .none kV_plus dc_plus pm_plus an_plus cd_plus ct_plus), sl_plus⟩) (c_plus : PySem.W.codeIn K cd_plus "Heap.plus" = true) (k_plus : PySem.W.keepIn K (.ref f_plus) = true)
    {f_holds : Addr} {od_holds an_holds : Option Addr} {sl_holds : Array (Option Value)} {oc_holds kV_holds dc_holds pm_holds cd_holds ct_holds : Value}
    (a_holds : PySem.W.findIn K (.ref C_heap) "holds" = some (some (.ref f_holds))) (i_holds : PySem.W.isFn K (.ref f_holds) = true) (l_holds : K.lookup f_holds = some ⟨oc_holds, od_holds, .func (PySem.W.fnOf "holds" "Heap.holds" (defArgs (inClass (topS 10) 6)) (defBody (inClass (topS 10) 6)) (defScope (inClass (topS 10) 6)) .none kV_holds dc_holds pm_holds an_holds cd_holds ct_holds), sl_holds⟩) (c_holds : PySem.W.codeIn K cd_holds "Heap.holds" = true) (k_holds : PySem.W.keepIn K (.ref f_holds) = true)
    {f_less : Addr} {od_less an_less : Option Addr} {sl_less : Array (Option Value)} {oc_less kV_less dc_less pm_less cd_less ct_less : Value}
    (a_less : PySem.W.findIn K (.ref C_heap) "less" = some (some (.ref f_less))) (i_less : PySem.W.isFn K (.ref f_less) = true) (l_less : K.lookup f_less = some ⟨oc_less, od_less, .func (PySem.W.fnOf "less" "Heap.less" (defArgs (inClass (topS 10) 5)) (defBody (inClass (topS 10) 5)) (defScope (inClass (topS 10) 5)) .none kV_less dc_less pm_less an_less cd_less ct_less), sl_less⟩) (c_less : PySem.W.codeIn K cd_less "Heap.less" = true) (k_less : PySem.W.keepIn K (.ref f_less) = true)
    (z_isinstance : PySem.W.nsIn K mainGlobals "isinstance" = some none)
    (z_int : PySem.W.nsIn K mainGlobals "int" = some none)
    (z_bool : PySem.W.nsIn K mainGlobals "bool" = some none)
    (z_str : PySem.W.nsIn K mainGlobals "str" = some none)
    (z_tuple : PySem.W.nsIn K mainGlobals "tuple" = some none)
    (z_list : PySem.W.nsIn K mainGlobals "list" = some none)
    (z_len : PySem.W.nsIn K mainGlobals "len" = some none)
    (z_range : PySem.W.nsIn K mainGlobals "range" = some none)
    (z_repr : PySem.W.nsIn K mainGlobals "repr" = some none)
    (z_all : PySem.W.nsIn K mainGlobals "all" = some none)
    (z_ord : PySem.W.nsIn K mainGlobals "ord" = some none)
    (z_sorted : PySem.W.nsIn K mainGlobals "sorted" = some none)
    (z_set : PySem.W.nsIn K mainGlobals "set" = some none)
    (z_sum : PySem.W.nsIn K mainGlobals "sum" = some none)
    (z_min : PySem.W.nsIn K mainGlobals "min" = some none)
    (z_zip : PySem.W.nsIn K mainGlobals "zip" = some none)
    (z_max : PySem.W.nsIn K mainGlobals "max" = some none)
    (z_enumerate : PySem.W.nsIn K mainGlobals "enumerate" = some none)
    (z_dict : PySem.W.nsIn K mainGlobals "dict" = some none)
    (z_super : PySem.W.nsIn K mainGlobals "super" = some none)
    {C_np : Addr} (a_np : PySem.W.nsIn K mainGlobals "NoParts" = some (some (.ref C_np)))
    {nm_np q_np : Str} {N_np : Addr} {bs_np bm_np : List Value} {sn_np : List Str} {sub_np : List Value} {ab_np : Bool} {col_np : Option Bool} {dd_np : Option Addr} {m0_np m1_np m2_np m3_np m5_np : Option Value}
    (x_np : K.lookup C_np = some (excClassObj nm_np q_np C_np N_np bs_np bm_np true sn_np sub_np ab_np col_np dd_np m0_np m1_np m2_np m3_np m5_np "ValueError.__new__")) (rv_np : PySem.HandSPX.refsVE bm_np = true)
    (sa_np : PySem.W.findIn K (.ref C_np) "__setattr__" = some (some (.builtin "object.__setattr__"))) (ex_np : PySem.W.subIn K (.ref C_np) (.type "BaseException") = some true) (ty_np : PySem.W.typeIn K (.ref C_np) = some (.type "type")) (kc_np : PySem.W.keepIn K (.ref C_np) = true)
    {cd_np : ClassData} (cl_np : PySem.W.clsIn K C_np = some cd_np) (ms_np : PySem.W.mroIn K C_np (.ref C_np) = some true) (mv_np : PySem.W.mroIn K C_np (.type "ValueError") = some true) (up_np : PySem.W.ks_superIn K C_np C_np "__init__" = some (some (.builtin "ValueError.__init__"))) (th_np : PySem.W.nsIn K cStatics "thirdparty.any" = some none)
    (ga_np : PySem.W.findIn K (.ref C_np) "__getattribute__" = some (some (.builtin "BaseException.__getattribute__"))) (gg_np : PySem.W.findIn K (.ref C_np) "__getattr__" = some none) (hd_np : PySem.W.hasDictIn K C_np = true) (nf_np : PySem.W.findIn K (.ref C_np) "lacking" = some none)
    {f_np : Addr} (i_np : PySem.W.findIn K (.ref C_np) "__init__" = some (some (.ref f_np))) (t_np : PySem.W.typeIn K (.ref f_np) = some (.type "function"))
    {oc_np kV_np dc_np pm_np ct_np : Value} {od_np an_np : Option Addr} {sl_np : Array (Option Value)} {cda_np cc_np : Addr}
    (l_np : K.lookup f_np = some ⟨oc_np, od_np, .func (PySem.W.fnX "__init__" "NoParts.__init__" (defArgs (inClass (topS 5) 0)) (defBody (inClass (topS 5) 0)) (defScope (inClass (topS 5) 0)) [("__class__", cc_np)] .none kV_np dc_np pm_np an_np (.ref cda_np) ct_np), sl_np⟩) (c_np : PySem.W.codeIn K (.ref cda_np) "NoParts.__init__" = true)
    {ccl_np cl2_np : Value} {cdd_np cld_np : Option Addr} {vs_np : Array Value} {ccs_np csl_np : Array (Option Value)} {file_np : Str} {tf_np : Tok}
    (lc_np : K.lookup cda_np = some ⟨ccl_np, cdd_np, .fields vs_np, ccs_np⟩) (v2_np : vs_np[2]? = some (.str file_np tf_np)) (fi_np : ((l.prog.main.file : Str) == file_np) = true) (lk_np : K.lookup cc_np = some ⟨cl2_np, cld_np, .cell (some (.ref C_np)), csl_np⟩) (tp_np : (l.prog.main.scope.names.lookup ("super" : Str)).isSome = false)
    (ss_np : PySem.W.subIn K (.ref C_np) (.ref C_np) = some true)
    (ca_heap : PySem.W.findIn K (.ref C_heap) "__class__" = some (some (.builtin "object.__class__"))) (cg_heap : PySem.W.specialIn K (.builtin "object.__class__") "__get__" = some (some (.builtin "getset_descriptor.__get__"))) (ct_heap : PySem.W.takesIn K (.builtin "object.__class__") = some true) (cm_heap : PySem.W.mroIn K C_heap (.type "object") = some true)
    (ne_heap : PySem.W.findIn K (.ref C_heap) "__ne__" = some (some (.builtin "object.__ne__"))) (ob_heap : PySem.W.subIn K (.ref C_heap) (.type "object") = some true)
    {C_he : Addr} (a_he : PySem.W.nsIn K mainGlobals "HeapError" = some (some (.ref C_he))) (ex_he : PySem.W.subIn K (.ref C_he) (.type "BaseException") = some true) (ty_he : PySem.W.typeIn K (.ref C_he) = some (.type "type")) (hd_he : PySem.W.hasDictIn K C_he = true)
    (ss_he : PySem.W.subIn K (.ref C_np) (.ref C_he) = some true)
    {C_ke : Addr} (a_ke : PySem.W.nsIn K mainGlobals "KitError" = some (some (.ref C_ke))) (ex_ke : PySem.W.subIn K (.ref C_ke) (.type "BaseException") = some true) (ty_ke : PySem.W.typeIn K (.ref C_ke) = some (.type "type")) (hd_ke : PySem.W.hasDictIn K C_ke = true)
    (ss_ke : PySem.W.subIn K (.ref C_np) (.ref C_ke) = some true)
    {C_nt : Addr} (a_nt : PySem.W.nsIn K mainGlobals "NoThing" = some (some (.ref C_nt))) (ex_nt : PySem.W.subIn K (.ref C_nt) (.type "BaseException") = some true) (ty_nt : PySem.W.typeIn K (.ref C_nt) = some (.type "type")) (hd_nt : PySem.W.hasDictIn K C_nt = true)
    (ss_nt : PySem.W.subIn K (.ref C_np) (.ref C_nt) = some false) (ne_nt : (Value.ref C_np == Value.ref C_nt) = false)
    {C_pe : Addr} (a_pe : PySem.W.nsIn K mainGlobals "PaperError" = some (some (.ref C_pe))) (ex_pe : PySem.W.subIn K (.ref C_pe) (.type "BaseException") = some true) (ty_pe : PySem.W.typeIn K (.ref C_pe) = some (.type "type")) (hd_pe : PySem.W.hasDictIn K C_pe = true)
    (ss_pe : PySem.W.subIn K (.ref C_np) (.ref C_pe) = some false) (ne_pe : (Value.ref C_np == Value.ref C_pe) = false)
    (ca_np : PySem.W.findIn K (.ref C_np) "__class__" = some (some (.builtin "object.__class__"))) (cg_np : PySem.W.specialIn K (.builtin "object.__class__") "__get__" = some (some (.builtin "getset_descriptor.__get__"))) (ct2_np : PySem.W.takesIn K (.builtin "object.__class__") = some true) (cm_np : PySem.W.mroIn K C_np (.type "object") = some true)
    (ve_np : PySem.W.kitOne K (.ref C_np) (.type "ValueError") = some true) (z_VE : PySem.W.nsIn K mainGlobals "ValueError" = some none)
    : ∃ fd : FuncData, (∀ (s : Shared) (v : Value), BindsTo s fd ⟨[v], []⟩ [("_law_script", v)]) ∧ ∀ base : Heap, K.In base → base.Ns mainGlobals mg → FnG l.prog w K mg base CX0 6 fa fd ["_law_script"] (spLawK K) := by
  have e := hfa.symm.trans (PySem.W.mg_of X G a_law)
  cases e
  have F_feed := fun_mk (st := topS 12) l_feed c_feed k_feed
  have g_feed := PySem.W.mg_of X G a_feed
  have b_feed := F_feed.binds (ps := ["_law_script"]) fun _ _ _ _ _ _ us hl => match us, hl with | [_], _ => rfl
  have F_Draw := fun_mk (st := topS 13) l_Draw c_Draw k_Draw
  have g_Draw := PySem.W.mg_of X G a_Draw
  have b_Draw := F_Draw.binds (ps := ["_law_feed_here", "_law_many_here"]) fun _ _ _ _ _ _ us hl => match us, hl with | [_, _], _ => rfl
  have F_added := fun_mk (st := topS 8) l_added c_added k_added
  have g_added := PySem.W.mg_of X G a_added
  have b_added := F_added.binds (ps := ["rows"]) fun _ _ _ _ _ _ us hl => match us, hl with | [_], _ => rfl
  have F_above := fun_mk (st := topS 9) l_above c_above k_above
  have g_above := PySem.W.mg_of X G a_above
  have b_above := F_above.binds (ps := ["heap", "other"]) fun _ _ _ _ _ _ us hl => match us, hl with | [_, _], _ => rfl
  have F_LNames := fun_mk (st := topS 14) l_LNames c_LNames k_LNames
  have g_LNames := PySem.W.mg_of X G a_LNames
  have b_LNames := F_LNames.binds (ps := ["_law_feed_here", "_law_many_here"]) fun _ _ _ _ _ _ us hl => match us, hl with | [_, _], _ => rfl
  have F_LMany := fun_mk (st := topS 15) l_LMany c_LMany k_LMany
  have g_LMany := PySem.W.mg_of X G a_LMany
  have b_LMany := F_LMany.binds (ps := ["_law_feed_here"]) fun _ _ _ _ _ _ us hl => match us, hl with | [_], _ => rfl
  have F_LRows := fun_mk (st := topS 16) l_LRows c_LRows k_LRows
  have g_LRows := PySem.W.mg_of X G a_LRows
  have b_LRows := F_LRows.binds (ps := ["_law_feed_here", "_law_forms", "_law_shades", "_law_most_now"]) fun _ _ _ _ _ _ us hl => match us, hl with | [_, _, _, _], _ => rfl
  have F_Summed := fun_mk (st := topS 17) l_Summed c_Summed k_Summed
  have g_Summed := PySem.W.mg_of X G a_Summed
  have b_Summed := F_Summed.binds (ps := ["_law_rows_here"]) fun _ _ _ _ _ _ us hl => match us, hl with | [_], _ => rfl
  have F_Near := fun_mk (st := topS 18) l_Near c_Near k_Near
  have g_Near := PySem.W.mg_of X G a_Near
  have b_Near := F_Near.binds (ps := ["_law_feed_here", "_law_rows_here"]) fun _ _ _ _ _ _ us hl => match us, hl with | [_, _], _ => rfl
  have F_Over := fun_mk (st := topS 19) l_Over c_Over k_Over
  have g_Over := PySem.W.mg_of X G a_Over
  have b_Over := F_Over.binds (ps := ["_law_one", "_law_other"]) fun _ _ _ _ _ _ us hl => match us, hl with | [_, _], _ => rfl
  have F_Left := fun_mk (st := topS 20) l_Left c_Left k_Left
  have g_Left := PySem.W.mg_of X G a_Left
  have b_Left := F_Left.binds (ps := ["_law_one", "_law_other"]) fun _ _ _ _ _ _ us hl => match us, hl with | [_, _], _ => rfl
  have F_law := fun_mk (st := topS 21) l_law c_law k_law
  have g_law := PySem.W.mg_of X G a_law
  have g_heap := PySem.W.mg_of X G a_heap
  have cl_heap : Cls K C_heap := ⟨pg_heap, hd_heap, po_heap, sa_heap⟩
  have F_init : FunD K "__init__" "Heap.__init__" (defArgs (inClass (topS 10) 0)) (defBody (inClass (topS 10) 0)) (defScope (inClass (topS 10) 0)) [.non] [] f_init _ := fund_mk (its := [.none]) l_init c_init k_init t_init rfl (.cons rfl .nil) (by simp)
  have m_init : Meth K C_heap "__init__" f_init := ⟨a_init, i_init, k_init⟩
  have F_rows := fun_mk (st := inClass (topS 10) 1) l_rows c_rows k_rows
  have b_rows := F_rows.binds (ps := ["self"]) fun _ _ _ _ _ _ us hl => match us, hl with | [_], _ => rfl
  have m_rows : Meth K C_heap "rows" f_rows := ⟨a_rows, i_rows, k_rows⟩
  have F_hmany : FunD K "many" "Heap.many" (defArgs (inClass (topS 10) 2)) (defBody (inClass (topS 10) 2)) (defScope (inClass (topS 10) 2)) [.non] [] f_hmany _ := fund_mk (its := [.none]) l_hmany c_hmany k_hmany t_hmany rfl (.cons rfl .nil) (by simp)
  have m_hmany : Meth K C_heap "many" f_hmany := ⟨a_hmany, i_hmany, k_hmany⟩
  have F_plus := fun_mk (st := inClass (topS 10) 4) l_plus c_plus k_plus
  have b_plus := F_plus.binds (ps := ["self", "other"]) fun _ _ _ _ _ _ us hl => match us, hl with | [_, _], _ => rfl
  have m_plus : Meth K C_heap "plus" f_plus := ⟨a_plus, i_plus, k_plus⟩
  have F_holds := fun_mk (st := inClass (topS 10) 6) l_holds c_holds k_holds
  have b_holds := F_holds.binds (ps := ["self", "other"]) fun _ _ _ _ _ _ us hl => match us, hl with | [_, _], _ => rfl
  have m_holds : Meth K C_heap "holds" f_holds := ⟨a_holds, i_holds, k_holds⟩
  have F_less := fun_mk (st := inClass (topS 10) 5) l_less c_less k_less
  have b_less := F_less.binds (ps := ["self", "other"]) fun _ _ _ _ _ _ us hl => match us, hl with | [_, _], _ => rfl
  have m_less : Meth K C_heap "less" f_less := ⟨a_less, i_less, k_less⟩
  have m_isinstance := PySem.W.mg_none_of X G z_isinstance
  have m_int := PySem.W.mg_none_of X G z_int
  have m_bool := PySem.W.mg_none_of X G z_bool
  have m_str := PySem.W.mg_none_of X G z_str
  have m_tuple := PySem.W.mg_none_of X G z_tuple
  have m_list := PySem.W.mg_none_of X G z_list
  have m_len := PySem.W.mg_none_of X G z_len
  have m_range := PySem.W.mg_none_of X G z_range
  have m_repr := PySem.W.mg_none_of X G z_repr
  have m_all := PySem.W.mg_none_of X G z_all
  have m_ord := PySem.W.mg_none_of X G z_ord
  have m_sorted := PySem.W.mg_none_of X G z_sorted
  have m_set := PySem.W.mg_none_of X G z_set
  have m_sum := PySem.W.mg_none_of X G z_sum
  have m_min := PySem.W.mg_none_of X G z_min
  have m_zip := PySem.W.mg_none_of X G z_zip
  have m_max := PySem.W.mg_none_of X G z_max
  have m_enumerate := PySem.W.mg_none_of X G z_enumerate
  have m_dict := PySem.W.mg_none_of X G z_dict
  have m_super := PySem.W.mg_none_of X G z_super
  have g_np := PySem.W.mg_of X G a_np
  have E_np : OexC K C_np := ⟨⟨_, _, _, _, _, _, _, _, _, _, _, _, _, _, _, x_np, rv_np⟩, sa_np, ex_np, ty_np, kc_np⟩
  have U_np : SupC K mg C_np := ⟨E_np, ⟨_, cl_np⟩, ms_np, mv_np, up_np, th_np, m_super⟩
  have FS_np : FunS l.prog K "__init__" "NoParts.__init__" (inClass (topS 5) 0) C_np f_np _ := ⟨⟨_, _, _, _, _, _, _, _, _, _, _, _, _, _, _, _, _, _, _, rfl, l_np, c_np, lc_np, v2_np, fi_np, lk_np⟩, tp_np⟩
  have b_np : Binds K (PySem.W.fnX "__init__" "NoParts.__init__" (defArgs (inClass (topS 5) 0)) (defBody (inClass (topS 5) 0)) (defScope (inClass (topS 5) 0)) [("__class__", cc_np)] .none kV_np dc_np pm_np an_np (.ref cda_np) ct_np) ["self", "lacking"] [] := fun s us _ hl => match us, hl with | [_, _], _ => .of_eq rfl
  have xf_np : XfC K C_np := ⟨ga_np, gg_np, ex_np, hd_np⟩
  have Hi : HIs K C_heap := ⟨ca_heap, cg_heap, ct_heap, cm_heap⟩
  have g_he := PySem.W.mg_of X G a_he
  have g_ke := PySem.W.mg_of X G a_ke
  have g_nt := PySem.W.mg_of X G a_nt
  have g_pe := PySem.W.mg_of X G a_pe
  have xi_np : ExI K C_np := ⟨⟨ga_np, gg_np, ex_np, hd_np, ca_np, cg_np, ct2_np, cm_np⟩, by rw [cl_np]; rfl⟩
  have m_ValueError := PySem.W.mg_none_of X G z_VE
  refine ⟨PySem.W.fnOf "law" "law" (defArgs (topS 21)) (defBody (topS 21)) (defScope (topS 21)) .none kV_law dc_law pm_law an_law cd_law ct_law, fun s v => .of_eq rfl, fun base _ _ => ?_⟩
  have hB : NoB mg BL := by
    intro x hx
    simp only [BL, List.mem_cons, List.not_mem_nil, or_false] at hx
    rcases hx with rfl | rfl | rfl | rfl | rfl | rfl | rfl | rfl | rfl | rfl | rfl | rfl | rfl | rfl | rfl | rfl | rfl | rfl | rfl
    · exact m_isinstance
    · exact m_int
    · exact m_bool
    · exact m_str
    · exact m_tuple
    · exact m_list
    · exact m_len
    · exact m_range
    · exact m_repr
    · exact m_all
    · exact m_ord
    · exact m_sorted
    · exact m_set
    · exact m_sum
    · exact m_min
    · exact m_zip
    · exact m_max
    · exact m_enumerate
    · exact m_dict
  have Fe : Cal l.prog w K mg base 1 "_law_feed" f_feed _ ["_law_script"] (spFeedOf IsFeed K) := ⟨ok_feed F_feed m_list, g_feed, k_feed, b_feed⟩
  have CDraw : CalV (LP.heapSig l.prog w K C_heap C_np) mg base 1 "_law_draw" f_Draw _ ["_law_feed_here", "_law_many_here"] drawW := ⟨draw_by (ok_draw F_Draw m_len), g_Draw, k_Draw, b_Draw⟩
  have Ad : Cal l.prog w K mg base 1 "added_rows" f_added _ ["rows"] (spAdded K) := ⟨ok_added F_added m_tuple m_sorted, g_added, k_added, b_added⟩
  have Hc : HCls K mg C_heap := ⟨cl_heap, n_heap_held, g_heap⟩
  have Hm : HMk l.prog w K mg base 2 C_heap f_init _ := ⟨Hc, ⟨mk_heap, a_init, i_init, kc_heap⟩, ok_init F_init Hc Ad, b_init0 F_init, kb_init2 F_init, kb_initK F_init⟩
  have Hs : HSig (LP.heapSig l.prog w K C_heap C_np) C_heap := ⟨rfl, rfl⟩
  have Rw : MCal l.prog w K mg base 1 C_heap "rows" f_rows _ ["self"] (spRows K C_heap) := ⟨ok_rows F_rows Hc m_tuple, m_rows, b_rows⟩
  have MRw : MetV (LP.heapSig l.prog w K C_heap C_np) mg base 1 0 C_heap "rows" f_rows _ ["self"] rowsW := ⟨fn_wk Rw.ok (of_rows Hs), Hc.cl, m_rows, b_rows, rfl, by rw [Hs.fl]; decide +kernel⟩
  have okM := ok_manym (P := l.prog) (w := w) (base := base) (k := 0) F_hmany Hc m_sum
  have MM2 : MetN (LP.heapSig l.prog w K C_heap C_np) mg base 1 0 C_heap "many" f_hmany _ ["self", "form", "shade"] 2 (noneV 1) manyW := ⟨fn_wk okM (of_many Hs), Hc.cl, m_hmany, kb_m2 F_hmany, rfl, by rw [Hs.fl]; decide +kernel⟩
  have M3 : MMany l.prog w K mg base 1 C_heap f_hmany _ := ⟨okM, m_hmany, b_many3 F_hmany⟩
  have Ab2 : Cal l.prog w K mg base 2 "rows_above" f_above _ ["heap", "other"] (spAbove K C_heap) := ⟨ok_above F_above Hc Rw M3 m_tuple, g_above, k_above, b_above⟩
  have MPl : MetV (LP.heapSig l.prog w K C_heap C_np) mg base 4 0 C_heap "plus" f_plus _ ["self", "other"] plusW := ⟨fn_wk (ok_plus F_plus Hc Hm) (of_plus Hs), Hc.cl, m_plus, b_plus, rfl, by rw [Hs.fl]; decide +kernel⟩
  have MHo : MetV (LP.heapSig l.prog w K C_heap C_np) mg base 3 0 C_heap "holds" f_holds _ ["self", "other"] holdsW := ⟨fn_wk (ok_holds F_holds Ab2) (of_holds Hs), Hc.cl, m_holds, b_holds, rfl, by rw [Hs.fl]; decide +kernel⟩
  have Hz : ESig (LP.heapSig l.prog w K C_heap C_np) C_np := ⟨rfl, rfl⟩
  have Er := ok_NoParts (w := w) (mg := mg) (base := base) (k := 0) FS_np U_np nf_np
  have okL := ok_less (k := 0) F_less Ab2 Hm U_np i_np t_np Er b_np g_np
  have MLs : LessV (LP.heapSig l.prog w K C_heap C_np) mg base 4 C_heap C_np f_less _ := ⟨fn_wk okL (of_less Hs Hz), Hc.cl, m_less, b_less, Hs, Hz⟩
  have Ec : ErrV K mg C_np "NoParts" C_np := ⟨g_np, PySem.W.exm_ref ex_np hd_np ty_np ss_np, xf_np, nf_np⟩
  have MLn : LessN (LP.heapSig l.prog w K C_heap C_np) mg base 4 C_heap C_np f_less _ := ⟨fn_wk (ok_lessN (k := 0) F_less Ab2 Hm U_np i_np t_np Er b_np g_np) (of_less Hs Hz), Hc.cl, m_less, b_less, Hs, Hz⟩
  have MRh : RowsH (LP.heapSig l.prog w K C_heap C_np) mg base 1 C_heap f_rows _ := ⟨fnH_wk (ok_rowsH (k := 0) F_rows Hc m_tuple) (of_rows Hs), m_rows, b_rows⟩
  have Hi : HIs K C_heap := ⟨ca_heap, cg_heap, ct_heap, cm_heap⟩
  have Fm : FamL (LP.heapSig l.prog w K C_heap C_np) mg C_np "HeapError" "KitError" "NoThing" "PaperError" := ⟨xi_np, ⟨_, g_he, kit_ref hd_he ty_he ss_he (.inl rfl)⟩, ⟨_, g_ke, kit_ref hd_ke ty_ke ss_ke (.inl rfl)⟩, ve_np, ⟨_, _, g_nt, g_pe, kit_no (kit_ref hd_nt ty_nt ss_nt (.inr ne_nt)) (kit_no (kit_ref hd_pe ty_pe ss_pe (.inr ne_pe)) rfl)⟩⟩
  have CLNames : CalV (LP.heapSig l.prog w K C_heap C_np) mg base 2 "_law_names" f_LNames _ ["_law_feed_here", "_law_many_here"] fLNames := ⟨ok_LNames (Γ := (LP.heapSig l.prog w K C_heap C_np)) F_LNames hB CDraw, g_LNames, k_LNames, b_LNames⟩
  have CLMany : CalV (LP.heapSig l.prog w K C_heap C_np) mg base 2 "_law_many" f_LMany _ ["_law_feed_here"] fLMany := ⟨ok_LMany (Γ := (LP.heapSig l.prog w K C_heap C_np)) F_LMany hB CDraw, g_LMany, k_LMany, b_LMany⟩
  have CLRows : CalV (LP.heapSig l.prog w K C_heap C_np) mg base 3 "_law_rows" f_LRows _ ["_law_feed_here", "_law_forms", "_law_shades", "_law_most_now"] fLRows := ⟨ok_LRows (Γ := (LP.heapSig l.prog w K C_heap C_np)) F_LRows hB CDraw CLMany, g_LRows, k_LRows, b_LRows⟩
  have CSummed : CalV (LP.heapSig l.prog w K C_heap C_np) mg base 1 "_law_summed" f_Summed _ ["_law_rows_here"] fSummed := ⟨ok_Summed (Γ := (LP.heapSig l.prog w K C_heap C_np)) F_Summed hB, g_Summed, k_Summed, b_Summed⟩
  have CNear : CalV (LP.heapSig l.prog w K C_heap C_np) mg base 2 "_law_near" f_Near _ ["_law_feed_here", "_law_rows_here"] fNear := ⟨ok_Near (Γ := (LP.heapSig l.prog w K C_heap C_np)) F_Near hB CDraw CSummed, g_Near, k_Near, b_Near⟩
  have COver : CalV (LP.heapSig l.prog w K C_heap C_np) mg base 2 "_law_over" f_Over _ ["_law_one", "_law_other"] fOver := ⟨ok_Over (Γ := (LP.heapSig l.prog w K C_heap C_np)) F_Over hB CSummed, g_Over, k_Over, b_Over⟩
  have CLeft : CalV (LP.heapSig l.prog w K C_heap C_np) mg base 5 "_law_left" f_Left _ ["_law_one", "_law_other"] fLeft := ⟨ok_Left (Γ := (LP.heapSig l.prog w K C_heap C_np)) F_Left hB Hs Hc Hi MLn Ec Fm m_ValueError MRw MRh, g_Left, k_Left, b_Left⟩
  exact ok_law (Γ := (LP.heapSig l.prog w K C_heap C_np)) F_law hB Fe CDraw CLeft CLNames CNear COver CLRows CSummed Hs Hm MHo MPl MRw law_wp
end LP.K04

open PySem PySem.W PyProof.Rows
set_option maxHeartbeats 0 in
theorem PySem.Challenge.cw_partkits_k04_together_and_less_holds : PySem.Challenge.rw_partkits_k04_together_and_less.Holds := by
  w_on; o_law; k_head; (case hw => w_witness2)
  k_fill
  refine PK.walk_ofG (l := PySem.Challenge.rw_partkits_k04_together_and_less) (n := 63) (k := 6) (x := "_law_script") (sp := fun w => LP.spLawK _) rfl (by decide) rfl ⟨rfl, by decide, by decide⟩ (fun w h Y => PySem.W.kIn_of Y) ?F (fun _ _ a ns hl _ hS => ⟨a, ns, rfl, hS, fun _ => rfl⟩)
  case F =>
    intro w mg fa h KX G hmg
    refine' LP.K04.all_mk KX G hmg ?a_feed ?l_feed ?c_feed ?k_feed ?a_Draw ?l_Draw ?c_Draw ?k_Draw ?a_added ?l_added ?c_added ?k_added ?a_above ?l_above ?c_above ?k_above ?a_LNames ?l_LNames ?c_LNames ?k_LNames ?a_LMany ?l_LMany ?c_LMany ?k_LMany ?a_LRows ?l_LRows ?c_LRows ?k_LRows ?a_Summed ?l_Summed ?c_Summed ?k_Summed ?a_Near ?l_Near ?c_Near ?k_Near ?a_Over ?l_Over ?c_Over ?k_Over ?a_Left ?l_Left ?c_Left ?k_Left ?a_law ?l_law ?c_law ?k_law ?a_heap ?pg_heap ?hd_heap ?po_heap ?sa_heap ?mk_heap ?kc_heap ?n_heap_held ?a_init ?i_init ?l_init ?t_init ?c_init ?k_init ?a_rows ?i_rows ?l_rows ?c_rows ?k_rows ?a_hmany ?i_hmany ?l_hmany ?t_hmany ?c_hmany ?k_hmany ?a_plus ?i_plus ?l_plus ?c_plus ?k_plus ?a_holds ?i_holds ?l_holds ?c_holds ?k_holds ?a_less ?i_less ?l_less ?c_less ?k_less ?z_isinstance ?z_int ?z_bool ?z_str ?z_tuple ?z_list ?z_len ?z_range ?z_repr ?z_all ?z_ord ?z_sorted ?z_set ?z_sum ?z_min ?z_zip ?z_max ?z_enumerate ?z_dict ?z_super ?a_np ?x_np ?rv_np ?sa_np ?ex_np ?ty_np ?kc_np ?cl_np ?ms_np ?mv_np ?up_np ?th_np ?ga_np ?gg_np ?hd_np ?nf_np ?i_np ?t_np ?l_np ?c_np ?lc_np ?v2_np ?fi_np ?lk_np ?tp_np ?ss_np ?ca_heap ?cg_heap ?ct_heap ?cm_heap ?ne_heap ?ob_heap ?a_he ?ex_he ?ty_he ?hd_he ?ss_he ?a_ke ?ex_ke ?ty_ke ?hd_ke ?ss_ke ?a_nt ?ex_nt ?ty_nt ?hd_nt ?ss_nt ?ne_nt ?a_pe ?ex_pe ?ty_pe ?hd_pe ?ss_pe ?ne_pe ?ca_np ?cg_np ?ct2_np ?cm_np ?ve_np ?z_VE
    (case a_feed => k_is)
    (case l_feed => k_is)
    (case c_feed => k_is)
    (case k_feed => k_is)
    (case a_Draw => k_is)
    (case l_Draw => k_is)
    (case c_Draw => k_is)
    (case k_Draw => k_is)
    (case a_added => k_is)
    (case l_added => k_is)
    (case c_added => k_is)
    (case k_added => k_is)
    (case a_above => k_is)
    (case l_above => k_is)
    (case c_above => k_is)
    (case k_above => k_is)
    (case a_LNames => k_is)
    (case l_LNames => k_is)
    (case c_LNames => k_is)
    (case k_LNames => k_is)
    (case a_LMany => k_is)
    (case l_LMany => k_is)
    (case c_LMany => k_is)
    (case k_LMany => k_is)
    (case a_LRows => k_is)
    (case l_LRows => k_is)
    (case c_LRows => k_is)
    (case k_LRows => k_is)
    (case a_Summed => k_is)
    (case l_Summed => k_is)
    (case c_Summed => k_is)
    (case k_Summed => k_is)
    (case a_Near => k_is)
    (case l_Near => k_is)
    (case c_Near => k_is)
    (case k_Near => k_is)
    (case a_Over => k_is)
    (case l_Over => k_is)
    (case c_Over => k_is)
    (case k_Over => k_is)
    (case a_Left => k_is)
    (case l_Left => k_is)
    (case c_Left => k_is)
    (case k_Left => k_is)
    (case a_law => k_is)
    (case l_law => k_is)
    (case c_law => k_is)
    (case k_law => k_is)
    (case a_heap => k_is)
    (case pg_heap => k_is)
    (case hd_heap => k_is)
    (case po_heap => k_is)
    (case sa_heap => k_is)
    (case mk_heap => k_is)
    (case kc_heap => k_is)
    (case n_heap_held => k_is)
    (case a_init => k_is)
    (case i_init => k_is)
    (case l_init => k_is)
    (case t_init => k_is)
    (case c_init => k_is)
    (case k_init => k_is)
    (case a_rows => k_is)
    (case i_rows => k_is)
    (case l_rows => k_is)
    (case c_rows => k_is)
    (case k_rows => k_is)
    (case a_hmany => k_is)
    (case i_hmany => k_is)
    (case l_hmany => k_is)
    (case t_hmany => k_is)
    (case c_hmany => k_is)
    (case k_hmany => k_is)
    (case a_plus => k_is)
    (case i_plus => k_is)
    (case l_plus => k_is)
    (case c_plus => k_is)
    (case k_plus => k_is)
    (case a_holds => k_is)
    (case i_holds => k_is)
    (case l_holds => k_is)
    (case c_holds => k_is)
    (case k_holds => k_is)
    (case a_less => k_is)
    (case i_less => k_is)
    (case l_less => k_is)
    (case c_less => k_is)
    (case k_less => k_is)
    (case z_isinstance => k_is)
    (case z_int => k_is)
    (case z_bool => k_is)
    (case z_str => k_is)
    (case z_tuple => k_is)
    (case z_list => k_is)
    (case z_len => k_is)
    (case z_range => k_is)
    (case z_repr => k_is)
    (case z_all => k_is)
    (case z_ord => k_is)
    (case z_sorted => k_is)
    (case z_set => k_is)
    (case z_sum => k_is)
    (case z_min => k_is)
    (case z_zip => k_is)
    (case z_max => k_is)
    (case z_enumerate => k_is)
    (case z_dict => k_is)
    (case z_super => k_is)
    (case a_np => k_is)
    (case x_np => k_is)
    (case rv_np => decide +kernel)
    (case sa_np => k_is)
    (case ex_np => k_is)
    (case ty_np => k_is)
    (case kc_np => k_is)
    (case cl_np => k_is)
    (case ms_np => k_is)
    (case mv_np => k_is)
    (case up_np => ks_is)
    (case th_np => k_is)
    (case ga_np => k_is)
    (case gg_np => k_is)
    (case hd_np => k_is)
    (case nf_np => k_is)
    (case i_np => k_is)
    (case t_np => k_is)
    (case l_np => k_is)
    (case c_np => k_is)
    (case lc_np => k_is)
    (case v2_np => first | rfl | k_is)
    (case fi_np => decide +kernel)
    (case lk_np => k_is)
    (case tp_np => decide +kernel)
    (case ss_np => first | rfl | k_is)
    (case ca_heap => k_is)
    (case cg_heap => k_is)
    (case ct_heap => k_is)
    (case cm_heap => k_is)
    (case ne_heap => k_is)
    (case ob_heap => k_is)
    (case a_he => k_is)
    (case ex_he => k_is)
    (case ty_he => k_is)
    (case hd_he => k_is)
    (case ss_he => first | rfl | k_is)
    (case a_ke => k_is)
    (case ex_ke => k_is)
    (case ty_ke => k_is)
    (case hd_ke => k_is)
    (case ss_ke => first | rfl | k_is)
    (case a_nt => k_is)
    (case ex_nt => k_is)
    (case ty_nt => k_is)
    (case hd_nt => k_is)
    (case ss_nt => first | rfl | k_is)
    (case ne_nt => first | rfl | decide +kernel | k_is)
    (case a_pe => k_is)
    (case ex_pe => k_is)
    (case ty_pe => k_is)
    (case hd_pe => k_is)
    (case ss_pe => first | rfl | k_is)
    (case ne_pe => first | rfl | decide +kernel | k_is)
    (case ca_np => k_is)
    (case cg_np => k_is)
    (case ct2_np => k_is)
    (case cm_np => k_is)
    (case ve_np => first | rfl | k_is)
    (case z_VE => first | rfl | k_is)
