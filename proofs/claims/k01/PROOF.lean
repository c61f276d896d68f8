import PyProof.Rows.All
import Wide.All
import OpenK.AllK
import Wide.FinOn
import HandS.ForMost
import HandS.IsInst
import PyProof.ReprRoads
import HandS.TupAny
import HandS.Deep
import HandS.Zip
import HandS.RaiseMore
import HandS.Style
import HandS.Text
import HandS.Codes
import PyProof.Rows.IntBool
import HandS.Dict
import HandS.Small
import HandS.Iter
import KE.SortData
import HandS.Conv
import KE.KIntText
import PyProof.Ascii
import PyProof.Rows.StrJoinMade
import PyProof.Rows.StrDigitsNeg
import PyProof.Rows.StrFit
import PySem.Challenge.RW_lotback_k01_kinds_told
set_option Elab.async false
set_option linter.all false
set_option maxRecDepth 100000
set_option maxHeartbeats 2000000
/-! Own layer, part A: promises of defs that are asked for where no guard of a written form is on the way (so repr is exact). -/
namespace Lo
open PySem PySem.Spec PyProof.Rows L2

/-- a def's promise, for callers with no guard on the way -/
structure FnG (P : Program) (w : World) (K : PySem.W.Frag) (mg : Str → Option Value) (base : Heap) (k : Nat) (f : Addr) (fd : FuncData)
    (ps : List Str) (sp : Sp) : Prop where
  len : ∀ vs H Q E, sp vs H Q E → vs.length = ps.length
  run : ∀ (A : Around) (outer : List Env) (s : Shared) (H : Hp) (args : Args) (us : List Value) (vs : List V) (Q : VK),
    Room k A → A.guards = some [] → Env0 P w K mg base A outer s H → BindsTo s fd args (ps.zip us) → Vals vs us → sp vs H Q E0 →
    codeAny (model P w) A (.call (.ref f) args) (CR CX0 outer P w H s Q E0) s

variable {P : Program} {w : World} {K : PySem.W.Frag} {mg : Str → Option Value} {base : Heap}

theorem FnG.up {j k : Nat} {f : Addr} {fd : FuncData} {ps : List Str} {sp : Sp} (F : FnG P w K mg base j f fd ps sp) (h : j ≤ k) :
    FnG P w K mg base k f fd ps sp :=
  ⟨F.len, fun A outer s H args us vs Q hr => F.run A outer s H args us vs Q (Room.mono hr h)⟩

theorem FnG.of_fn {k : Nat} {f : Addr} {fd : FuncData} {ps : List Str} {sp : Sp} (F : FnOk P w K mg base CX0 k f fd ps sp) :
    FnG P w K mg base k f fd ps sp :=
  ⟨F.len, fun A outer s H args us vs Q hr _ e0 hb r h => F.run A outer s H args us vs Q E0 hr e0 hb r h⟩

/-- the def at f by its body, where the body's reading may lean on the guards being none -/
theorem FnG.body {k : Nat} {f : Addr} {name qual : Str} {params : Arguments} {body : List Stmt} {scope : Scope} {dV kV doc pm cdv ct oc : Value}
    {an od : Option Addr} {osl : Array (Option Value)} {N ps : List Str} {sp : Sp}
    (lk : K.lookup f = some ⟨oc, od, .func (PySem.W.fnOf name qual params body scope dV kV doc pm an cdv ct), osl⟩)
    (hcd : PySem.W.codeIn K cdv qual = true) (S : FnScope N ps scope) (len : ∀ vs H Q E, sp vs H Q E → vs.length = ps.length)
    (hbody : ∀ (A : Around) (outer : List Env) (s : Shared) (H : Hp) (vs : List V) (Q : VK),
      Room k (A.deeper (envOfC qual scope s.heap.objs.size f cdv)) → A.guards = some [] → sp vs H Q E0 →
      ∃ t, PSs (cxOf CX0 P w K mg base N qual scope f cdv A outer s H E0).nox body t ∧ t { nx := fun _ H' => Q .non H', rt := Q } (start N vs) H) :
    FnG P w K mg base (k + 1) f (PySem.W.fnOf name qual params body scope dV kV doc pm an cdv ct) ps sp := by
  constructor
  · exact len
  intro A outer s H args us vs Q hr hG e0 hb r hsp
  have hlen := len _ _ _ _ hsp
  have keepB : ∀ b o, base.get? b = some o → s.heap.get? b = some o := fun b o e => (e0.bs b o e).1
  have KX : K.In s.heap := e0.mod.kin.keeps keepB
  have lim : s.heap.NoLimit := e0.mod.nolimit.keeps keepB
  have kinds : ∀ y ∈ ps.zip us, scope.names.lookup y.1 = some .local ∨
      (scope.names.lookup y.1 = some .cell ∧ ((cellsFrom (s.heap.objs.size + 1) scope.names []).lookup y.1).isSome = true) := by
    intro y hy
    have hp : y.1 ∈ ps := (List.of_mem_zip (a := y.1) (b := y.2) hy).1
    cases S.par y.1 hp with
    | inl q => exact Or.inl q
    | inr q => exact Or.inr ⟨q, PySem.W.cellsFrom_some _ _ _ (Or.inl q)⟩
  refine codeAny_call_function hr.depth (KX _ _ lk) rfl S.co S.gen rfl (PySem.W.codeRec_of KX hcd) ?_
  refine hb _ _ _ _ ?_
  refine wpAny_newFunctionEnv_cells S.kind kinds ?_
  intro env he s1 x
  subst he
  constructor
  · exact lim.keeps x.toInCall.keep
  refine codeAny_func ?_
  obtain ⟨t, ht, hq⟩ := hbody A outer s H vs Q (hr.deeper _) hG hsp
  have I := inv_start (CX := CX0) (P := P) (mg := mg) (base := base) (E := E0) S hr.hd e0 hlen r x
  have leave : ∀ {σ' : L2.St} {H' : Hp} {v : V} {u : Value} {s' : Shared},
      Inv (cxOf CX0 P w K mg base N qual scope f cdv A outer s H E0) [] σ' H' s' → RelV v u → Q v H' → CE outer P w H s Q u s' :=
    fun {σ' H' v u s'} J rv q => ⟨v, H', J.os, J.bare, J.base, J.hok, rv, q⟩
  refine wpAny_mono (ht.nox.run [] s1 (start N vs) H _ I hq) ?_ (fun e s' hs => hs)
  intro fl s' hs
  cases fl with
  | ret u => obtain ⟨v, σ', H', J, rv, q⟩ := hs; exact leave J rv q
  | next => obtain ⟨σ', H', J, q⟩ := hs; exact leave (v := V.non) (u := Value.none) J rfl q
  | brk => obtain ⟨_, _, _, q⟩ := hs; exact q.elim
  | cont => obtain ⟨_, _, _, q⟩ := hs; exact q.elim

theorem FnG.ok {x qual : Str} {st : Stmt} {f : Addr} {fd : FuncData} {N ps : List Str} {k : Nat} {sp : Sp} (F : Fun K x qual st f fd)
    (S : FnScope N ps (defScope st)) (len : ∀ vs H Q E, sp vs H Q E → vs.length = ps.length)
    (hbody : ∀ (cdv : Value) (A : Around) (outer : List Env) (s : Shared) (H : Hp) (vs : List V) (Q : VK),
      Room k (A.deeper (envOfC qual (defScope st) s.heap.objs.size f cdv)) → A.guards = some [] → sp vs H Q E0 →
      ∃ t, PSs (cxOf CX0 P w K mg base N qual (defScope st) f cdv A outer s H E0).nox (defBody st) t ∧
        t { nx := fun _ H' => Q .non H', rt := Q } (start N vs) H) :
    FnG P w K mg base (k + 1) f fd ps sp := by
  obtain ⟨oc, od, kV, doc, pm, an, cdv, ct, osl, e, lk, hcd⟩ := F.ex
  subst e
  exact FnG.body lk hcd S len (fun A outer s H vs Q => hbody cdv A outer s H vs Q)

section
variable {X : Cx} {k : Nat} {f : Addr} {fd : FuncData} {ps ks : List Str} {sp : Sp} {x : Str} {p pos : Pos} {e : Expr} {es : List Expr}
  {kws : List Keyword} {t tk : TA}
theorem runG {pins : List (Addr × Obj)} {σ : L2.St} {H : Hp} {s : Shared} {Q : VK} {us : List Value} {vs : List V}
    (F : FnG X.prog X.w X.K X.mg X.base k f fd ps sp) (hr : Room k X.A) (hG : X.A.guards = some []) (hb : Binds X.K fd ps [])
    (I : Inv X pins σ H s) (r : Vals vs us) (h : sp vs H Q E0) : wpAny (model X.prog X.w) X.A (call (.ref f) us) (EP X pins σ Q) X.xe s := by
  have hl : us.length = ps.length := r.length.symm.trans (F.len _ _ _ _ h)
  have bd : BindsTo s fd ⟨us, []⟩ (ps.zip us) := by
    have q := hb s us I.kIn (by rw [List.append_nil]; exact hl)
    rw [List.append_nil] at q
    exact q
  refine wpAny_call (codeAny_mono (F.run X.A X.stack s H ⟨us, []⟩ us vs Q hr hG I.env0 bd r h) ?_)
  intro o s' hq
  match o, hq with
  | .error _, hq => exact hq.elim
  | .ok (.ret u), hq => exact I.after hq
  | .ok .next, hq => exact False.elim hq
  | .ok .brk, hq => exact False.elim hq
  | .ok .cont, hq => exact False.elim hq
theorem callG (F : FnG X.prog X.w X.K X.mg X.base k f fd ps sp) (hr : Room k X.A) (hG : X.A.guards = some []) (hg : Gl X x)
    (hm : X.mg x = some (.ref f)) (hk : PySem.W.keepIn X.K (.ref f) = true) (hb : Binds X.K fd ps []) (ha : PA X (e :: es) t)
    (hdb : (x == ("__debug__" : Str)) = false := by decide)
    (he : starEach (e :: es) X.env = (false, eval e X.env) :: starEach es X.env := by rfl)
    (hpl : (backTo pos (starEach es X.env)).any (·.1) = false := by rfl) :
    PE X (.Call (.Name x p) (e :: es) [] pos) (fun σ H Q => t σ H fun vs H1 => sp vs H1 Q E0) := by
  constructor
  intro pins s σ H Q I h
  refine wpAny_Call_Name_kw (ld_glob I hg hm ?_ hdb)
  refine PySem.W.callWith_K (h₀ := X.base) I.ok.mod.kin hk ?_ he hpl
  refine thn (ha.run pos pins s σ H _ I h) ?_
  rintro us s1 ⟨vs, H1, I1, r, q⟩
  exact ⟨I1.kIn, runG F hr hG hb I1 r q⟩
theorem callG0 (F : FnG X.prog X.w X.K X.mg X.base k f fd ps sp) (hr : Room k X.A) (hG : X.A.guards = some []) (hg : Gl X x)
    (hm : X.mg x = some (.ref f)) (hk : PySem.W.keepIn X.K (.ref f) = true) (hb : Binds X.K fd ps [])
    (hdb : (x == ("__debug__" : Str)) = false := by decide) : PE X (.Call (.Name x p) [] [] pos) (fun σ H Q => sp [] H Q E0) := by
  constructor
  intro pins s σ H Q I h
  exact wpAny_Call_Name_kw (ld_glob I hg hm (PySem.W.callWith_K0 I.kIn hk (runG (us := []) F hr hG hb I .nil h)) hdb)
end
end Lo

/-! Own layer, part B: values as data; what may change stands in a store; judgements over data. -/
namespace Lo
open PySem PySem.Spec PyProof.Rows L2

def keyD : Key → PyData
  | .inl i => .int i
  | .inr x => .str x

def kd (p : Key × PyData) : PyData × PyData := (keyD p.1, p.2)
mutual
/-- v stands for the data d, by objects of F that never change -/
inductive DAt (K : PySem.W.Frag) (F : Hp) : V → PyData → Prop
  | non : DAt K F .non .none
  | bl (b : Bool) : DAt K F (.bl b) (.bool b)
  | int (i : Int) : DAt K F (.int i) (.int i)
  | str (x : Str) : DAt K F (.str x) (.str x)
  | lst {a : Addr} {xs : List V} {ds : List PyData} : F a = some (.lst xs) → DAll K F xs ds → DAt K F (.ref a) (.list ds)
  | tup {a : Addr} {xs : List V} {ds : List PyData} : SqT K F a xs → DAll K F xs ds → DAt K F (.ref a) (.tuple ds)
  | dct {a : Addr} {xs : List (Key × V)} {ds : List (Key × PyData)} : F a = some (.dK xs) → DKv K F xs ds → DAt K F (.ref a) (.dict (ds.map kd))
  /-- a list that was there from the first (the script): kept apart from all others -/
  | scr {a : Addr} {ns : List Int} : SqL K F a (ns.map V.int) → DAt K F (.ref a) (.dict [(.list (ns.map PyData.int), .none)])
  /-- a def of the module -/
  | fnc {f : Addr} {nm : Str} : PySem.W.nsIn K mainGlobals nm = some (some (.ref f)) → DAt K F (.ref f) (.dict [(.tuple [.str nm], .none)])
inductive DAll (K : PySem.W.Frag) (F : Hp) : List V → List PyData → Prop
  | nil : DAll K F [] []
  | cons {v : V} {vs : List V} {d : PyData} {ds : List PyData} : DAt K F v d → DAll K F vs ds → DAll K F (v :: vs) (d :: ds)
inductive DKv (K : PySem.W.Frag) (F : Hp) : List (Key × V) → List (Key × PyData) → Prop
  | nil : DKv K F [] []
  | cons {k : Key} {v : V} {vs : List (Key × V)} {d : PyData} {ds : List (Key × PyData)} : DAt K F v d → DKv K F vs ds → DKv K F ((k, v) :: vs) ((k, d) :: ds)
end

/-- what stood stands -/
abbrev Ext (F F' : Hp) : Prop := ∀ a o, F a = some o → F' a = some o
theorem Ext.refl (F : Hp) : Ext F F := fun _ _ h => h
theorem Ext.trans {F G H : Hp} (a : Ext F G) (b : Ext G H) : Ext F H := fun x o h => b x o (a x o h)
theorem Ext.new {F : Hp} {p : Addr} {o : HO} (h : F p = none) : Ext F (upd F p o) := fun a u e => by
  rw [upd_ne (ne_of_none e h)]; exact e
theorem Ext.rd {F G : Hp} (e : Ext F G) {a : Addr} {u : HO} (h : Rd F a u) : Rd G a u :=
  h.elim (fun q => .inl (e _ _ q)) fun ⟨o, q⟩ => .inr ⟨o, e _ _ q⟩
theorem Ext.l {K : PySem.W.Frag} {F G : Hp} (e : Ext F G) {a : Addr} {xs : List V} (h : SqL K F a xs) : SqL K G a xs := h.elim (fun q => .inl (e.rd q)) .inr
theorem Ext.t {K : PySem.W.Frag} {F G : Hp} (e : Ext F G) {a : Addr} {xs : List V} (h : SqT K F a xs) : SqT K G a xs := h.elim (fun q => .inl (e.rd q)) .inr
theorem Ext.back {F G : Hp} (e : Ext F G) {p : Addr} (h : G p = none) : F p = none := by
  cases q : F p with
  | none => rfl
  | some o => rw [e p o q] at h; cases h

section
variable {K : PySem.W.Frag} {F G : Hp}
mutual
theorem DAt.mono (e : Ext F G) : ∀ {v : V} {d : PyData}, DAt K F v d → DAt K G v d
  | _, _, .non => .non
  | _, _, .bl b => .bl b
  | _, _, .int i => .int i
  | _, _, .str x => .str x
  | _, _, .lst h t => .lst (e _ _ h) (DAll.mono e t)
  | _, _, .tup h t => .tup (e.t h) (DAll.mono e t)
  | _, _, .dct h t => .dct (e _ _ h) (DKv.mono e t)
  | _, _, .scr h => .scr (e.l h)
  | _, _, .fnc h => .fnc h
theorem DAll.mono (e : Ext F G) : ∀ {vs : List V} {ds : List PyData}, DAll K F vs ds → DAll K G vs ds
  | _, _, .nil => .nil
  | _, _, .cons h t => .cons (DAt.mono e h) (DAll.mono e t)
theorem DKv.mono (e : Ext F G) : ∀ {vs : List (Key × V)} {ds : List (Key × PyData)}, DKv K F vs ds → DKv K G vs ds
  | _, _, .nil => .nil
  | _, _, .cons h t => .cons (DAt.mono e h) (DKv.mono e t)
end
mutual
theorem DAt.dp : ∀ {v : V} {d : PyData}, DAt K F v d → d.canLay0 = true → Dp K F v d
  | _, _, .non, _ => .non
  | _, _, .bl b, _ => .bl b
  | _, _, .int i, _ => .int i
  | _, _, .str x, _ => .str x
  | _, _, .lst h t, z => .lst (SqL.of h) (DAll.dp t (by simpa [PyData.canLay0] using z))
  | _, _, .tup h t, z => .tup h (DAll.dp t (by simpa [PyData.canLay0] using z))
  | _, _, .dct h t, z => by simp [PyData.canLay0] at z
  | _, _, .scr h, z => by simp [PyData.canLay0] at z
  | _, _, .fnc h, z => by simp [PyData.canLay0] at z
theorem DAll.dp : ∀ {vs : List V} {ds : List PyData}, DAll K F vs ds → PyData.canLayAll0 ds = true → DpAll K F vs ds
  | _, _, .nil, _ => .nil
  | _, _, .cons h t, z => by
    have z' := z
    simp only [PyData.canLayAll0, Bool.and_eq_true] at z'
    exact .cons (DAt.dp h z'.1) (DAll.dp t z'.2)
end
theorem DAll.length : ∀ {vs : List V} {ds : List PyData}, DAll K F vs ds → vs.length = ds.length
  | _, _, .nil => rfl
  | _, _, .cons _ t => congrArg (· + 1) t.length
theorem DAll.get : ∀ {vs : List V} {ds : List PyData} {i : Nat} {d : PyData}, DAll K F vs ds → ds[i]? = some d → ∃ v, vs[i]? = some v ∧ DAt K F v d
  | _, _, i, _, .nil, e => by simp at e
  | _, _, 0, _, .cons h _, e => by simp at e; subst e; exact ⟨_, rfl, h⟩
  | _, _, i + 1, d, .cons _ t, e => by
    obtain ⟨v, q, z⟩ := t.get (i := i) (d := d) (by simpa using e)
    exact ⟨v, by simpa using q, z⟩
theorem DAll.append : ∀ {vs ws : List V} {ds es : List PyData}, DAll K F vs ds → DAll K F ws es → DAll K F (vs ++ ws) (ds ++ es)
  | _, _, _, _, .nil, s => s
  | _, _, _, _, .cons h t, s => .cons h (t.append s)
theorem DAll.take : ∀ {vs : List V} {ds : List PyData} (n : Nat), DAll K F vs ds → DAll K F (vs.take n) (ds.take n)
  | _, _, 0, _ => by simpa using DAll.nil
  | _, _, _ + 1, .nil => .nil
  | _, _, n + 1, .cons h t => .cons h (t.take n)
theorem DAll.drop : ∀ {vs : List V} {ds : List PyData} (n : Nat), DAll K F vs ds → DAll K F (vs.drop n) (ds.drop n)
  | _, _, 0, h => h
  | _, _, _ + 1, .nil => .nil
  | _, _, n + 1, .cons _ t => t.drop n
theorem DAll.rev {vs : List V} {ds : List PyData} (h : DAll K F vs ds) : DAll K F vs.reverse ds.reverse := by
  induction vs generalizing ds with
  | nil => cases h; exact .nil
  | cons v vs ih =>
    cases h with
    | cons a t => rw [List.reverse_cons, List.reverse_cons]; exact (ih t).append (.cons a .nil)
theorem DAll.ints : ∀ {vs : List V} {ns : List Int}, DAll K F vs (ns.map PyData.int) → vs = ns.map V.int
  | _, [], h => by cases h; rfl
  | _, n :: ns, h => by
    cases h with
    | cons a t => cases a; rw [t.ints]; rfl
theorem DAll.bools : ∀ {vs : List V} {bs : List Bool}, DAll K F vs (bs.map PyData.bool) → vs = bs.map V.bl
  | _, [], h => by cases h; rfl
  | _, n :: ns, h => by
    cases h with
    | cons a t => cases a; rw [t.bools]; rfl
theorem DAll.of_ints : ∀ ns : List Int, DAll K F (ns.map V.int) (ns.map PyData.int)
  | [] => .nil
  | n :: ns => .cons (.int n) (DAll.of_ints ns)
theorem DKv.length : ∀ {vs : List (Key × V)} {ds : List (Key × PyData)}, DKv K F vs ds → vs.length = ds.length
  | _, _, .nil => rfl
  | _, _, .cons _ t => congrArg (· + 1) t.length
end

/-- a value: data, or the place of an object that may change -/
inductive Res | dat (d : PyData) | loc (a : Addr)
/-- what stands at such a place -/
inductive Cell | lst (xs : List PyData) | dct (kvs : List (Key × PyData))
abbrev Sto := Addr → Option Cell
abbrev Vrs := List (Option Res)
abbrev PK := Res → Sto → Prop
abbrev DE := Vrs → Sto → PK → Prop
abbrev DT := Vrs → Sto → (Bool → Sto → Prop) → Prop
abbrev DA := Vrs → Sto → (List Res → Sto → Prop) → Prop
def put (S : Sto) (a : Addr) (c : Cell) : Sto := fun b => if b = a then some c else S b
def gone (S : Sto) (a : Addr) : Sto := fun b => if b = a then none else S b
theorem put_same {S : Sto} {a : Addr} {c : Cell} : put S a c a = some c := if_pos rfl
theorem put_ne {S : Sto} {a b : Addr} {c : Cell} (h : b ≠ a) : put S a c b = S b := if_neg h
theorem gone_same {S : Sto} {a : Addr} : gone S a a = none := if_pos rfl
theorem gone_ne {S : Sto} {a b : Addr} (h : b ≠ a) : gone S a b = S b := if_neg h

section
variable (K : PySem.W.Frag)
def RAt (F : Hp) (v : V) : Res → Prop
  | .dat d => DAt K F v d
  | .loc a => v = .ref a
inductive RAll (F : Hp) : List V → List Res → Prop
  | nil : RAll F [] []
  | cons {v : V} {vs : List V} {r : Res} {rs : List Res} : RAt K F v r → RAll F vs rs → RAll F (v :: vs) (r :: rs)
def CellOk (F H : Hp) (a : Addr) : Cell → Prop
  | .lst xs => ∃ vs, H a = some (.lst vs) ∧ DAll K F vs xs
  | .dct kvs => ∃ vs, H a = some (.dK vs) ∧ DKv K F vs kvs
/-- F: what never changes; S: what may change -/
structure Ok (F H : Hp) (S : Sto) : Prop where
  ext : Ext F H
  sto : ∀ a c, S a = some c → F a = none ∧ CellOk K F H a c
def SlotOk (F : Hp) : Option V → Option Res → Prop
  | some v, some r => RAt K F v r
  | none, some _ => False
  | _, none => True
inductive SlotsOk (F : Hp) : L2.St → Vrs → Prop
  | nil : SlotsOk F [] []
  | cons {o : Option V} {σ : L2.St} {r : Option Res} {ρ : Vrs} : SlotOk K F o r → SlotsOk F σ ρ → SlotsOk F (o :: σ) (r :: ρ)
end
section
variable {K : PySem.W.Frag} {F G H : Hp} {S : Sto}
theorem RAt.mono (e : Ext F G) {v : V} : ∀ {r : Res}, RAt K F v r → RAt K G v r
  | .dat _, h => DAt.mono e h
  | .loc _, h => h
theorem RAll.mono (e : Ext F G) : ∀ {vs : List V} {rs : List Res}, RAll K F vs rs → RAll K G vs rs
  | _, _, .nil => .nil
  | _, _, .cons h t => .cons (h.mono e) (t.mono e)
theorem RAll.length : ∀ {vs : List V} {rs : List Res}, RAll K F vs rs → vs.length = rs.length
  | _, _, .nil => rfl
  | _, _, .cons _ t => congrArg (· + 1) t.length
theorem SlotsOk.mono (e : Ext F G) : ∀ {σ : L2.St} {ρ : Vrs}, SlotsOk K F σ ρ → SlotsOk K G σ ρ
  | _, _, .nil => .nil
  | _, _, .cons (o := o) (r := r) h t => .cons (by
      cases r with
      | none => cases o <;> exact trivial
      | some r =>
        cases o with
        | none => exact h
        | some v => exact RAt.mono e h) (t.mono e)
theorem SlotsOk.length : ∀ {σ : L2.St} {ρ : Vrs}, SlotsOk K F σ ρ → σ.length = ρ.length
  | _, _, .nil => rfl
  | _, _, .cons _ t => congrArg (· + 1) t.length
theorem SlotsOk.get : ∀ {σ : L2.St} {ρ : Vrs} {i : Nat} {r : Res}, SlotsOk K F σ ρ → ρ[i]? = some (some r) → ∃ v, σ[i]? = some (some v) ∧ RAt K F v r
  | _, _, i, _, .nil, e => by simp at e
  | _, _, 0, _, .cons (o := o) h _, e => by
    simp at e; subst e
    cases o with
    | none => exact h.elim
    | some v => exact ⟨v, rfl, h⟩
  | _, _, i + 1, r, .cons _ t, e => by
    obtain ⟨v, q, z⟩ := t.get (i := i) (r := r) (by simpa using e)
    exact ⟨v, by simpa using q, z⟩
theorem SlotsOk.set : ∀ {σ : L2.St} {ρ : Vrs} (i : Nat) {v : V} {r : Res}, SlotsOk K F σ ρ → RAt K F v r → SlotsOk K F (σ.set i (some v)) (ρ.set i (some r))
  | _, _, _, _, _, .nil, _ => .nil
  | _, _, 0, _, _, .cons _ t, h => .cons h t
  | _, _, i + 1, _, _, .cons a t, h => .cons a (t.set i h)
theorem SlotsOk.unset : ∀ {σ : L2.St} {ρ : Vrs} (i : Nat), SlotsOk K F σ ρ → SlotsOk K F (σ.set i none) (ρ.set i none)
  | _, _, _, .nil => .nil
  | _, _, 0, .cons _ t => .cons trivial t
  | _, _, i + 1, .cons a t => .cons a (t.unset i)
/-- a fresh place -/
theorem Ok.free (h : Ok K F H S) {p : Addr} (hp : H p = none) : F p = none ∧ S p = none := by
  refine ⟨h.ext.back hp, ?_⟩
  cases e : S p with
  | none => rfl
  | some c =>
    obtain ⟨_, q⟩ := h.sto p c e
    cases c with
    | lst xs => obtain ⟨vs, q, _⟩ := q; rw [hp] at q; cases q
    | dct kvs => obtain ⟨vs, q, _⟩ := q; rw [hp] at q; cases q
theorem CellOk.mono {a : Addr} {c : Cell} {H' : Hp} (e : Ext F G) (hH : H' a = H a) (h : CellOk K F H a c) : CellOk K G H' a c := by
  cases c with
  | lst xs => obtain ⟨vs, q, z⟩ := h; exact ⟨vs, by rw [hH]; exact q, z.mono e⟩
  | dct kvs => obtain ⟨vs, q, z⟩ := h; exact ⟨vs, by rw [hH]; exact q, z.mono e⟩
/-- a new object that never changes -/
theorem Ok.newF (h : Ok K F H S) {p : Addr} (hp : H p = none) (o : HO) : Ok K (upd F p o) (upd H p o) S := by
  have f := h.free hp
  refine ⟨fun a u e => ?_, fun a c e => ?_⟩
  · by_cases q : a = p
    · subst q; rw [upd_same] at e ⊢; exact e
    · rw [upd_ne q] at e ⊢; exact h.ext a u e
  · have q : a ≠ p := fun z => by rw [z, f.2] at e; cases e
    obtain ⟨n, z⟩ := h.sto a c e
    exact ⟨by rw [upd_ne q]; exact n, z.mono (Ext.new f.1) (upd_ne q)⟩
/-- a new object that may change -/
theorem Ok.newS (h : Ok K F H S) {p : Addr} (hp : H p = none) {o : HO} {c : Cell} (hc : CellOk K F (upd H p o) p c) : Ok K F (upd H p o) (put S p c) := by
  have f := h.free hp
  refine ⟨fun a u e => ?_, fun a c' e => ?_⟩
  · rw [upd_ne (ne_of_none e f.1)]; exact h.ext a u e
  · by_cases q : a = p
    · subst q; rw [put_same] at e; cases e; exact ⟨f.1, hc⟩
    · rw [put_ne q] at e
      obtain ⟨n, z⟩ := h.sto a c' e
      exact ⟨n, z.mono (Ext.refl F) (upd_ne q)⟩
/-- such an object is written -/
theorem Ok.write (h : Ok K F H S) {p : Addr} {c0 c : Cell} (hp : S p = some c0) {o : HO} (hc : CellOk K F (upd H p o) p c) : Ok K F (upd H p o) (put S p c) := by
  have f := (h.sto p c0 hp).1
  refine ⟨fun a u e => ?_, fun a c' e => ?_⟩
  · rw [upd_ne (ne_of_none e f)]; exact h.ext a u e
  · by_cases q : a = p
    · subst q; rw [put_same] at e; cases e; exact ⟨f, hc⟩
    · rw [put_ne q] at e
      obtain ⟨n, z⟩ := h.sto a c' e
      exact ⟨n, z.mono (Ext.refl F) (upd_ne q)⟩
/-- it shall not change any more -/
theorem Ok.freeze (h : Ok K F H S) {p : Addr} {xs : List PyData} (hp : S p = some (.lst xs)) :
    ∃ F', Ext F F' ∧ Ok K F' H (gone S p) ∧ DAt K F' (.ref p) (.list xs) := by
  obtain ⟨f, vs, e, z⟩ := h.sto p _ hp
  have x : Ext F (upd F p (.lst vs)) := Ext.new f
  refine ⟨upd F p (.lst vs), x, ⟨fun a u q => ?_, fun a c q => ?_⟩, .lst upd_same (z.mono x)⟩
  · by_cases r : a = p
    · subst r; rw [upd_same] at q; rw [← q]; exact e
    · rw [upd_ne r] at q; exact h.ext a u q
  · by_cases r : a = p
    · subst r; rw [gone_same] at q; cases q
    · rw [gone_ne r] at q
      obtain ⟨n, y⟩ := h.sto a c q
      exact ⟨by rw [upd_ne r]; exact n, y.mono x rfl⟩
theorem Ok.freezeD (h : Ok K F H S) {p : Addr} {xs : List (Key × PyData)} (hp : S p = some (.dct xs)) :
    ∃ F', Ext F F' ∧ Ok K F' H (gone S p) ∧ DAt K F' (.ref p) (.dict (xs.map kd)) := by
  obtain ⟨f, vs, e, z⟩ := h.sto p _ hp
  have x : Ext F (upd F p (.dK vs)) := Ext.new f
  refine ⟨upd F p (.dK vs), x, ⟨fun a u q => ?_, fun a c q => ?_⟩, .dct upd_same (z.mono x)⟩
  · by_cases r : a = p
    · subst r; rw [upd_same] at q; rw [← q]; exact e
    · rw [upd_ne r] at q; exact h.ext a u q
  · by_cases r : a = p
    · subst r; rw [gone_same] at q; cases q
    · rw [gone_ne r] at q
      obtain ⟨n, y⟩ := h.sto a c q
      exact ⟨by rw [upd_ne r]; exact n, y.mono x rfl⟩
end
end Lo

/-! Own layer, part C: judgements over data, names, displays, operators, tests. -/
namespace Lo
open PySem PySem.Spec PyProof.Rows L2

theorem RAt.d {K : PySem.W.Frag} {F : Hp} {v : V} {d : PyData} (h : DAt K F v d) : RAt K F v (.dat d) := h
section
variable (X : Cx)
/-- the expression e does what de says -/
def SE (e : Expr) (te : TE) (de : DE) : Prop := PE X e te ∧ ∀ (σ : L2.St) (H F : Hp) (S : Sto) (ρ : Vrs) (P : PK) (Q : VK),
  Ok X.K F H S → SlotsOk X.K F σ ρ → de ρ S P →
  (∀ v r F' H' S', Ext F F' → Ok X.K F' H' S' → RAt X.K F' v r → P r S' → Q v H') → te σ H Q
def ST (e : Expr) (tt : TT) (dt : DT) : Prop := PT X e tt ∧ ∀ (σ : L2.St) (H F : Hp) (S : Sto) (ρ : Vrs) (P : Bool → Sto → Prop) (Q : Bool → Hp → Prop),
  Ok X.K F H S → SlotsOk X.K F σ ρ → dt ρ S P → (∀ b F' H' S', Ext F F' → Ok X.K F' H' S' → P b S' → Q b H') → tt σ H Q
def SW (e : Expr) (tt : TT) (dt : DT) : Prop := PW X e tt ∧ ∀ (σ : L2.St) (H F : Hp) (S : Sto) (ρ : Vrs) (P : Bool → Sto → Prop) (Q : Bool → Hp → Prop),
  Ok X.K F H S → SlotsOk X.K F σ ρ → dt ρ S P → (∀ b F' H' S', Ext F F' → Ok X.K F' H' S' → P b S' → Q b H') → tt σ H Q
def SA (es : List Expr) (ta : TA) (da : DA) : Prop := PA X es ta ∧ ∀ (σ : L2.St) (H F : Hp) (S : Sto) (ρ : Vrs) (P : List Res → Sto → Prop) (Q : List V → Hp → Prop),
  Ok X.K F H S → SlotsOk X.K F σ ρ → da ρ S P →
  (∀ vs rs F' H' S', Ext F F' → Ok X.K F' H' S' → RAll X.K F' vs rs → P rs S' → Q vs H') → ta σ H Q
/-- a two-place operation on values -/
abbrev DO2 := Res → Res → Sto → PK → Prop
def SO (f : Value → Value → Sem Value) (r : R2) (o : DO2) : Prop := OpR X f r ∧ ∀ (x y : V) (H F : Hp) (S : Sto) (rx ry : Res) (P : PK) (Q : VK),
  Ok X.K F H S → RAt X.K F x rx → RAt X.K F y ry → o rx ry S P →
  (∀ v r F' H' S', Ext F F' → Ok X.K F' H' S' → RAt X.K F' v r → P r S' → Q v H') → r x y H Q
abbrev DO1 := Res → Sto → PK → Prop
def SU (f : Value → Sem Value) (r : V → Hp → VK → Prop) (o : DO1) : Prop := UnR X f r ∧ ∀ (x : V) (H F : Hp) (S : Sto) (rx : Res) (P : PK) (Q : VK),
  Ok X.K F H S → RAt X.K F x rx → o rx S P →
  (∀ v r F' H' S', Ext F F' → Ok X.K F' H' S' → RAt X.K F' v r → P r S' → Q v H') → r x H Q
/-- a call of a built-in by values -/
abbrev DC := List Res → Sto → PK → Prop
def SC (f : Value) (r : List V → Hp → VK → Prop) (o : DC) : Prop := CallR X f r ∧ ∀ (xs : List V) (H F : Hp) (S : Sto) (rs : List Res) (P : PK) (Q : VK),
  Ok X.K F H S → RAll X.K F xs rs → o rs S P →
  (∀ v r F' H' S', Ext F F' → Ok X.K F' H' S' → RAt X.K F' v r → P r S' → Q v H') → r xs H Q
/-- a subscript by values -/
def SX (r : R2) (o : DO2) : Prop := IxR X r ∧ ∀ (x y : V) (H F : Hp) (S : Sto) (rx ry : Res) (P : PK) (Q : VK),
  Ok X.K F H S → RAt X.K F x rx → RAt X.K F y ry → o rx ry S P →
  (∀ v r F' H' S', Ext F F' → Ok X.K F' H' S' → RAt X.K F' v r → P r S' → Q v H') → r x y H Q
end

/-! ### names, constants -/
def dVar (i : Nat) : DE := fun ρ S P => match ρ[i]? with
  | some (some r) => P r S
  | _ => False
def dC (d : PyData) : DE := fun _ S P => P (.dat d) S
/-- an object that may change becomes data -/
def dFrz (de : DE) : DE := fun ρ S P => de ρ S fun r S1 => match r with
  | .dat d => P (.dat d) S1
  | .loc a => match S1 a with
    | some (.lst xs) => P (.dat (.list xs)) (gone S1 a)
    | some (.dct xs) => P (.dat (.dict (xs.map kd))) (gone S1 a)
    | none => False
section
variable {X : Cx} {e a b c : Expr} {es : List Expr} {te ta tb tc : TE} {tt uu : TT} {tas : TA} {r r' : R2} {ru : V → Hp → VK → Prop} {de da db dc : DE} {dt du : DT} {ds : DA} {pos : Pos}
theorem se_var (i : Nat) {x : Str} (hN : X.N[i]? = some x := by rfl) (hv : Vis X.env.scope x := by first | exact Or.inl rfl | exact Or.inr (Or.inl rfl) | exact Or.inr (Or.inr rfl))
    (hd : (x == ("__debug__" : Str)) = false := by decide) (hcd : (x == ("__classdict__" : Str)) = false := by decide) : SE X (.Name x pos) (tVar i) (dVar i) :=
  ⟨pe_var hN hv hd hcd, fun σ H F S ρ P Q o l h q => by
    unfold dVar at h
    split at h
    · rename_i r e
      obtain ⟨v, e2, z⟩ := l.get e
      exact ⟨v, e2, q v r F H S (Ext.refl F) o z h⟩
    · exact h.elim⟩
theorem se_int {i : Int} {j} : SE X (.Constant (.int i) j pos) (tC (.int i)) (dC (.int i)) := ⟨pe_int, fun _ H F S _ _ _ o _ h q => q _ _ F H S (Ext.refl F) o (RAt.d (.int i)) h⟩
theorem se_bl {i : Bool} {j} : SE X (.Constant (.bool i) j pos) (tC (.bl i)) (dC (.bool i)) := ⟨pe_bl, fun _ H F S _ _ _ o _ h q => q _ _ F H S (Ext.refl F) o (RAt.d (.bl i)) h⟩
theorem se_non {j} : SE X (.Constant .none j pos) (tC .non) (dC .none) := ⟨pe_non, fun _ H F S _ _ _ o _ h q => q _ _ F H S (Ext.refl F) o (RAt.d .non) h⟩
theorem se_str {x : Str} {j} : SE X (.Constant (.str x) j pos) (tC (.str x)) (dC (.str x)) := ⟨pe_str, fun _ H F S _ _ _ o _ h q => q _ _ F H S (Ext.refl F) o (RAt.d (.str x)) h⟩
theorem se_frz (h : SE X e te de) : SE X e te (dFrz de) := by
  obtain ⟨pe, s⟩ := h
  refine ⟨pe, fun σ H F S ρ P Q o l h q => s σ H F S ρ _ Q o l h fun v r F' H' S' x o' z p => ?_⟩
  cases r with
  | dat d => exact q v _ F' H' S' x o' z p
  | loc a =>
    obtain rfl : v = .ref a := z
    dsimp only at p
    cases e : S' a with
    | none => rw [e] at p; exact p.elim
    | some c =>
      rw [e] at p
      cases c with
      | lst xs =>
        obtain ⟨F2, x2, o2, d⟩ := o'.freeze e
        exact q _ _ F2 H' _ (x.trans x2) o2 (RAt.d d) p
      | dct xs =>
        obtain ⟨F2, x2, o2, d⟩ := o'.freezeD e
        exact q _ _ F2 H' _ (x.trans x2) o2 (RAt.d d) p

/-! ### argument lists, displays -/
def dNil : DA := fun _ S P => P [] S
def dCons (de : DE) (ds : DA) : DA := fun ρ S P => de ρ S fun r S1 => ds ρ S1 fun rs S2 => P (r :: rs) S2
theorem sa_nil : SA X [] tNil dNil := ⟨pa_nil, fun _ H F S _ _ _ o _ h q => q _ _ F H S (Ext.refl F) o .nil h⟩
theorem sa_cons (h : SE X e te de) (t : SA X es tas ds) (hs : starEach (e :: es) X.env = (false, eval e X.env) :: starEach es X.env := by rfl) : SA X (e :: es) (tCons te tas) (dCons de ds) := by
  obtain ⟨pe, s⟩ := h
  obtain ⟨pa, s2⟩ := t
  refine ⟨pa_cons pe pa hs, fun σ H F S ρ P Q o l h q => ?_⟩
  refine s σ H F S ρ _ _ o l h fun v r F1 H1 S1 x1 o1 z1 p1 => ?_
  refine s2 σ H1 F1 S1 ρ _ _ o1 (l.mono x1) p1 fun vs rs F2 H2 S2 x2 o2 z2 p2 => ?_
  exact q _ _ F2 H2 S2 (x1.trans x2) o2 (.cons (z1.mono x2) z2) p2
/-- all of them data -/
def datas : List Res → Option (List PyData)
  | [] => some []
  | .dat d :: rs => (datas rs).map (d :: ·)
  | .loc _ :: _ => none
theorem datas_all {K : PySem.W.Frag} {F : Hp} : ∀ {vs : List V} {rs : List Res} {ds : List PyData}, RAll K F vs rs → datas rs = some ds → DAll K F vs ds
  | _, _, ds, .nil, e => by cases e; exact .nil
  | _, _, ds, .cons (r := r) h t, e => by
    cases r with
    | loc a => cases e
    | dat d =>
      unfold datas at e
      rename_i rs
      cases q : datas rs with
      | none => rw [q] at e; cases e
      | some es => rw [q] at e; cases e; exact .cons h (datas_all t q)
def dTup (ds : DA) : DE := fun ρ S P => ds ρ S fun rs S1 => match datas rs with
  | some xs => xs.length ≤ 10000 ∧ P (.dat (.tuple xs)) S1
  | none => False
def dLst (ds : DA) : DE := fun ρ S P => ds ρ S fun rs S1 => match datas rs with
  | some xs => xs.length ≤ 10000 ∧ P (.dat (.list xs)) S1
  | none => False
/-- a list that may change -/
def dLstS (ds : DA) : DE := fun ρ S P => ds ρ S fun rs S1 => match datas rs with
  | some xs => xs.length ≤ 10000 ∧ ∀ p, S1 p = none → P (.loc p) (put S1 p (.lst xs))
  | none => False
theorem szl {n : Nat} (h : n ≤ 1000000) : n ≤ sizeLine := by rw [sizeLine_eq]; omega
theorem se_tup {k} (h : SA X es tas ds) : SE X (.Tuple es k pos) (tTup tas) (dTup ds) := by
  obtain ⟨pa, s⟩ := h
  refine ⟨pe_tup pa, fun σ H F S ρ P Q o l h q => s σ H F S ρ _ _ o l h fun vs rs F1 H1 S1 x1 o1 z1 p1 => ?_⟩
  cases e : datas rs with
  | none => rw [e] at p1; exact p1.elim
  | some xs =>
    rw [e] at p1
    have a := datas_all z1 e
    refine ⟨by rw [a.length]; exact szl (by have := p1.1; omega), fun p hp => ?_⟩
    have f := o1.free hp
    have x := Ext.new (o := .tup vs) f.1
    exact q _ _ _ _ S1 (x1.trans x) (o1.newF hp _) (RAt.d (.tup (SqT.of upd_same) (a.mono x))) p1.2
theorem se_lst (h : SA X es tas ds) : SE X (.List es pos) (tLst tas) (dLst ds) := by
  obtain ⟨pa, s⟩ := h
  refine ⟨pe_lst pa, fun σ H F S ρ P Q o l h q => s σ H F S ρ _ _ o l h fun vs rs F1 H1 S1 x1 o1 z1 p1 => ?_⟩
  cases e : datas rs with
  | none => rw [e] at p1; exact p1.elim
  | some xs =>
    rw [e] at p1
    have a := datas_all z1 e
    refine ⟨by rw [a.length]; exact szl (by have := p1.1; omega), fun p hp => ?_⟩
    have f := o1.free hp
    have x := Ext.new (o := .lst vs) f.1
    exact q _ _ _ _ S1 (x1.trans x) (o1.newF hp _) (RAt.d (.lst upd_same (a.mono x))) p1.2
theorem se_lstS (h : SA X es tas ds) : SE X (.List es pos) (tLst tas) (dLstS ds) := by
  obtain ⟨pa, s⟩ := h
  refine ⟨pe_lst pa, fun σ H F S ρ P Q o l h q => s σ H F S ρ _ _ o l h fun vs rs F1 H1 S1 x1 o1 z1 p1 => ?_⟩
  cases e : datas rs with
  | none => rw [e] at p1; exact p1.elim
  | some xs =>
    rw [e] at p1
    have a := datas_all z1 e
    refine ⟨by rw [a.length]; exact szl (by have := p1.1; omega), fun p hp => ?_⟩
    exact q _ (.loc p) F1 _ _ x1 (o1.newS (c := .lst xs) hp ⟨vs, upd_same, a⟩) rfl (p1.2 p (o1.free hp).2)

/-! ### operators, comparisons -/
def dOp (o : DO2) (da db : DE) : DE := fun ρ S P => da ρ S fun x S1 => db ρ S1 fun y S2 => o x y S2 P
def dUn (o : DO1) (da : DE) : DE := fun ρ S P => da ρ S fun x S1 => o x S1 P
theorem sim2 {r : R2} {o : DO2} {ta tb : TE}
    (sa : ∀ (σ : L2.St) (H F : Hp) (S : Sto) (ρ : Vrs) (P : PK) (Q : VK), Ok X.K F H S → SlotsOk X.K F σ ρ → da ρ S P → (∀ v r F' H' S', Ext F F' → Ok X.K F' H' S' → RAt X.K F' v r → P r S' → Q v H') → ta σ H Q)
    (sb : ∀ (σ : L2.St) (H F : Hp) (S : Sto) (ρ : Vrs) (P : PK) (Q : VK), Ok X.K F H S → SlotsOk X.K F σ ρ → db ρ S P → (∀ v r F' H' S', Ext F F' → Ok X.K F' H' S' → RAt X.K F' v r → P r S' → Q v H') → tb σ H Q)
    (so : ∀ (x y : V) (H F : Hp) (S : Sto) (rx ry : Res) (P : PK) (Q : VK), Ok X.K F H S → RAt X.K F x rx → RAt X.K F y ry → o rx ry S P → (∀ v r F' H' S', Ext F F' → Ok X.K F' H' S' → RAt X.K F' v r → P r S' → Q v H') → r x y H Q)
    (σ : L2.St) (H F : Hp) (S : Sto) (ρ : Vrs) (P : PK) (Q : VK) (ok : Ok X.K F H S) (l : SlotsOk X.K F σ ρ) (h : dOp o da db ρ S P)
    (q : ∀ v r F' H' S', Ext F F' → Ok X.K F' H' S' → RAt X.K F' v r → P r S' → Q v H') : tOp r ta tb σ H Q := by
  refine sa σ H F S ρ _ _ ok l h fun x rx F1 H1 S1 x1 o1 z1 p1 => ?_
  refine sb σ H1 F1 S1 ρ _ _ o1 (l.mono x1) p1 fun y ry F2 H2 S2 x2 o2 z2 p2 => ?_
  exact so x y H2 F2 S2 rx ry P Q o2 (z1.mono x2) z2 p2 fun v r F3 H3 S3 x3 => q v r F3 H3 S3 ((x1.trans x2).trans x3)
theorem se_op {op : Operator} {o : DO2} (ho : SO X (binaryOp op) r o) (ha : SE X a ta da) (hb : SE X b tb db) : SE X (.BinOp a op b pos) (tOp r ta tb) (dOp o da db) := by
  obtain ⟨pr, so⟩ := ho
  obtain ⟨pa, sa⟩ := ha
  obtain ⟨pb, sb⟩ := hb
  exact ⟨pe_op pr pa pb, sim2 sa sb so⟩
theorem se_un {op : UnaryOp} {o : DO1} (ho : SU X (unaryOp op) ru o) (ha : SE X a ta da) : SE X (.UnaryOp op a pos) (tUn ru ta) (dUn o da) := by
  obtain ⟨pr, so⟩ := ho
  obtain ⟨pa, sa⟩ := ha
  refine ⟨pe_un pr pa, fun σ H F S ρ P Q ok l h q => sa σ H F S ρ _ _ ok l h fun x rx F1 H1 S1 x1 o1 z1 p1 => ?_⟩
  exact so x H1 F1 S1 rx P Q o1 z1 p1 fun v r F3 H3 S3 x3 => q v r F3 H3 S3 (x1.trans x3)
theorem se_cmp {op : CmpOp} {o : DO2} (ho : SO X (compareOp op) r o) (ha : SE X a ta da) (hb : SE X b tb db) (hm : behindInMarks op b = false := by first | exact nomark _ | rfl | with_unfolding_all rfl) : SE X (.Compare a [op] [b] pos) (tOp r ta tb) (dOp o da db) := by
  obtain ⟨pr, so⟩ := ho
  obtain ⟨pa, sa⟩ := ha
  obtain ⟨pb, sb⟩ := hb
  exact ⟨pe_cmpR pr pa pb hm, sim2 sa sb so⟩
/-- the answer is a bool -/
def dIsB (P : Bool → Sto → Prop) : PK := fun r S => match r with
  | .dat (.bool k) => P k S
  | _ => False
theorem isB {K : PySem.W.Frag} {F : Hp} {v : V} {r : Res} {S : Sto} {P : Bool → Sto → Prop} (z : RAt K F v r) (p : dIsB P r S) : ∃ k, v = .bl k ∧ P k S := by
  cases r with
  | loc a => exact p.elim
  | dat d =>
    cases d with
    | bool k => cases z; exact ⟨k, rfl, p⟩
    | _ => exact p.elim
def dTest (de : DE) : DT := fun ρ S P => de ρ S (dIsB P)
theorem st_cmp {op : CmpOp} {o : DO2} (ho : SO X (compareOp op) r o) (ha : SE X a ta da) (hb : SE X b tb db) (hm : behindInMarks op b = false := by first | exact nomark _ | rfl | with_unfolding_all rfl) : ST X (.Compare a [op] [b] pos) (tTest (tOp r ta tb)) (dTest (dOp o da db)) := by
  obtain ⟨pr, so⟩ := ho
  obtain ⟨pa, sa⟩ := ha
  obtain ⟨pb, sb⟩ := hb
  refine ⟨pt_cmpR pr pa pb hm, fun σ H F S ρ P Q ok l h q => ?_⟩
  refine sim2 sa sb so σ H F S ρ _ _ ok l h fun v r F1 H1 S1 x1 o1 z1 p1 => ?_
  obtain ⟨k, e, p⟩ := isB z1 p1
  exact ⟨k, e, q k F1 H1 S1 x1 o1 p⟩
/-- any expression that gives a bool, as a test -/
theorem st_val (ha : SE X a ta da) (he : ∀ whole, isTrue a X.env whole = (do let v ← whole; standAt a.pos; holding [v] (truthy v)) := by intro _; rfl) : ST X a (tB ta) (dTest da) := by
  obtain ⟨pa, sa⟩ := ha
  refine ⟨pt_val pa he, fun σ H F S ρ P Q ok l h q => ?_⟩
  refine sa σ H F S ρ _ _ ok l h fun v r F1 H1 S1 x1 o1 z1 p1 => ?_
  obtain ⟨k, e, p⟩ := isB z1 p1
  exact ⟨k, e, q k F1 H1 S1 x1 o1 p⟩
def dChain (o o' : DO2) (da db dc : DE) : DE := fun ρ S P => da ρ S fun x S1 => db ρ S1 fun y S2 => o x y S2 (dIsB fun k S3 =>
  if k = true then dc ρ S3 fun z S4 => o' y z S4 P else P (.dat (.bool false)) S3)
theorem sim_chain {r r' : R2} {o o' : DO2} {ta tb tc : TE}
    (sa : ∀ (σ : L2.St) (H F : Hp) (S : Sto) (ρ : Vrs) (P : PK) (Q : VK), Ok X.K F H S → SlotsOk X.K F σ ρ → da ρ S P → (∀ v r F' H' S', Ext F F' → Ok X.K F' H' S' → RAt X.K F' v r → P r S' → Q v H') → ta σ H Q)
    (sb : ∀ (σ : L2.St) (H F : Hp) (S : Sto) (ρ : Vrs) (P : PK) (Q : VK), Ok X.K F H S → SlotsOk X.K F σ ρ → db ρ S P → (∀ v r F' H' S', Ext F F' → Ok X.K F' H' S' → RAt X.K F' v r → P r S' → Q v H') → tb σ H Q)
    (sc : ∀ (σ : L2.St) (H F : Hp) (S : Sto) (ρ : Vrs) (P : PK) (Q : VK), Ok X.K F H S → SlotsOk X.K F σ ρ → dc ρ S P → (∀ v r F' H' S', Ext F F' → Ok X.K F' H' S' → RAt X.K F' v r → P r S' → Q v H') → tc σ H Q)
    (so : ∀ (x y : V) (H F : Hp) (S : Sto) (rx ry : Res) (P : PK) (Q : VK), Ok X.K F H S → RAt X.K F x rx → RAt X.K F y ry → o rx ry S P → (∀ v r F' H' S', Ext F F' → Ok X.K F' H' S' → RAt X.K F' v r → P r S' → Q v H') → r x y H Q)
    (so' : ∀ (x y : V) (H F : Hp) (S : Sto) (rx ry : Res) (P : PK) (Q : VK), Ok X.K F H S → RAt X.K F x rx → RAt X.K F y ry → o' rx ry S P → (∀ v r F' H' S', Ext F F' → Ok X.K F' H' S' → RAt X.K F' v r → P r S' → Q v H') → r' x y H Q)
    (σ : L2.St) (H F : Hp) (S : Sto) (ρ : Vrs) (P : PK) (Q : VK) (ok : Ok X.K F H S) (l : SlotsOk X.K F σ ρ) (h : dChain o o' da db dc ρ S P)
    (q : ∀ v r F' H' S', Ext F F' → Ok X.K F' H' S' → RAt X.K F' v r → P r S' → Q v H') : tChain r r' ta tb tc σ H Q := by
  refine sa σ H F S ρ _ _ ok l h fun x rx F1 H1 S1 x1 o1 z1 p1 => ?_
  refine sb σ H1 F1 S1 ρ _ _ o1 (l.mono x1) p1 fun y ry F2 H2 S2 x2 o2 z2 p2 => ?_
  refine so x y H2 F2 S2 rx ry _ _ o2 (z1.mono x2) z2 p2 fun v r F3 H3 S3 x3 o3 z3 p3 => ?_
  obtain ⟨k, e, p⟩ := isB z3 p3
  refine ⟨k, e, ?_⟩
  cases k with
  | false => exact q _ _ F3 H3 S3 ((x1.trans x2).trans x3) o3 (RAt.d (.bl false)) p
  | true =>
    refine sc σ H3 F3 S3 ρ _ _ o3 (l.mono ((x1.trans x2).trans x3)) p fun z rz F4 H4 S4 x4 o4 z4 p4 => ?_
    exact so' y z H4 F4 S4 ry rz P Q o4 (z2.mono (x3.trans x4)) z4 p4 fun v r F5 H5 S5 x5 => q v r F5 H5 S5 ((((x1.trans x2).trans x3).trans x4).trans x5)
theorem se_chain {op op' : CmpOp} {o o' : DO2} (ho : SO X (compareOp op) r o) (ho' : SO X (compareOp op') r' o') (ha : SE X a ta da) (hb : SE X b tb db) (hc : SE X c tc dc)
    (hm : lastMarks [op, op'] [b, c] = false := by with_unfolding_all rfl) : SE X (.Compare a [op, op'] [b, c] pos) (tChain r r' ta tb tc) (dChain o o' da db dc) := by
  obtain ⟨pr, so⟩ := ho
  obtain ⟨pr', so'⟩ := ho'
  obtain ⟨pa, sa⟩ := ha
  obtain ⟨pb, sb⟩ := hb
  obtain ⟨pc, sc⟩ := hc
  exact ⟨pe_chain pr pr' pa pb pc hm, sim_chain sa sb sc so so'⟩
theorem st_chain {op op' : CmpOp} {o o' : DO2} (ho : SO X (compareOp op) r o) (ho' : SO X (compareOp op') r' o') (ha : SE X a ta da) (hb : SE X b tb db) (hc : SE X c tc dc)
    (hm : lastMarks [op, op'] [b, c] = false := by with_unfolding_all rfl) : ST X (.Compare a [op, op'] [b, c] pos) (tTest (tChain r r' ta tb tc)) (dTest (dChain o o' da db dc)) := by
  obtain ⟨pr, so⟩ := ho
  obtain ⟨pr', so'⟩ := ho'
  obtain ⟨pa, sa⟩ := ha
  obtain ⟨pb, sb⟩ := hb
  obtain ⟨pc, sc⟩ := hc
  refine ⟨pt_chain pr pr' pa pb pc hm, fun σ H F S ρ P Q ok l h q => ?_⟩
  refine sim_chain sa sb sc so so' σ H F S ρ _ _ ok l h fun v r F1 H1 S1 x1 o1 z1 p1 => ?_
  obtain ⟨k, e, p⟩ := isB z1 p1
  exact ⟨k, e, q k F1 H1 S1 x1 o1 p⟩

/-! ### and, or, not, if -/
def dAnd (t u : DT) : DT := fun ρ S P => t ρ S fun k S1 => if k = true then u ρ S1 P else P false S1
def dOr (t u : DT) : DT := fun ρ S P => t ρ S fun k S1 => if k = true then P true S1 else u ρ S1 P
def dNot (t : DT) : DT := fun ρ S P => t ρ S fun k S1 => P (!k) S1
def dIf (t : DT) (da db : DE) : DE := fun ρ S P => t ρ S fun k S1 => if k = true then da ρ S1 P else db ρ S1 P
def dAndV (da db : DE) : DE := fun ρ S P => da ρ S (dIsB fun k S1 => if k = true then db ρ S1 P else P (.dat (.bool false)) S1)
def dOrV (da db : DE) : DE := fun ρ S P => da ρ S (dIsB fun k S1 => if k = true then P (.dat (.bool true)) S1 else db ρ S1 P)
def dNotV (da : DE) : DE := fun ρ S P => da ρ S (dIsB fun k S1 => P (.dat (.bool (!k))) S1)
variable {rest : List Expr}
theorem SW.st (h : SW X e tt dt) : ST X e tt dt := by
  obtain ⟨p, s⟩ := h
  exact ⟨p.pt, s⟩
theorem sw_and1 (h : ST X a tt dt) : SW X (.BoolOp .And [a] pos) tt dt := by
  obtain ⟨p, s⟩ := h
  exact ⟨pw_and1 p, s⟩
theorem sw_or1 (h : ST X a tt dt) : SW X (.BoolOp .Or [a] pos) tt dt := by
  obtain ⟨p, s⟩ := h
  exact ⟨pw_or1 p, s⟩
theorem sw_and (h : ST X a tt dt) (g : SW X (.BoolOp .And (b :: rest) pos) uu du) : SW X (.BoolOp .And (a :: b :: rest) pos) (tAnd tt uu) (dAnd dt du) := by
  obtain ⟨p, s⟩ := h
  obtain ⟨p2, s2⟩ := g
  refine ⟨pw_and p p2, fun σ H F S ρ P Q ok l h q => s σ H F S ρ _ _ ok l h fun k F1 H1 S1 x1 o1 p1 => ?_⟩
  cases k with
  | true => exact s2 σ H1 F1 S1 ρ _ _ o1 (l.mono x1) p1 fun b F2 H2 S2 x2 => q b F2 H2 S2 (x1.trans x2)
  | false => exact q false F1 H1 S1 x1 o1 p1
theorem sw_or (h : ST X a tt dt) (g : SW X (.BoolOp .Or (b :: rest) pos) uu du) : SW X (.BoolOp .Or (a :: b :: rest) pos) (tOr tt uu) (dOr dt du) := by
  obtain ⟨p, s⟩ := h
  obtain ⟨p2, s2⟩ := g
  refine ⟨pw_or p p2, fun σ H F S ρ P Q ok l h q => s σ H F S ρ _ _ ok l h fun k F1 H1 S1 x1 o1 p1 => ?_⟩
  cases k with
  | true => exact q true F1 H1 S1 x1 o1 p1
  | false => exact s2 σ H1 F1 S1 ρ _ _ o1 (l.mono x1) p1 fun b F2 H2 S2 x2 => q b F2 H2 S2 (x1.trans x2)
theorem st_not (h : ST X a tt dt) : ST X (.UnaryOp .Not a pos) (tNot tt) (dNot dt) := by
  obtain ⟨p, s⟩ := h
  exact ⟨pt_not p, fun σ H F S ρ P Q ok l h q => s σ H F S ρ _ _ ok l h fun k F1 H1 S1 x1 o1 p1 => q (!k) F1 H1 S1 x1 o1 p1⟩
theorem se_if (h : ST X c tt dt) (ha : SE X a ta da) (hb : SE X b tb db) : SE X (.IfExp c a b pos) (tIf tt ta tb) (dIf dt da db) := by
  obtain ⟨p, s⟩ := h
  obtain ⟨pa, sa⟩ := ha
  obtain ⟨pb, sb⟩ := hb
  refine ⟨pe_ifExp p pa pb, fun σ H F S ρ P Q ok l h q => s σ H F S ρ _ _ ok l h fun k F1 H1 S1 x1 o1 p1 => ?_⟩
  cases k with
  | true => exact sa σ H1 F1 S1 ρ _ _ o1 (l.mono x1) p1 fun v r F2 H2 S2 x2 => q v r F2 H2 S2 (x1.trans x2)
  | false => exact sb σ H1 F1 S1 ρ _ _ o1 (l.mono x1) p1 fun v r F2 H2 S2 x2 => q v r F2 H2 S2 (x1.trans x2)
theorem se_one {op} (h : SE X a ta da) : SE X (.BoolOp op [a] pos) ta da := by
  obtain ⟨p, s⟩ := h
  exact ⟨pe_one p, s⟩
theorem se_and (h : SE X a ta da) (g : SE X (.BoolOp .And (b :: rest) pos) tb db) : SE X (.BoolOp .And (a :: b :: rest) pos) (tAndV ta tb) (dAndV da db) := by
  obtain ⟨p, s⟩ := h
  obtain ⟨p2, s2⟩ := g
  refine ⟨pe_and p p2, fun σ H F S ρ P Q ok l h q => s σ H F S ρ _ _ ok l h fun v r F1 H1 S1 x1 o1 z1 p1 => ?_⟩
  obtain ⟨k, e, p⟩ := isB z1 p1
  refine ⟨k, e, ?_⟩
  cases k with
  | true => exact s2 σ H1 F1 S1 ρ _ _ o1 (l.mono x1) p fun v r F2 H2 S2 x2 => q v r F2 H2 S2 (x1.trans x2)
  | false => exact q _ _ F1 H1 S1 x1 o1 (RAt.d (.bl false)) p
theorem se_or (h : SE X a ta da) (g : SE X (.BoolOp .Or (b :: rest) pos) tb db) : SE X (.BoolOp .Or (a :: b :: rest) pos) (tOrV ta tb) (dOrV da db) := by
  obtain ⟨p, s⟩ := h
  obtain ⟨p2, s2⟩ := g
  refine ⟨pe_or p p2, fun σ H F S ρ P Q ok l h q => s σ H F S ρ _ _ ok l h fun v r F1 H1 S1 x1 o1 z1 p1 => ?_⟩
  obtain ⟨k, e, p⟩ := isB z1 p1
  refine ⟨k, e, ?_⟩
  cases k with
  | true => exact q _ _ F1 H1 S1 x1 o1 (RAt.d (.bl true)) p
  | false => exact s2 σ H1 F1 S1 ρ _ _ o1 (l.mono x1) p fun v r F2 H2 S2 x2 => q v r F2 H2 S2 (x1.trans x2)
theorem se_not (h : SE X a ta da) : SE X (.UnaryOp .Not a pos) (tNotV ta) (dNotV da) := by
  obtain ⟨p, s⟩ := h
  refine ⟨pe_not p, fun σ H F S ρ P Q ok l h q => s σ H F S ρ _ _ ok l h fun v r F1 H1 S1 x1 o1 z1 p1 => ?_⟩
  obtain ⟨k, e, p⟩ := isB z1 p1
  exact ⟨k, e, q _ _ F1 H1 S1 x1 o1 (RAt.d (.bl (!k))) p⟩
end
end Lo

/-! Own layer, part D: statements, targets, walks, comprehensions, calls of own defs. -/
namespace Lo
open PySem PySem.Spec PyProof.Rows L2

structure DEnds where
  nx : Vrs → Sto → Prop
  rt : PK
  bk : Vrs → Sto → Prop := fun _ _ => False
  ct : Vrs → Sto → Prop := fun _ _ => False
abbrev DS := DEnds → Vrs → Sto → Prop
structure Sim (K : PySem.W.Frag) (F : Hp) (D : DEnds) (E : Ends) : Prop where
  nx : ∀ σ ρ F' H' S', Ext F F' → Ok K F' H' S' → SlotsOk K F' σ ρ → D.nx ρ S' → E.nx σ H'
  rt : ∀ v r F' H' S', Ext F F' → Ok K F' H' S' → RAt K F' v r → D.rt r S' → E.rt v H'
  bk : ∀ σ ρ F' H' S', Ext F F' → Ok K F' H' S' → SlotsOk K F' σ ρ → D.bk ρ S' → E.bk σ H'
  ct : ∀ σ ρ F' H' S', Ext F F' → Ok K F' H' S' → SlotsOk K F' σ ρ → D.ct ρ S' → E.ct σ H'
theorem Sim.mono {K : PySem.W.Frag} {F G : Hp} {D : DEnds} {E : Ends} (h : Sim K F D E) (x : Ext F G) : Sim K G D E :=
  ⟨fun σ ρ F' H' S' y => h.nx σ ρ F' H' S' (x.trans y), fun v r F' H' S' y => h.rt v r F' H' S' (x.trans y),
   fun σ ρ F' H' S' y => h.bk σ ρ F' H' S' (x.trans y), fun σ ρ F' H' S' y => h.ct σ ρ F' H' S' (x.trans y)⟩

section
variable (X : Cx)
def SS (st : Stmt) (ts : TS) (ds : DS) : Prop := PS X st ts ∧ ∀ (σ : L2.St) (H F : Hp) (S : Sto) (ρ : Vrs) (D : DEnds) (E : Ends),
  Ok X.K F H S → SlotsOk X.K F σ ρ → Sim X.K F D E → ds D ρ S → ts E σ H
def SB (sts : List Stmt) (ts : TS) (ds : DS) : Prop := PSs X sts ts ∧ ∀ (σ : L2.St) (H F : Hp) (S : Sto) (ρ : Vrs) (D : DEnds) (E : Ends),
  Ok X.K F H S → SlotsOk X.K F σ ρ → Sim X.K F D E → ds D ρ S → ts E σ H
abbrev DG := Res → Vrs → Sto → (Vrs → Sto → Prop) → Prop
def SG (tg : Expr) (g : TG) (dg : DG) : Prop := PG X tg g ∧ ∀ (v : V) (σ : L2.St) (H F : Hp) (S : Sto) (r : Res) (ρ : Vrs) (P : Vrs → Sto → Prop) (Q : L2.St → Hp → Prop),
  Ok X.K F H S → SlotsOk X.K F σ ρ → RAt X.K F v r → dg r ρ S P →
  (∀ σ' ρ' F' H' S', Ext F F' → Ok X.K F' H' S' → SlotsOk X.K F' σ' ρ' → P ρ' S' → Q σ' H') → g v σ H Q
abbrev DGs := List Res → Vrs → Sto → (Vrs → Sto → Prop) → Prop
def SGs (tgs : List Expr) (g : TGs) (dg : DGs) : Prop := PGs X tgs g ∧ ∀ (vs : List V) (σ : L2.St) (H F : Hp) (S : Sto) (rs : List Res) (ρ : Vrs) (P : Vrs → Sto → Prop) (Q : L2.St → Hp → Prop),
  Ok X.K F H S → SlotsOk X.K F σ ρ → RAll X.K F vs rs → dg rs ρ S P →
  (∀ σ' ρ' F' H' S', Ext F F' → Ok X.K F' H' S' → SlotsOk X.K F' σ' ρ' → P ρ' S' → Q σ' H') → g vs σ H Q
end

section
variable {X : Cx} {st : Stmt} {rest : List Stmt} {e a b c : Expr} {es : List Expr} {te ta tb : TE} {tt : TT} {tas : TA} {ts us ws : TS} {gT : TG} {gTs : TGs} {wi : TI} {de da db : DE} {dt : DT} {ds du : DS} {pos : Pos}
def dNext : DS := fun D ρ S => D.nx ρ S
def dSeq (t u : DS) : DS := fun D ρ S => t { D with nx := u D } ρ S
theorem sb_nil : SB X [] tNext dNext := ⟨pss_nil, fun σ H F S ρ D E o l s h => s.nx σ ρ F H S (Ext.refl F) o l h⟩
theorem sb_one (h : SS X st ts ds) : SB X [st] ts ds := by
  obtain ⟨p, s⟩ := h
  exact ⟨pss_one p, s⟩
theorem sb_cons (h : SS X st ts ds) (g : SB X rest us du) : SB X (st :: rest) (tSeq ts us) (dSeq ds du) := by
  obtain ⟨p, s⟩ := h
  obtain ⟨p2, s2⟩ := g
  refine ⟨pss_cons p p2, fun σ H F S ρ D E o l m h => ?_⟩
  refine s σ H F S ρ { D with nx := du D } { E with nx := us E } o l ⟨?_, m.rt, m.bk, m.ct⟩ h
  exact fun σ' ρ' F' H' S' x o' l' q => s2 σ' H' F' S' ρ' D E o' l' (m.mono x) q
def dBrk : DS := fun D ρ S => D.bk ρ S
def dCnt : DS := fun D ρ S => D.ct ρ S
theorem ss_pass : SS X (.Pass pos) tNext dNext := ⟨ps_pass, fun σ H F S ρ D E o l s h => s.nx σ ρ F H S (Ext.refl F) o l h⟩
theorem ss_brk : SS X (.Break pos) tBreak dBrk := ⟨ps_break, fun σ H F S ρ D E o l s h => s.bk σ ρ F H S (Ext.refl F) o l h⟩
theorem ss_cnt : SS X (.Continue pos) tCont dCnt := ⟨ps_continue, fun σ H F S ρ D E o l s h => s.ct σ ρ F H S (Ext.refl F) o l h⟩
def dDrop (de : DE) : DS := fun D ρ S => de ρ S fun _ S1 => D.nx ρ S1
theorem ss_expr (he : SE X e te de) (hs : swapsWith e none pos.line X.env = pure false := by rfl) : SS X (.Expr e pos) (tDrop te) (dDrop de) := by
  obtain ⟨pe, s⟩ := he
  exact ⟨ps_expr pe hs, fun σ H F S ρ D E o l m h => s σ H F S ρ _ _ o l h fun v r F' H' S' x o' z p => m.nx σ ρ F' H' S' x o' (l.mono x) p⟩
def dRet (de : DE) : DS := fun D ρ S => de ρ S D.rt
theorem ss_ret (he : SE X e te de) : SS X (.Return (some e) pos) (tRet te) (dRet de) := by
  obtain ⟨pe, s⟩ := he
  exact ⟨ps_ret pe, fun σ H F S ρ D E o l m h => s σ H F S ρ _ _ o l h fun v r F' H' S' x o' z p => m.rt v r F' H' S' x o' z p⟩
def dRetN : DS := fun D _ S => D.rt (.dat .none) S
theorem ss_retN : SS X (.Return none pos) tRetN dRetN := ⟨ps_retN, fun σ H F S ρ D E o l m h => m.rt _ _ F H S (Ext.refl F) o (RAt.d .non) h⟩
def dIfS (t : DT) (u w : DS) : DS := fun D ρ S => t ρ S fun k S1 => if k = true then u D ρ S1 else w D ρ S1
theorem ss_if {p q : List Stmt} {du dw : DS} (hc : ST X c tt dt) (ha : SB X p us du) (hb : SB X q ws dw) : SS X (.If c p q pos) (tIfS tt us ws) (dIfS dt du dw) := by
  obtain ⟨pt, s⟩ := hc
  obtain ⟨pu, su⟩ := ha
  obtain ⟨pw, sw⟩ := hb
  refine ⟨ps_if pt pu pw, fun σ H F S ρ D E o l m h => s σ H F S ρ _ _ o l h fun k F1 H1 S1 x1 o1 p1 => ?_⟩
  cases k with
  | true => exact su σ H1 F1 S1 ρ D E o1 (l.mono x1) (m.mono x1) p1
  | false => exact sw σ H1 F1 S1 ρ D E o1 (l.mono x1) (m.mono x1) p1
/-- code that no run comes to -/
def dNever : DS := fun _ _ _ => False
theorem ss_never : SS X st tNever dNever := ⟨ps_never, fun _ _ _ _ _ _ _ _ _ _ h => h.elim⟩

/-! ### targets -/
def dName (i : Nat) : DG := fun r ρ S P => P (ρ.set i (some r)) S
theorem sg_name {i : Nat} {x : Str} (hN : X.N.Nodup) (hi : X.N[i]? = some x := by rfl) (hx : Loc X.env.scope x := by first | exact Or.inl rfl | exact Or.inr rfl)
    (hf : X.fn x = true ∨ X.env.scope.names.lookup x = some .local := by first | exact .inl rfl | exact .inr rfl | assumption) : SG X (.Name x pos) (gName i) (dName i) :=
  ⟨pg_name hN hi hx hf, fun v σ H F S r ρ P Q o l z h q => q _ _ F H S (Ext.refl F) o (l.set i z) h⟩
def dGNil : DGs := fun rs ρ S P => rs = [] ∧ P ρ S
def dGCons (g : DG) (gs : DGs) : DGs := fun rs ρ S P => match rs with
  | r :: rs => g r ρ S fun ρ1 S1 => gs rs ρ1 S1 P
  | [] => False
theorem sgs_nil : SGs X [] gNil dGNil := ⟨pgs_nil, fun vs σ H F S rs ρ P Q o l z h q => by
  obtain ⟨e, h⟩ := h
  subst e
  cases z
  exact ⟨rfl, q _ _ F H S (Ext.refl F) o l h⟩⟩
theorem sgs_cons {g : DG} {gs : DGs} (h : SG X e gT g) (t : SGs X es gTs gs) (hs : (assignEach (e :: es) X.env).map (·.2) = assign e X.env :: (assignEach es X.env).map (·.2) := by rfl) : SGs X (e :: es) (gCons gT gTs) (dGCons g gs) := by
  obtain ⟨p1, s1⟩ := h
  obtain ⟨p2, s2⟩ := t
  refine ⟨pgs_cons p1 p2 hs, fun vs σ H F S rs ρ P Q o l z h q => ?_⟩
  cases z with
  | nil => exact h.elim
  | cons z0 zr =>
    refine ⟨_, _, rfl, s1 _ σ H F S _ ρ _ _ o l z0 h fun σ1 ρ1 F1 H1 S1 x1 o1 l1 p1 => ?_⟩
    exact s2 _ σ1 H1 F1 S1 _ ρ1 _ _ o1 l1 (zr.mono x1) p1 fun σ2 ρ2 F2 H2 S2 x2 => q σ2 ρ2 F2 H2 S2 (x1.trans x2)
/-- a tuple's items to targets -/
def dGTup (gs : DGs) (n : Nat) : DG := fun r ρ S P => match r with
  | .dat (.tuple ds) => ds.length = n ∧ gs (ds.map .dat) ρ S P
  | _ => False
theorem DAll.rall {K : PySem.W.Frag} {F : Hp} : ∀ {vs : List V} {ds : List PyData}, DAll K F vs ds → RAll K F vs (ds.map .dat)
  | _, _, .nil => .nil
  | _, _, .cons h t => .cons (RAt.d h) t.rall
theorem sg_tup {gs : DGs} {k n : Nat} (hc : X.calm = true) (h : SGs X es gTs gs) (hn : (assignEach es X.env).length = n := by rfl) (hst : (assignEach es X.env).findIdx? (·.1) = none := by rfl) : SG X (.Tuple es k pos) (gTup X.K n gTs) (dGTup gs n) := by
  obtain ⟨p, s⟩ := h
  refine ⟨pg_tup hc p hn hst, fun v σ H F S r ρ P Q o l z h q => ?_⟩
  cases r with
  | loc a => exact h.elim
  | dat d =>
    cases d with
    | tuple ds =>
      cases z with
      | tup hs ha =>
        exact ⟨_, _, rfl, o.ext.t hs, by rw [ha.length]; exact h.1, s _ σ H F S _ ρ P Q o l ha.rall h.2 q⟩
    | _ => exact h.elim
def dAsg (de : DE) (g : DG) : DS := fun D ρ S => de ρ S fun r S1 => g r ρ S1 D.nx
theorem ss_set {i : Nat} {x : Str} {pos' : Pos} (hN : X.N.Nodup) (he : SE X e te de) (hi : X.N[i]? = some x := by rfl) (hx : Loc X.env.scope x := by first | exact Or.inl rfl | exact Or.inr rfl)
    (hs : swapsWith e (some (.Name x pos')) pos.line X.env = pure false := by rfl)
    (hf : X.fn x = true ∨ X.env.scope.names.lookup x = some .local := by first | exact .inl rfl | exact .inr rfl | assumption) : SS X (.Assign [.Name x pos'] e pos) (tAsg te (gName i)) (dAsg de (dName i)) := by
  obtain ⟨pe, s⟩ := he
  refine ⟨ps_set hN hi hx pe hs hf, fun σ H F S ρ D E o l m h => s σ H F S ρ _ _ o l h fun v r F1 H1 S1 x1 o1 z1 p1 => ?_⟩
  exact m.nx _ _ F1 H1 S1 x1 o1 ((l.mono x1).set i z1) p1
theorem ss_asg {tg : Expr} {g : DG} (he : SE X e te de) (hg : SG X tg gT g) (hs : swapsWithSole [tg] e pos.line X.env = pure false := by rfl) (hw : swappedStores [tg] e X.env = pure none := by rfl)
    (h1 : (assignEach [tg] X.env).map (·.2) = [assign tg X.env] := by rfl) : SS X (.Assign [tg] e pos) (tAsg te gT) (dAsg de g) := by
  obtain ⟨pe, s⟩ := he
  obtain ⟨p1, s1⟩ := hg
  refine ⟨ps_asg pe p1 hs hw h1, fun σ H F S ρ D E o l m h => s σ H F S ρ _ _ o l h fun v r F1 H1 S1 x1 o1 z1 p1 => ?_⟩
  exact s1 v σ H1 F1 S1 r ρ _ _ o1 (l.mono x1) z1 p1 fun σ2 ρ2 F2 H2 S2 x2 o2 l2 p2 => m.nx σ2 ρ2 F2 H2 S2 (x1.trans x2) o2 l2 p2
/-- a, b = x, y with plain local names -/
def dPar (i j : Nat) (da : DA) : DS := fun D ρ S => da ρ S fun rs S1 => match rs with
  | [r, q] => D.nx ((ρ.set i (some r)).set j (some q)) S1
  | _ => False
theorem ss_par {i j : Nat} {x y : Str} {da : DA} {px py pt : Pos} {kt k2 pt2} (hc : X.calm = true) (hN : X.N.Nodup) (ha : SA X [a, b] tas da) (hi : X.N[i]? = some x := by rfl) (hj : X.N[j]? = some y := by rfl) (hij : i ≠ j := by decide)
    (hx : X.env.scope.names.lookup x = some .local := by rfl) (hy : X.env.scope.names.lookup y = some .local := by rfl)
    (hw : swappedStores [.Tuple [.Name x px, .Name y py] kt pt] (.Tuple [a, b] k2 pt2) X.env = pure (some [x, y]) := by rfl)
    (hs : swapsWithSole [.Tuple [.Name x px, .Name y py] kt pt] (.Tuple [a, b] k2 pt2) pos.line X.env = pure false := by rfl) :
    SS X (.Assign [.Tuple [.Name x px, .Name y py] kt pt] (.Tuple [a, b] k2 pt2) pos) (tPar i j tas) (dPar i j da) := by
  obtain ⟨pa, s⟩ := ha
  refine ⟨ps_par hc hN hi hj hij hx hy pa hw hs, fun σ H F S ρ D E o l m h => s σ H F S ρ _ _ o l h fun vs rs F1 H1 S1 x1 o1 z1 p1 => ?_⟩
  match vs, rs, z1, p1 with
  | _, _, .cons z0 (.cons z2 .nil), p1 => exact ⟨_, _, rfl, m.nx _ _ F1 H1 S1 x1 o1 (((l.mono x1).set i z0).set j z2) p1⟩
  | _, _, .cons z0 (.cons z2 (.cons _ _)), p1 => exact p1.elim
  | _, _, .cons z0 .nil, p1 => exact p1.elim
  | _, _, .nil, p1 => exact p1.elim

/-! ### what a loop or a comprehension walks -/
/-- the items, known ahead of the walk -/
abbrev DI := Vrs → Sto → (List PyData → Sto → Prop) → Prop
structure Walks (K : PySem.W.Frag) (J : It) (F : Hp) (xs : List PyData) : Prop where
  go : ∀ i F' H S, Ext F F' → Ok K F' H S → i < xs.length → J.go i H
  yld : ∀ i F' H S x H' d, Ext F F' → Ok K F' H S → xs[i]? = some d → J.yld i H x H' → ∃ G, Ext F' G ∧ Ok K G H' S ∧ DAt K G x d
  stop : ∀ i F' H S, Ext F F' → Ok K F' H S → xs.length ≤ i → J.stop i H
def SI (X : Cx) (tg iter : Expr) (wi : TI) (di : DI) : Prop := PI X tg iter wi ∧ ∀ (σ : L2.St) (H F : Hp) (S : Sto) (ρ : Vrs) (P : List PyData → Sto → Prop) (R : It → Hp → Prop),
  Ok X.K F H S → SlotsOk X.K F σ ρ → di ρ S P →
  (∀ J xs F' H' S', Ext F F' → Ok X.K F' H' S' → Walks X.K J F' xs → P xs S' → R J H') → wi σ H R
/-- the items of data -/
def dIt (de : DE) : DI := fun ρ S P => de ρ S fun r S1 => match r with
  | .dat (.list xs) => P xs S1
  | _ => False
def dItT (de : DE) : DI := fun ρ S P => de ρ S fun r S1 => match r with
  | .dat (.tuple xs) => P xs S1
  | _ => False
theorem walks_list {K : PySem.W.Frag} {F : Hp} {a : Addr} {vs : List V} {xs : List PyData} (h : SqL K F a vs) (t : DAll K F vs xs) : Walks K (Itl K a) F xs where
  go := fun i F' H S x o hi => ⟨vs, vs[i]'(by rw [t.length]; exact hi), o.ext.l (x.l h), List.getElem?_eq_getElem _⟩
  yld := fun i F' H S v H' d x o hd y => by
    obtain ⟨e, y⟩ := y
    subst e
    obtain ⟨u, hu, z⟩ := t.get hd
    have q := y vs (o.ext.l (x.l h))
    rw [hu] at q
    cases q
    exact ⟨F', Ext.refl F', o, z.mono x⟩
  stop := fun i F' H S x o hi => ⟨vs, o.ext.l (x.l h), by rw [t.length]; exact hi⟩
theorem walks_tup {K : PySem.W.Frag} {F : Hp} {a : Addr} {vs : List V} {xs : List PyData} (h : SqT K F a vs) (t : DAll K F vs xs) : Walks K (Itt K a) F xs where
  go := fun i F' H S x o hi => ⟨vs, vs[i]'(by rw [t.length]; exact hi), o.ext.t (x.t h), List.getElem?_eq_getElem _⟩
  yld := fun i F' H S v H' d x o hd y => by
    obtain ⟨e, y⟩ := y
    subst e
    obtain ⟨u, hu, z⟩ := t.get hd
    have q := y vs (o.ext.t (x.t h))
    rw [hu] at q
    cases q
    exact ⟨F', Ext.refl F', o, z.mono x⟩
  stop := fun i F' H S x o hi => ⟨vs, o.ext.t (x.t h), by rw [t.length]; exact hi⟩
theorem si_list {tg : Expr} (he : SE X e te de) : SI X tg e (iList X.K te) (dIt de) := by
  obtain ⟨pe, s⟩ := he
  refine ⟨pi_list pe, fun σ H F S ρ P R o l h q => s σ H F S ρ _ _ o l h fun v r F1 H1 S1 x1 o1 z1 p1 => ?_⟩
  cases r with
  | loc a => exact p1.elim
  | dat d =>
    cases d with
    | list xs =>
      cases z1 with
      | lst hs ha => exact ⟨_, rfl, ⟨_, SqL.of (o1.ext _ _ hs)⟩, q _ xs F1 H1 S1 x1 o1 (walks_list (SqL.of hs) ha) p1⟩
    | _ => exact p1.elim
theorem si_tup {tg : Expr} (he : SE X e te de) : SI X tg e (iTup X.K te) (dItT de) := by
  obtain ⟨pe, s⟩ := he
  refine ⟨pi_tup pe, fun σ H F S ρ P R o l h q => s σ H F S ρ _ _ o l h fun v r F1 H1 S1 x1 o1 z1 p1 => ?_⟩
  cases r with
  | loc a => exact p1.elim
  | dat d =>
    cases d with
    | tuple xs =>
      cases z1 with
      | tup hs ha => exact ⟨_, rfl, ⟨_, o1.ext.t hs⟩, q _ xs F1 H1 S1 x1 o1 (walks_tup hs ha) p1⟩
    | _ => exact p1.elim
/-- lo, lo + 1, .. below hi -/
def upto (lo : Int) (n : Nat) : List PyData := (List.range n).map fun (i : Nat) => PyData.int (lo + (i : Int))
theorem upto_length (lo : Int) (n : Nat) : (upto lo n).length = n := by unfold upto; rw [List.length_map, List.length_range]
theorem walks_range {K : PySem.W.Frag} {F : Hp} (lo : Int) (n : Nat) : Walks K (Itr lo n) F (upto lo n) where
  go := fun i F' H S x o hi => by rw [upto_length] at hi; exact hi
  yld := fun i F' H S v H' d x o hd y => by
    obtain ⟨e, y⟩ := y
    subst e; subst y
    refine ⟨F', Ext.refl F', o, ?_⟩
    unfold upto at hd
    rw [List.getElem?_map] at hd
    cases q : (List.range n)[i]? with
    | none => rw [q] at hd; cases hd
    | some j =>
      rw [q] at hd
      have ej : i = j := by
        have := List.getElem?_eq_some_iff.mp q
        obtain ⟨h1, h2⟩ := this
        rw [List.getElem_range] at h2
        exact h2
      subst ej
      cases hd
      exact .int _
  stop := fun i F' H S x o hi => by rw [upto_length] at hi; exact hi
def dRng1 (da : DA) : DI := fun ρ S P => da ρ S fun rs S1 => match rs with
  | [.dat (.int n)] => -1000000 ≤ n ∧ n ≤ 1000000 ∧ P (upto 0 n.toNat) S1
  | _ => False
def dRng2 (da : DA) : DI := fun ρ S P => da ρ S fun rs S1 => match rs with
  | [.dat (.int i), .dat (.int j)] => -1000000 ≤ i ∧ i ≤ 1000000 ∧ -1000000 ≤ j ∧ j ≤ 1000000 ∧ P (upto i (j - i).toNat) S1
  | _ => False
theorem RAll.int1 {K : PySem.W.Frag} {F : Hp} {vs : List V} {n : Int} (h : RAll K F vs [.dat (.int n)]) : vs = [.int n] := by
  cases h with
  | cons a t => cases t; cases a; rfl
theorem RAll.int2 {K : PySem.W.Frag} {F : Hp} {vs : List V} {n m : Int} (h : RAll K F vs [.dat (.int n), .dat (.int m)]) : vs = [.int n, .int m] := by
  cases h with
  | cons a t => rw [t.int1]; cases a; rfl
theorem si_rng1 {tg : Expr} {da : DA} {p : Pos} (hg : Gl X "range") (hm : X.mg "range" = none) (ha : SA X [a] tas da) (hs : starEach [a] X.env = [(false, eval a X.env)] := by rfl) : SI X tg (.Call (.Name "range" p) [a] [] pos) (iRng1 tas) (dRng1 da) := by
  obtain ⟨pa, s⟩ := ha
  refine ⟨pi_range1 hg hm pa hs, fun σ H F S ρ P R o l h q => s σ H F S ρ _ _ o l h fun vs rs F1 H1 S1 x1 o1 z1 p1 => ?_⟩
  match rs, z1, p1 with
  | [.dat (.int n)], z1, p1 =>
    exact ⟨n, z1.int1, by have := p1.1; omega, by have := p1.2.1; omega, q _ _ F1 H1 S1 x1 o1 (walks_range 0 _) p1.2.2⟩
theorem si_rng2 {tg : Expr} {da : DA} {p : Pos} (hg : Gl X "range") (hm : X.mg "range" = none) (ha : SA X [a, b] tas da) (hs : starEach [a, b] X.env = [(false, eval a X.env), (false, eval b X.env)] := by rfl) (hs2 : starEach [b] X.env = [(false, eval b X.env)] := by rfl) :
    SI X tg (.Call (.Name "range" p) [a, b] [] pos) (iRng2 tas) (dRng2 da) := by
  obtain ⟨pa, s⟩ := ha
  refine ⟨pi_range2 hg hm pa hs hs2, fun σ H F S ρ P R o l h q => s σ H F S ρ _ _ o l h fun vs rs F1 H1 S1 x1 o1 z1 p1 => ?_⟩
  match rs, z1, p1 with
  | [.dat (.int i), .dat (.int j)], z1, p1 =>
    exact ⟨i, j, z1.int2, ⟨by have := p1.1; omega, by have := p1.2.1; omega, by have := p1.2.2.1; omega, by have := p1.2.2.2.1; omega⟩, q _ _ F1 H1 S1 x1 o1 (walks_range i _) p1.2.2.2.2⟩

/-! ### for -/
def dLoop (g : DG) (body : DS) (D : DEnds) : List PyData → Vrs → Sto → Prop
  | [], ρ, S => D.nx ρ S
  | x :: xs, ρ, S => g (.dat x) ρ S fun ρ1 S1 => body { nx := dLoop g body D xs, rt := D.rt, bk := D.nx, ct := dLoop g body D xs } ρ1 S1
def dFor (di : DI) (g : DG) (body : DS) : DS := fun D ρ S => di ρ S fun xs S1 => dLoop g body D xs ρ S1
theorem ss_for {tg iter : Expr} {body : List Stmt} {di : DI} {g : DG} (hp : PassesOwn (model X.prog X.w) X.A X.env X.xe) (hc : X.calm = true) (hi : SI X tg iter wi di) (hg : SG X tg gT g) (hb : SB X body ts ds)
    (hs : ∀ x, foldedSetIterable iter X.env x = pure x := by intro _; rfl) : SS X (.For tg iter body [] pos) (tFor wi gT ts) (dFor di g ds) := by
  obtain ⟨pi, si⟩ := hi
  obtain ⟨pg, sg⟩ := hg
  obtain ⟨pb, sb⟩ := hb
  refine ⟨ps_for hp hc pi pg pb hs, fun σ H F S ρ D E o l m h => si σ H F S ρ _ _ o l h fun J xs F1 H1 S1 x1 o1 wk p1 => ?_⟩
  refine ⟨fun i n σ' H' => n = xs.length - i ∧ i ≤ xs.length ∧ ∃ F' S' ρ', Ext F1 F' ∧ Ok X.K F' H' S' ∧ SlotsOk X.K F' σ' ρ' ∧ dLoop g ds D (xs.drop i) ρ' S',
    ⟨xs.length, by omega, Nat.zero_le _, F1, S1, ρ, Ext.refl F1, o1, l.mono x1, p1⟩, ?_⟩
  rintro i n σ' H' ⟨rfl, hi, F', S', ρ', x', o', l', h'⟩
  by_cases hlt : i < xs.length
  · refine Or.inr ⟨wk.go i F' H' S' x' o' hlt, fun σ2 H2 => ∃ F2 S2 ρ2, Ext F1 F2 ∧ Ok X.K F2 H2 S2 ∧ SlotsOk X.K F2 σ2 ρ2 ∧ dLoop g ds D (xs.drop (i + 1)) ρ2 S2, ?_, ?_⟩
    · rintro σ2 H2 ⟨F2, S2, ρ2, q⟩
      exact ⟨xs.length - (i + 1), by omega, rfl, hlt, F2, S2, ρ2, q⟩
    · intro v H2 y
      have hd : xs[i]? = some xs[i] := List.getElem?_eq_getElem hlt
      obtain ⟨G, xG, oG, z⟩ := wk.yld i F' H' S' v H2 _ x' o' hd y
      rw [List.drop_eq_getElem_cons hlt] at h'
      refine sg v σ' H2 G S' _ ρ' _ _ oG (l'.mono xG) (RAt.d z) h' fun σ3 ρ3 F3 H3 S3 x3 o3 l3 p3 => ?_
      refine sb σ3 H3 F3 S3 ρ3 _ _ o3 l3 ⟨?_, ?_, ?_, ?_⟩ p3
      · exact fun σ4 ρ4 F4 H4 S4 x4 o4 l4 p4 => ⟨F4, S4, ρ4, ((x'.trans xG).trans x3).trans x4, o4, l4, p4⟩
      · exact fun v r F4 H4 S4 x4 o4 z4 p4 => m.rt v r F4 H4 S4 ((((x1.trans x').trans xG).trans x3).trans x4) o4 z4 p4
      · exact fun σ4 ρ4 F4 H4 S4 x4 o4 l4 p4 => m.nx σ4 ρ4 F4 H4 S4 ((((x1.trans x').trans xG).trans x3).trans x4) o4 l4 p4
      · exact fun σ4 ρ4 F4 H4 S4 x4 o4 l4 p4 => ⟨F4, S4, ρ4, ((x'.trans xG).trans x3).trans x4, o4, l4, p4⟩
  · have ei : i = xs.length := by omega
    refine Or.inl ⟨wk.stop i F' H' S' x' o' (by omega), ?_⟩
    rw [ei, List.drop_length] at h'
    exact m.nx σ' ρ' F' H' S' (x1.trans x') o' l' h'
end
end Lo

/-! Own layer, part E: own calls, comprehensions, operators. -/
namespace Lo
open PySem PySem.Spec PyProof.Rows L2

/-! ### own calls -/
/-- what a def promises, over data -/
abbrev DSp := List Res → Sto → PK → Prop
/-- .. as a promise over the heap -/
def lift (K : PySem.W.Frag) (n : Nat) (d : DSp) : Sp := fun vs H Q _ => vs.length = n ∧ ∃ (F : Hp) (S : Sto) (rs : List Res) (P : PK), Ok K F H S ∧ RAll K F vs rs ∧ d rs S P ∧
  ∀ v r F' H' S', Ext F F' → Ok K F' H' S' → RAt K F' v r → P r S' → Q v H'
def startR (n : Nat) (rs : List Res) : Vrs := rs.map some ++ List.replicate (n - rs.length) none
theorem start_ok {K : PySem.W.Frag} {F : Hp} {N : List Str} {vs : List V} {rs : List Res} (h : RAll K F vs rs) : SlotsOk K F (start N vs) (startR N.length rs) := by
  unfold L2.start startR
  rw [h.length]
  generalize N.length - rs.length = m
  induction h with
  | nil =>
    simp only [List.map_nil, List.nil_append]
    induction m with
    | zero => exact .nil
    | succ m ih => exact .cons trivial ih
  | cons a t ih => exact .cons a ih
section
variable {P : Program} {w : World} {K : PySem.W.Frag} {mg : Str → Option Value} {base : Heap}
/-- the promise of a def, by its body over data -/
theorem def_ok {x qual : Str} {st : Stmt} {f : Addr} {fd : FuncData} {N ps : List Str} {k : Nat} {d : DSp} {ds : DS} (F : Fun K x qual st f fd) (S : FnScope N ps (defScope st))
    (hb : ∀ (cdv : Value) (A : Around) (outer : List Env) (s : Shared) (H : Hp), Room k (A.deeper (envOfC qual (defScope st) s.heap.objs.size f cdv)) → A.guards = some [] →
      ∃ ts : TS, SB (cxOf CX0 P w K mg base N qual (defScope st) f cdv A outer s H E0).nox (defBody st) ts ds)
    (hd : ∀ (rs : List Res) (St : Sto) (Pk : PK), rs.length = ps.length → d rs St Pk → ds { nx := fun _ S' => Pk (.dat .none) S', rt := Pk } (startR N.length rs) St) :
    FnG P w K mg base (k + 1) f fd ps (lift K ps.length d) := by
  refine FnG.ok F S (fun vs H Q E h => h.1) (fun cdv A outer s H vs Q hr hG h => ?_)
  obtain ⟨ts, pb, sb⟩ := hb cdv A outer s H hr hG
  refine ⟨ts, pb, ?_⟩
  obtain ⟨hn, F0, St, rs, Pk, o, z, q, k⟩ := h
  refine sb _ H F0 St _ _ _ o (start_ok z) ⟨?_, ?_, ?_, ?_⟩ (hd rs St Pk (z.length.symm.trans hn) q)
  · exact fun σ ρ F' H' S' x o' l p => k _ _ F' H' S' x o' (RAt.d .non) p
  · exact fun v r F' H' S' x o' z p => k v r F' H' S' x o' z p
  · exact fun σ ρ F' H' S' x o' l p => p.elim
  · exact fun σ ρ F' H' S' x o' l p => p.elim
end
section
variable {X : Cx} {k : Nat} {f : Addr} {fd : FuncData} {ps : List Str} {d : DSp} {x : Str} {p pos : Pos} {e : Expr} {es : List Expr} {ta : TA} {da : DA}
def dCall (d : DSp) (da : DA) : DE := fun ρ S P => da ρ S fun rs S1 => d rs S1 P
def tCallD (K : PySem.W.Frag) (n : Nat) (d : DSp) (ta : TA) : TE := fun σ H Q => ta σ H fun vs H1 => lift K n d vs H1 Q E0
theorem se_call {n : Nat} (F : FnG X.prog X.w X.K X.mg X.base k f fd ps (lift X.K n d)) (hr : Room k X.A) (hG : X.A.guards = some []) (hm : X.mg x = some (.ref f)) (hk : PySem.W.keepIn X.K (.ref f) = true)
    (hb : Binds X.K fd ps []) (ha : SA X (e :: es) ta da) (hn : ∀ {ρ S P}, da ρ S P → da ρ S fun rs S1 => rs.length = n ∧ P rs S1) (hg : Gl X x := by rfl) (hdb : (x == ("__debug__" : Str)) = false := by decide)
    (he : starEach (e :: es) X.env = (false, eval e X.env) :: starEach es X.env := by rfl) (hpl : (backTo pos (starEach es X.env)).any (·.1) = false := by rfl) :
    SE X (.Call (.Name x p) (e :: es) [] pos) (tCallD X.K n d ta) (dCall d da) := by
  obtain ⟨pa, sa⟩ := ha
  refine ⟨callG F hr hG hg hm hk hb pa hdb he hpl, fun σ H F S ρ P Q o l h q => ?_⟩
  refine sa σ H F S ρ _ _ o l (hn h) fun vs rs F1 H1 S1 x1 o1 z1 p1 => ?_
  exact ⟨z1.length.trans p1.1, F1, S1, rs, P, o1, z1, p1.2, fun v r F2 H2 S2 x2 => q v r F2 H2 S2 (x1.trans x2)⟩
theorem se_call0 (F : FnG X.prog X.w X.K X.mg X.base k f fd ps (lift X.K 0 d)) (hr : Room k X.A) (hG : X.A.guards = some []) (hm : X.mg x = some (.ref f)) (hk : PySem.W.keepIn X.K (.ref f) = true)
    (hb : Binds X.K fd ps []) (hg : Gl X x := by rfl) (hdb : (x == ("__debug__" : Str)) = false := by decide) :
    SE X (.Call (.Name x p) [] [] pos) (fun _ H Q => lift X.K 0 d [] H Q E0) (fun _ S P => d [] S P) := by
  refine ⟨callG0 F hr hG hg hm hk hb hdb, fun σ H F S ρ P Q o l h q => ?_⟩
  exact ⟨rfl, F, S, [], P, o, .nil, h, q⟩
/-- a promise that is asked of the length of its arguments -/
theorem len_nil {ρ : Vrs} {S : Sto} {P : List Res → Sto → Prop} (h : dNil ρ S P) : dNil ρ S fun rs S1 => rs.length = 0 ∧ P rs S1 := ⟨rfl, h⟩
end

/-! ### comprehensions -/
def wipeR (ρ : Vrs) : List Nat → Vrs
  | [] => ρ
  | v :: vs => (wipeR ρ vs).set v none
theorem wipe_ok {K : PySem.W.Frag} {F : Hp} {σ : L2.St} {ρ : Vrs} (h : SlotsOk K F σ ρ) : ∀ vs : List Nat, SlotsOk K F (wipe σ vs) (wipeR ρ vs)
  | [] => h
  | v :: vs => (wipe_ok h vs).unset v
theorem wipe_set {σ : L2.St} {i : Nat} {x : Option V} : ∀ {vs : List Nat}, i ∈ vs → wipe (σ.set i x) vs = wipe σ vs := by
  intro vs h
  refine List.ext_getElem? fun j => ?_
  have len : ∀ (τ : L2.St), (wipe τ vs).length = τ.length := fun τ => wipe_length τ vs
  have key : ∀ (τ : L2.St) (us : List Nat) (j : Nat), (wipe τ us)[j]? = if j ∈ us then (if j < τ.length then some none else none) else τ[j]? := by
    intro τ us
    induction us with
    | nil => intro j; simp [wipe]
    | cons v us ih =>
      intro j
      unfold wipe
      by_cases hj : v = j
      · subst hj
        by_cases hl : v < τ.length
        · rw [List.getElem?_set_self (by rw [wipe_length]; exact hl)]
          simp [hl]
        · rw [List.getElem?_eq_none (by rw [List.length_set, wipe_length]; omega)]
          simp [hl]
      · rw [List.getElem?_set_ne hj, ih j]
        have : (j ∈ v :: us) ↔ (j ∈ us) := by
          rw [List.mem_cons]
          exact ⟨fun z => z.elim (fun q => absurd q.symm hj) id, Or.inr⟩
        by_cases hm : j ∈ us
        · rw [if_pos hm, if_pos (this.mpr hm)]
        · rw [if_neg hm, if_neg (fun z => hm (this.mp z))]
  rw [key, key]
  by_cases hj : j ∈ vs
  · simp [hj]
  · have hne : i ≠ j := fun z => hj (z ▸ h)
    simp [hj, List.getElem?_set_ne hne]
/-- a target within a comprehension: it turns the block's own slots alone -/
def SGc (X : Cx) (vs : List Nat) (tg : Expr) (g : TG) (dg : DG) : Prop := PG X tg g ∧ ∀ (v : V) (σ : L2.St) (H F : Hp) (S : Sto) (r : Res) (ρ : Vrs) (P : Vrs → Sto → Prop) (Q : L2.St → Hp → Prop),
  Ok X.K F H S → SlotsOk X.K F σ ρ → RAt X.K F v r → dg r ρ S P →
  (∀ σ' ρ' F' H' S', wipe σ' vs = wipe σ vs → Ext F F' → Ok X.K F' H' S' → SlotsOk X.K F' σ' ρ' → P ρ' S' → Q σ' H') → g v σ H Q
def SGcs (X : Cx) (vs : List Nat) (tgs : List Expr) (g : TGs) (dg : DGs) : Prop := PGs X tgs g ∧ ∀ (us : List V) (σ : L2.St) (H F : Hp) (S : Sto) (rs : List Res) (ρ : Vrs) (P : Vrs → Sto → Prop) (Q : L2.St → Hp → Prop),
  Ok X.K F H S → SlotsOk X.K F σ ρ → RAll X.K F us rs → dg rs ρ S P →
  (∀ σ' ρ' F' H' S', wipe σ' vs = wipe σ vs → Ext F F' → Ok X.K F' H' S' → SlotsOk X.K F' σ' ρ' → P ρ' S' → Q σ' H') → g us σ H Q
section
variable {X : Cx} {e : Expr} {es : List Expr} {pos : Pos} {vs : List Nat} {gT : TG} {gTs : TGs}
theorem sgc_name {i : Nat} {x : Str} (hN : X.N.Nodup) (hi : X.N[i]? = some x := by rfl) (hv : i ∈ vs := by decide) (hx : Loc X.env.scope x := by first | exact Or.inl rfl | exact Or.inr rfl)
    (hf : X.fn x = true ∨ X.env.scope.names.lookup x = some .local := by first | exact .inl rfl | exact .inr rfl | assumption) : SGc X vs (.Name x pos) (gName i) (dName i) :=
  ⟨pg_name hN hi hx hf, fun v σ H F S r ρ P Q o l z h q => q _ _ F H S (wipe_set hv) (Ext.refl F) o (l.set i z) h⟩
theorem sgcs_nil : SGcs X vs [] gNil dGNil := ⟨pgs_nil, fun us σ H F S rs ρ P Q o l z h q => by
  obtain ⟨e, h⟩ := h
  subst e
  cases z
  exact ⟨rfl, q _ _ F H S rfl (Ext.refl F) o l h⟩⟩
theorem sgcs_cons {g : DG} {gs : DGs} (h : SGc X vs e gT g) (t : SGcs X vs es gTs gs) (hs : (assignEach (e :: es) X.env).map (·.2) = assign e X.env :: (assignEach es X.env).map (·.2) := by rfl) : SGcs X vs (e :: es) (gCons gT gTs) (dGCons g gs) := by
  obtain ⟨p1, s1⟩ := h
  obtain ⟨p2, s2⟩ := t
  refine ⟨pgs_cons p1 p2 hs, fun us σ H F S rs ρ P Q o l z h q => ?_⟩
  cases z with
  | nil => exact h.elim
  | cons z0 zr =>
    refine ⟨_, _, rfl, s1 _ σ H F S _ ρ _ _ o l z0 h fun σ1 ρ1 F1 H1 S1 w1 x1 o1 l1 p1 => ?_⟩
    exact s2 _ σ1 H1 F1 S1 _ ρ1 _ _ o1 l1 (zr.mono x1) p1 fun σ2 ρ2 F2 H2 S2 w2 x2 => q σ2 ρ2 F2 H2 S2 (w2.trans w1) (x1.trans x2)
theorem sgc_tup {gs : DGs} {k n : Nat} (hc : X.calm = true) (h : SGcs X vs es gTs gs) (hn : (assignEach es X.env).length = n := by rfl) (hst : (assignEach es X.env).findIdx? (·.1) = none := by rfl) : SGc X vs (.Tuple es k pos) (gTup X.K n gTs) (dGTup gs n) := by
  obtain ⟨p, s⟩ := h
  refine ⟨pg_tup hc p hn hst, fun v σ H F S r ρ P Q o l z h q => ?_⟩
  cases r with
  | loc a => exact h.elim
  | dat d =>
    cases d with
    | tuple ds =>
      cases z with
      | tup hs ha => exact ⟨_, _, rfl, o.ext.t hs, by rw [ha.length]; exact h.1, s _ σ H F S _ ρ P Q o l ha.rall h.2 q⟩
    | _ => exact h.elim
/-- the tests of a clause -/
def STs (X : Cx) (ifs : List Expr) (tt : TT) (dt : DT) : Prop := PTs X ifs tt ∧ ∀ (σ : L2.St) (H F : Hp) (S : Sto) (ρ : Vrs) (P : Bool → Sto → Prop) (Q : Bool → Hp → Prop),
  Ok X.K F H S → SlotsOk X.K F σ ρ → dt ρ S P → (∀ b F' H' S', Ext F F' → Ok X.K F' H' S' → P b S' → Q b H') → tt σ H Q
def dYes : DT := fun _ S P => P true S
theorem sts_nil : STs X [] tYes dYes := ⟨pts_nil, fun σ H F S ρ P Q o l h q => q true F H S (Ext.refl F) o h⟩
theorem sts_one {tt : TT} {dt : DT} (h : ST X e tt dt) : STs X [e] tt dt := ⟨pts_one h.1, h.2⟩
/-- the block, item by item; the new list stands at p while it is made -/
def dCmp (g : DG) (t : DT) (de : DE) (ρ : Vrs) (p : Addr) : List PyData → List PyData → Sto → (List PyData → Sto → Prop) → Prop
  | [], acc, S, P => S p = some (.lst acc) ∧ P acc (gone S p)
  | x :: xs, acc, S, P => g (.dat x) ρ S fun ρ1 S1 => t ρ1 S1 fun b S2 =>
    if b = true then de ρ1 S2 fun r S3 => match r with
      | .dat d => S3 p = some (.lst acc) ∧ acc.length < 1000000 ∧ dCmp g t de ρ p xs (acc ++ [d]) (put S3 p (.lst (acc ++ [d]))) P
      | .loc _ => False
    else dCmp g t de ρ p xs acc S2 P
def dLc (di : DI) (g : DG) (t : DT) (de : DE) (vs : List Nat) : DE := fun ρ S P => di ρ S fun xs S1 => ∀ p, S1 p = none → dCmp g t de (wipeR ρ vs) p xs [] (put S1 p (.lst [])) fun acc S2 => P (.dat (.list acc)) S2
theorem sim_lc {K : PySem.W.Frag} {wi : TI} {g : TG} {tt : TT} {te : TE} {di : DI} {dg : DG} {dt : DT} {de : DE}
    (si : ∀ (σ : L2.St) (H F : Hp) (S : Sto) (ρ : Vrs) (P : List PyData → Sto → Prop) (R : It → Hp → Prop), Ok K F H S → SlotsOk K F σ ρ → di ρ S P → (∀ J xs F' H' S', Ext F F' → Ok K F' H' S' → Walks K J F' xs → P xs S' → R J H') → wi σ H R)
    (sg : ∀ (v : V) (σ : L2.St) (H F : Hp) (S : Sto) (r : Res) (ρ : Vrs) (P : Vrs → Sto → Prop) (Q : L2.St → Hp → Prop), Ok K F H S → SlotsOk K F σ ρ → RAt K F v r → dg r ρ S P →
      (∀ σ' ρ' F' H' S', wipe σ' vs = wipe σ vs → Ext F F' → Ok K F' H' S' → SlotsOk K F' σ' ρ' → P ρ' S' → Q σ' H') → g v σ H Q)
    (st : ∀ (σ : L2.St) (H F : Hp) (S : Sto) (ρ : Vrs) (P : Bool → Sto → Prop) (Q : Bool → Hp → Prop), Ok K F H S → SlotsOk K F σ ρ → dt ρ S P → (∀ b F' H' S', Ext F F' → Ok K F' H' S' → P b S' → Q b H') → tt σ H Q)
    (se : ∀ (σ : L2.St) (H F : Hp) (S : Sto) (ρ : Vrs) (P : PK) (Q : VK), Ok K F H S → SlotsOk K F σ ρ → de ρ S P → (∀ v r F' H' S', Ext F F' → Ok K F' H' S' → RAt K F' v r → P r S' → Q v H') → te σ H Q)
    (σ : L2.St) (H F : Hp) (S : Sto) (ρ : Vrs) (P : PK) (Q : VK) (o : Ok K F H S) (l : SlotsOk K F σ ρ) (h : dLc di dg dt de vs ρ S P)
    (q : ∀ v r F' H' S', Ext F F' → Ok K F' H' S' → RAt K F' v r → P r S' → Q v H') : tLc wi g tt te vs σ H Q := by
  refine si σ H F S ρ _ _ o l h fun J xs F1 H1 S1 x1 o1 wk p1 => ?_
  intro D hD
  have f1 := o1.free hD
  have h1 := p1 D f1.2
  have oD : Ok K F1 (upd H1 D (.lst [])) (put S1 D (.lst [])) := o1.newS (c := .lst []) hD ⟨[], upd_same, .nil⟩
  have wl := wipe_ok (l.mono x1) vs
  refine ⟨fun i n H' => n = xs.length - i ∧ i ≤ xs.length ∧ ∃ F' S' acc, Ext F1 F' ∧ Ok K F' H' S' ∧ dCmp dg dt de (wipeR ρ vs) D (xs.drop i) acc S' (fun acc S2 => P (.dat (.list acc)) S2), ⟨xs.length, by omega, Nat.zero_le _, F1, _, [], Ext.refl F1, oD, h1⟩, ?_⟩
  rintro i n H' ⟨rfl, hi, F', S', acc, x', o', h'⟩
  by_cases hlt : i < xs.length
  · refine Or.inr ⟨wk.go i F' H' S' x' o' hlt, fun H2 => ∃ F2 S2 acc2, Ext F1 F2 ∧ Ok K F2 H2 S2 ∧ dCmp dg dt de (wipeR ρ vs) D (xs.drop (i + 1)) acc2 S2 (fun acc S2 => P (.dat (.list acc)) S2), ?_, ?_⟩
    · rintro H2 ⟨F2, S2, acc2, q2⟩
      exact ⟨xs.length - (i + 1), by omega, rfl, hlt, F2, S2, acc2, q2⟩
    · intro v H2 y
      obtain ⟨G, xG, oG, z⟩ := wk.yld i F' H' S' v H2 _ x' o' (List.getElem?_eq_getElem hlt) y
      rw [List.drop_eq_getElem_cons hlt] at h'
      refine sg v (wipe σ vs) H2 G S' _ (wipeR ρ vs) _ _ oG (wl.mono (x'.trans xG)) (RAt.d z) h' fun σ3 ρ3 F3 H3 S3 w3 x3 o3 l3 p3 => ?_
      refine ⟨?_, ?_⟩
      · rw [w3]
        have ww : ∀ (us : List Nat) (τ : L2.St), (∀ u ∈ us, ∀ y, (τ[u]? = some y → y = none)) → wipe τ us = τ := by
          intro us
          induction us with
          | nil => intro τ _; rfl
          | cons u us ih =>
            intro τ hτ
            unfold wipe
            rw [ih τ (fun u hu => hτ u (List.mem_cons_of_mem _ hu))]
            refine List.ext_getElem? fun j => ?_
            by_cases hj : u = j
            · subst hj
              by_cases hl : u < τ.length
              · rw [List.getElem?_set_self hl]
                cases e : τ[u]? with
                | none => rw [List.getElem?_eq_none_iff] at e; omega
                | some y => rw [hτ u (List.mem_cons_self ..) y e]
              · rw [List.getElem?_eq_none (by rw [List.length_set]; omega), List.getElem?_eq_none (by omega)]
            · rw [List.getElem?_set_ne hj]
        refine ww vs (wipe σ vs) fun u hu y e => ?_
        cases y with
        | none => rfl
        | some y => exact absurd hu (wipe_some e).2
      · refine st σ3 H3 F3 S3 ρ3 _ _ o3 l3 p3 fun b F4 H4 S4 x4 o4 p4 => ?_
        cases b with
        | false => exact ⟨F4, S4, acc, ((x'.trans xG).trans x3).trans x4, o4, p4⟩
        | true =>
          refine se σ3 H4 F4 S4 ρ3 _ _ o4 (l3.mono x4) p4 fun v r F5 H5 S5 x5 o5 z5 p5 => ?_
          cases r with
          | loc a => exact p5.elim
          | dat d =>
            obtain ⟨e5, hz, p5⟩ := p5
            obtain ⟨_, us, eH, aH⟩ := o5.sto D _ e5
            refine ⟨us, eH, by rw [aH.length, sizeLine_eq]; omega, F5, _, acc ++ [d], (((x'.trans xG).trans x3).trans x4).trans x5, ?_, p5⟩
            exact o5.write (c := .lst (acc ++ [d])) e5 ⟨us ++ [v], upd_same, aH.append (.cons z5 .nil)⟩
  · have ei : i = xs.length := by omega
    refine Or.inl ⟨wk.stop i F' H' S' x' o' (by omega), ?_⟩
    rw [ei, List.drop_length] at h'
    obtain ⟨e, hp⟩ := h'
    obtain ⟨G, xG, oG, z⟩ := o'.freeze e
    exact q _ _ G H' _ ((x1.trans x').trans xG) oG (RAt.d z) hp
theorem se_lc {elt tg iter : Expr} {ifs : List Expr} {scope : Scope} {own : List (Str × Nat)} {wi : TI} {g : Shared → Hp → Addr → List (Str × Addr) → List Addr → TG} {tt : Shared → Hp → Addr → List (Str × Addr) → List Addr → TT} {te : Shared → Hp → Addr → List (Str × Addr) → List Addr → TE} {di : DI} {dg : DG} {dt : DT} {de : DE} (hc : X.calm = true) (hN : X.N.Nodup) (hi : SI X tg iter wi di) (ok : BlkOk X.N X.env.scope scope own)
    (hg : ∀ (s : Shared) (H : Hp) (C : Addr) (cl : List (Str × Addr)) (fp : List Addr), SGc (X.blk s H scope (compEnvC scope cl C X.env) fp) (own.map (·.2)) tg (g s H C cl fp) dg)
    (ht : ∀ (s : Shared) (H : Hp) (C : Addr) (cl : List (Str × Addr)) (fp : List Addr), STs (X.blk s H scope (compEnvC scope cl C X.env) fp) ifs (tt s H C cl fp) dt)
    (he : ∀ (s : Shared) (H : Hp) (C : Addr) (cl : List (Str × Addr)) (fp : List Addr), SE (X.blk s H scope (compEnvC scope cl C X.env) fp) elt (te s H C cl fp) de)
    (eg : ∀ s H C cl fp, g s H C cl fp = g X.s_0 X.H_0 0 [] [] := by intro _ _ _ _ _; rfl) (et : ∀ s H C cl fp, tt s H C cl fp = tt X.s_0 X.H_0 0 [] [] := by intro _ _ _ _ _; rfl) (ee : ∀ s H C cl fp, te s H C cl fp = te X.s_0 X.H_0 0 [] [] := by intro _ _ _ _ _; rfl)
    (hs : ∀ x, foldedSetIterable iter X.env x = pure x := by intro _; rfl) :
    SE X (.ListComp elt [⟨tg, iter, ifs, 0⟩] scope pos) (tLc wi (g X.s_0 X.H_0 0 [] []) (tt X.s_0 X.H_0 0 [] []) (te X.s_0 X.H_0 0 [] []) (own.map (·.2))) (dLc di dg dt de (own.map (·.2))) :=
  ⟨pe_lc hc hN hi.1 ok (fun s H C cl fp => eg s H C cl fp ▸ (hg s H C cl fp).1) (fun s H C cl fp => et s H C cl fp ▸ (ht s H C cl fp).1) (fun s H C cl fp => ee s H C cl fp ▸ (he s H C cl fp).1) hs,
   sim_lc hi.2 (hg X.s_0 X.H_0 0 [] []).2 (ht X.s_0 X.H_0 0 [] []).2 (he X.s_0 X.H_0 0 [] []).2⟩
theorem ss_setLc {i : Nat} {y : Str} {py spos : Pos} {elt tg iter : Expr} {ifs : List Expr} {scope : Scope} {own : List (Str × Nat)} {wi : TI} {g : Shared → Hp → Addr → List (Str × Addr) → List Addr → TG} {tt : Shared → Hp → Addr → List (Str × Addr) → List Addr → TT} {te : Shared → Hp → Addr → List (Str × Addr) → List Addr → TE} {di : DI} {dg : DG} {dt : DT} {de : DE} (hc : X.calm = true) (hN : X.N.Nodup)
    (hi : SI X tg iter wi di) (ok : BlkOk X.N X.env.scope scope own)
    (hg : ∀ (s : Shared) (H : Hp) (C : Addr) (cl : List (Str × Addr)) (fp : List Addr), SGc (X.blk s H scope (compEnvC scope cl C X.env) fp) (own.map (·.2)) tg (g s H C cl fp) dg)
    (ht : ∀ (s : Shared) (H : Hp) (C : Addr) (cl : List (Str × Addr)) (fp : List Addr), STs (X.blk s H scope (compEnvC scope cl C X.env) fp) ifs (tt s H C cl fp) dt)
    (he : ∀ (s : Shared) (H : Hp) (C : Addr) (cl : List (Str × Addr)) (fp : List Addr), SE (X.blk s H scope (compEnvC scope cl C X.env) fp) elt (te s H C cl fp) de)
    (hy : X.N[i]? = some y := by rfl) (hyl : X.env.scope.names.lookup y = some .local := by rfl)
    (hsw : swapsWith (.ListComp elt [⟨tg, iter, ifs, 0⟩] scope pos) (some (.Name y py)) spos.line X.env = pure true := by exact sw_true rfl rfl rfl (by decide +kernel))
    (eg : ∀ s H C cl fp, g s H C cl fp = g X.s_0 X.H_0 0 [] [] := by intro _ _ _ _ _; rfl) (et : ∀ s H C cl fp, tt s H C cl fp = tt X.s_0 X.H_0 0 [] [] := by intro _ _ _ _ _; rfl) (ee : ∀ s H C cl fp, te s H C cl fp = te X.s_0 X.H_0 0 [] [] := by intro _ _ _ _ _; rfl)
    (hs : ∀ x, foldedSetIterable iter X.env x = pure x := by intro _; rfl) :
    SS X (.Assign [.Name y py] (.ListComp elt [⟨tg, iter, ifs, 0⟩] scope pos) spos) (tAsg (tLc wi (g X.s_0 X.H_0 0 [] []) (tt X.s_0 X.H_0 0 [] []) (te X.s_0 X.H_0 0 [] []) (own.map (·.2))) (gName i)) (dAsg (dLc di dg dt de (own.map (·.2))) (dName i)) :=
  ⟨ps_setLc hc hN hy hyl hsw hi.1 ok (fun s H C cl fp => eg s H C cl fp ▸ (hg s H C cl fp).1) (fun s H C cl fp => et s H C cl fp ▸ (ht s H C cl fp).1) (fun s H C cl fp => ee s H C cl fp ▸ (he s H C cl fp).1) hs, fun σ H F S ρ D E o l m h => by
    refine sim_lc hi.2 (hg X.s_0 X.H_0 0 [] []).2 (ht X.s_0 X.H_0 0 [] []).2 (he X.s_0 X.H_0 0 [] []).2 σ H F S ρ _ _ o l h fun v r F1 H1 S1 x1 o1 z1 p1 => ?_
    exact m.nx _ _ F1 H1 S1 x1 o1 ((l.mono x1).set i z1) p1⟩
end
end Lo

/-! Own layer, part F: operators and built-ins by values. -/
namespace Lo
open PySem PySem.Spec PyProof.Rows L2
/-- what stands there now -/
def peek (S : Sto) : Res → Option PyData
  | .dat d => some d
  | .loc a => match S a with
    | some (.lst xs) => some (.list xs)
    | _ => none
theorem peek_at {K : PySem.W.Frag} {F H : Hp} {S : Sto} {v : V} {r : Res} {d : PyData} (o : Ok K F H S) (z : RAt K F v r) (e : peek S r = some d) : DAt K H v d := by
  cases r with
  | dat d' => cases e; exact DAt.mono o.ext z
  | loc a =>
    obtain rfl : v = .ref a := z
    dsimp only [peek] at e
    cases q : S a with
    | none => rw [q] at e; cases e
    | some c =>
      rw [q] at e
      cases c with
      | lst xs =>
        cases e
        obtain ⟨_, vs, h, t⟩ := o.sto a _ q
        exact .lst h (t.mono o.ext)
      | dct xs => cases e
theorem RAt.int {K : PySem.W.Frag} {F : Hp} {v : V} {i : Int} (h : RAt K F v (.dat (.int i))) : v = .int i := by
  have h' : DAt K F v (.int i) := h
  cases h'; rfl
theorem RAt.str {K : PySem.W.Frag} {F : Hp} {v : V} {i : Str} (h : RAt K F v (.dat (.str i))) : v = .str i := by
  have h' : DAt K F v (.str i) := h
  cases h'; rfl
theorem RAt.bl {K : PySem.W.Frag} {F : Hp} {v : V} {i : Bool} (h : RAt K F v (.dat (.bool i))) : v = .bl i := by
  have h' : DAt K F v (.bool i) := h
  cases h'; rfl
theorem RAt.non {K : PySem.W.Frag} {F : Hp} {v : V} (h : RAt K F v (.dat .none)) : v = .non := by
  have h' : DAt K F v .none := h
  cases h'; rfl
section
variable {X : Cx}
/-! ### ints -/
def oI (C : Int → Int → Prop) (g : Int → Int → PyData) : DO2 := fun x y S P => match x, y with
  | .dat (.int i), .dat (.int j) => C i j ∧ P (.dat (g i j)) S
  | _, _ => False
theorem so_I {f : Value → Value → Sem Value} {C : Int → Int → Prop} {g : Int → Int → Int} (h : OpR X f (rI C fun i j => .int (g i j))) : SO X f (rI C fun i j => .int (g i j)) (oI C fun i j => .int (g i j)) :=
  ⟨h, fun x y H F S rx ry P Q o zx zy h q => by
    match rx, ry, zx, zy, h with
    | .dat (.int i), .dat (.int j), zx, zy, h => obtain rfl := zx.int; obtain rfl := zy.int; exact ⟨i, j, rfl, rfl, h.1, q _ _ F H S (Ext.refl F) o (RAt.d (.int _)) h.2⟩⟩
theorem so_I0 {f : Value → Value → Sem Value} {g : Int → Int → Int} (h : OpR X f (rI0 fun i j => .int (g i j))) : SO X f (rI0 fun i j => .int (g i j)) (oI (fun _ _ => True) fun i j => .int (g i j)) :=
  ⟨h, fun x y H F S rx ry P Q o zx zy h q => by
    match rx, ry, zx, zy, h with
    | .dat (.int i), .dat (.int j), zx, zy, h => obtain rfl := zx.int; obtain rfl := zy.int; exact ⟨i, j, rfl, rfl, q _ _ F H S (Ext.refl F) o (RAt.d (.int _)) h.2⟩⟩
theorem so_B0 {f : Value → Value → Sem Value} {g : Int → Int → Bool} (h : OpR X f (rI0 fun i j => .bl (g i j))) : SO X f (rI0 fun i j => .bl (g i j)) (oI (fun _ _ => True) fun i j => .bool (g i j)) :=
  ⟨h, fun x y H F S rx ry P Q o zx zy h q => by
    match rx, ry, zx, zy, h with
    | .dat (.int i), .dat (.int j), zx, zy, h => obtain rfl := zx.int; obtain rfl := zy.int; exact ⟨i, j, rfl, rfl, q _ _ F H S (Ext.refl F) o (RAt.d (.bl _)) h.2⟩⟩
def oSub : DO2 := oI (fun _ _ => True) fun i j => .int (i - j)
def oMul : DO2 := oI CMul fun i j => .int (i * j)
def oMod : DO2 := oI (fun _ j => 0 < j) fun i j => .int (i % j)
def oDiv : DO2 := oI CDiv fun i j => .int (i / j)
def oPow : DO2 := oI CPow fun i j => .int (i ^ j.toNat)
theorem so_sub : SO X (binaryOp .Sub) (rI0 fun i j => .int (i - j)) oSub := so_I0 op_sub
theorem so_mul : SO X (binaryOp .Mult) (rI CMul fun i j => .int (i * j)) oMul := so_I op_mul
theorem so_mod : SO X (binaryOp .Mod) (rI (fun _ j => 0 < j) fun i j => .int (i % j)) oMod := so_I op_mod
theorem so_div : SO X (binaryOp .FloorDiv) (rI CDiv fun i j => .int (i / j)) oDiv := so_I op_fdiv
theorem so_pow : SO X (binaryOp .Pow) (rI CPow fun i j => .int (i ^ j.toNat)) oPow := so_I op_pow
def oNeg : DO1 := fun x S P => match x with
  | .dat (.int i) => P (.dat (.int (-i))) S
  | _ => False
theorem su_neg : SU X (unaryOp .USub) (rU fun i => .int (-i)) oNeg :=
  ⟨un_neg, fun x H F S rx P Q o zx h q => by
    match rx, zx, h with
    | .dat (.int i), zx, h => obtain rfl := zx.int; exact ⟨i, rfl, q _ _ F H S (Ext.refl F) o (RAt.d (.int _)) h⟩⟩
/-! ### order: ints, texts -/
def rOrd (g : Int → Int → Bool) (s : Str → Str → Bool) : R2 := fun x y H Q => (∃ i j, x = .int i ∧ y = .int j ∧ Q (.bl (g i j)) H) ∨ ∃ i j, x = .str i ∧ y = .str j ∧ Q (.bl (s i j)) H
def oOrd (g : Int → Int → Bool) (s : Str → Str → Bool) : DO2 := fun x y S P => match x, y with
  | .dat (.int i), .dat (.int j) => P (.dat (.bool (g i j))) S
  | .dat (.str i), .dat (.str j) => P (.dat (.bool (s i j))) S
  | _, _ => False
theorem so_ord {f : Value → Value → Sem Value} {g : Int → Int → Bool} {s : Str → Str → Bool} (h1 : OpR X f (rI0 fun i j => .bl (g i j)))
    (h2 : OpR X f (fun x y H Q => ∃ i j, x = .str i ∧ y = .str j ∧ Q (.bl (s i j)) H)) : SO X f (rOrd g s) (oOrd g s) :=
  ⟨h1.or h2, fun x y H F S rx ry P Q o zx zy h q => by
    match rx, ry, zx, zy, h with
    | .dat (.int i), .dat (.int j), zx, zy, h => obtain rfl := zx.int; obtain rfl := zy.int; exact Or.inl ⟨i, j, rfl, rfl, q _ _ F H S (Ext.refl F) o (RAt.d (.bl _)) h⟩
    | .dat (.str i), .dat (.str j), zx, zy, h => obtain rfl := zx.str; obtain rfl := zy.str; exact Or.inr ⟨i, j, rfl, rfl, q _ _ F H S (Ext.refl F) o (RAt.d (.bl _)) h⟩⟩
def ltS (i j : Str) : Bool := decide (i.cps.toList < j.cps.toList)
def oLt : DO2 := oOrd (fun i j => decide (i < j)) ltS
def oLe : DO2 := oOrd (fun i j => decide (i ≤ j)) fun i j => !ltS j i
def oGt : DO2 := oOrd (fun i j => decide (j < i)) fun i j => ltS j i
def oGe : DO2 := oOrd (fun i j => decide (j ≤ i)) fun i j => !ltS i j
theorem so_lt : SO X (compareOp .Lt) (rOrd (fun i j => decide (i < j)) ltS) oLt := so_ord op_lt op_lt_str
theorem so_le : SO X (compareOp .LtE) (rOrd (fun i j => decide (i ≤ j)) fun i j => !ltS j i) oLe := so_ord op_le op_le_str
theorem so_gt : SO X (compareOp .Gt) (rOrd (fun i j => decide (j < i)) fun i j => ltS j i) oGt := so_ord op_gt op_gt_str
theorem so_ge : SO X (compareOp .GtE) (rOrd (fun i j => decide (j ≤ i)) fun i j => !ltS i j) oGe := so_ord op_ge op_ge_str
/-! ### equality -/
/-- of two plain values, where the layer's first rule speaks of them -/
def eqS : PyData → PyData → Option Bool
  | .none, .none => some true | .none, .int _ => some false | .int _, .none => some false | .none, .bool _ => some false | .bool _, .none => some false
  | .none, .str _ => some false | .str _, .none => some false
  | .int i, .int j => some (decide (i = j)) | .bool i, .bool j => some (decide (i = j)) | .str i, .str j => some (decide (i = j))
  | .int _, .str _ => some false | .str _, .int _ => some false | .bool _, .str _ => some false | .str _, .bool _ => some false
  | _, _ => none
theorem eqS_ok {K : PySem.W.Frag} {H : Hp} {x y : V} {d e : PyData} {b : Bool} (zx : DAt K H x d) (zy : DAt K H y e) (h : eqS d e = some b) : scal x y = true ∧ decide (x = y) = b := by
  cases zx <;> cases zy <;> simp_all [eqS, scal]
def oEq (neg : Bool) : DO2 := fun x y S P => match peek S x, peek S y with
  | some d, some e => match eqS d e with
    | some b => P (.dat (.bool (if neg then !b else b))) S
    | none => SeqAt.shaped d = true ∧ SeqAt.shaped e = true ∧ P (.dat (.bool (if neg then !PyData.eqv d e else PyData.eqv d e))) S
  | _, _ => False
theorem shaped_lay {d : PyData} (h : SeqAt.shaped d = true) : d.canLay0 = true := by
  unfold SeqAt.shaped at h
  rw [Bool.and_eq_true] at h
  exact h.1
theorem so_eq (hu : X.A.units + 64 < cLine) : SO X (compareOp .Eq) (fun x y H Q => rEq x y H Q ∨ rEqD X.K x y H Q) (oEq false) :=
  ⟨op_eq.or (op_eqD hu), fun x y H F S rx ry P Q o zx zy h q => by
    unfold oEq at h
    cases ex : peek S rx with
    | none => rw [ex] at h; exact h.elim
    | some d =>
      cases ey : peek S ry with
      | none => rw [ex, ey] at h; exact h.elim
      | some e =>
        rw [ex, ey] at h
        have dx := peek_at o zx ex
        have dy := peek_at o zy ey
        dsimp only at h
        cases es : eqS d e with
        | some b =>
          rw [es] at h
          obtain ⟨h1, h2⟩ := eqS_ok dx dy es
          refine Or.inl ⟨h1, ?_⟩
          rw [h2]
          exact q _ _ F H S (Ext.refl F) o (RAt.d (.bl _)) h
        | none =>
          rw [es] at h
          exact Or.inr ⟨d, e, dx.dp (shaped_lay h.1), dy.dp (shaped_lay h.2.1), h.1, h.2.1, q _ _ F H S (Ext.refl F) o (RAt.d (.bl _)) h.2.2⟩⟩
theorem so_ne (hu : X.A.units + 64 < cLine) : SO X (compareOp .NotEq) (fun x y H Q => rNe x y H Q ∨ rNeD X.K x y H Q) (oEq true) :=
  ⟨op_ne.or (op_neD hu), fun x y H F S rx ry P Q o zx zy h q => by
    unfold oEq at h
    cases ex : peek S rx with
    | none => rw [ex] at h; exact h.elim
    | some d =>
      cases ey : peek S ry with
      | none => rw [ex, ey] at h; exact h.elim
      | some e =>
        rw [ex, ey] at h
        have dx := peek_at o zx ex
        have dy := peek_at o zy ey
        dsimp only at h
        cases es : eqS d e with
        | some b =>
          rw [es] at h
          obtain ⟨h1, h2⟩ := eqS_ok dx dy es
          refine Or.inl ⟨h1, ?_⟩
          rw [h2]
          exact q _ _ F H S (Ext.refl F) o (RAt.d (.bl _)) h
        | none =>
          rw [es] at h
          exact Or.inr ⟨d, e, dx.dp (shaped_lay h.1), dy.dp (shaped_lay h.2.1), h.1, h.2.1, q _ _ F H S (Ext.refl F) o (RAt.d (.bl _)) h.2.2⟩⟩
/-! ### is None -/
def isNone : PyData → Bool
  | .none => true
  | _ => false
def oIs (neg : Bool) : DO2 := fun x y S P => match y with
  | .dat .none => match x with
    | .dat d => P (.dat (.bool (if neg then !isNone d else isNone d))) S
    | .loc _ => P (.dat (.bool neg)) S
  | _ => False
theorem none_iff {K : PySem.W.Frag} {F : Hp} {x : V} {d : PyData} (z : DAt K F x d) : decide (x = .non) = isNone d := by
  cases z <;> rfl
theorem so_is : SO X (compareOp .Is) (fun x y H Q => y = .non ∧ Q (.bl (decide (x = .non))) H) (oIs false) :=
  ⟨op_isN, fun x y H F S rx ry P Q o zx zy h q => by
    match rx, ry, zx, zy, h with
    | .dat d, .dat .none, zx, zy, h =>
      refine ⟨zy.non, ?_⟩
      rw [none_iff zx]
      exact q _ _ F H S (Ext.refl F) o (RAt.d (.bl _)) h
    | .loc a, .dat .none, zx, zy, h =>
      refine ⟨zy.non, ?_⟩
      obtain rfl : x = .ref a := zx
      exact q _ _ F H S (Ext.refl F) o (RAt.d (.bl _)) h⟩
theorem so_isnot : SO X (compareOp .IsNot) (fun x y H Q => y = .non ∧ Q (.bl (!decide (x = .non))) H) (oIs true) :=
  ⟨op_notN, fun x y H F S rx ry P Q o zx zy h q => by
    match rx, ry, zx, zy, h with
    | .dat d, .dat .none, zx, zy, h =>
      refine ⟨zy.non, ?_⟩
      rw [none_iff zx]
      exact q _ _ F H S (Ext.refl F) o (RAt.d (.bl _)) h
    | .loc a, .dat .none, zx, zy, h =>
      refine ⟨zy.non, ?_⟩
      obtain rfl : x = .ref a := zx
      exact q _ _ F H S (Ext.refl F) o (RAt.d (.bl _)) h⟩
/-! ### in, not in: plain items -/
def flatD : PyData → Bool
  | .none => true | .bool _ => true | .int _ => true | .str _ => true | _ => false
def eqF : PyData → PyData → Bool
  | .none, .none => true
  | .bool a, .bool b => a == b
  | .bool a, .int b => (if a then 1 else 0) == b
  | .int a, .bool b => a == (if b then 1 else 0)
  | .int a, .int b => a == b
  | .str a, .str b => a == b
  | _, _ => false
def itemsOf : PyData → Option (List PyData)
  | .list xs => some xs
  | .tuple xs => some xs
  | _ => none
theorem flat_at' {K : PySem.W.Frag} {F : Hp} {x : V} {d : PyData} (z : DAt K F x d) (h : flatD d = true) : flatV x = true := by
  cases z <;> first | rfl | exact h
theorem eqF_at {K : PySem.W.Frag} {F : Hp} {x y : V} {d e : PyData} (z : DAt K F x d) (w : DAt K F y e) : eqV x y = eqF d e := by
  cases z <;> cases w <;> rfl
theorem flat_all {K : PySem.W.Frag} {F : Hp} : ∀ {xs : List V} {ds : List PyData}, DAll K F xs ds → ds.all flatD = true → xs.all flatV = true
  | _, _, .nil, _ => rfl
  | _, _, .cons z t, h => by
    rw [List.all_cons, Bool.and_eq_true] at h ⊢
    exact ⟨flat_at' z h.1, flat_all t h.2⟩
theorem inV_all {K : PySem.W.Frag} {F : Hp} {x : V} {d : PyData} (z : DAt K F x d) : ∀ {xs : List V} {ds : List PyData}, DAll K F xs ds → inV x xs = ds.any fun y => eqF y d
  | _, _, .nil => rfl
  | _, _, .cons w t => by
    have ih := inV_all z t
    unfold inV at ih ⊢
    rw [List.any_cons, List.any_cons, ih, eqF_at w z]
def oIn (neg : Bool) : DO2 := fun x y S P => match x, (peek S y).bind itemsOf with
  | .dat d, some ds => flatD d = true ∧ ds.all flatD = true ∧ P (.dat (.bool (if neg then !ds.any (fun z => eqF z d) else ds.any fun z => eqF z d))) S
  | _, _ => False
theorem in_sim {neg : Bool} (x y : V) (H F : Hp) (S : Sto) (rx ry : Res) (P : PK) (Q : VK) (o : Ok X.K F H S) (zx : RAt X.K F x rx) (zy : RAt X.K F y ry) (h : oIn neg rx ry S P)
    (q : ∀ v r F' H' S', Ext F F' → Ok X.K F' H' S' → RAt X.K F' v r → P r S' → Q v H') : rIn X.K neg x y H Q := by
  cases rx with
  | loc a => exact h.elim
  | dat d =>
    unfold oIn at h
    cases ey : peek S ry with
    | none => rw [ey] at h; exact h.elim
    | some e =>
      rw [ey] at h
      have dy := peek_at o zy ey
      have dx : DAt X.K H x d := DAt.mono o.ext zx
      cases e with
      | list ds =>
        cases dy with
        | lst hs ha =>
          obtain ⟨f1, f2, p⟩ := h
          refine ⟨_, _, rfl, Or.inl (SqL.of hs), flat_at' dx f1, flat_all ha f2, ?_⟩
          rw [inV_all dx ha]
          exact q _ _ F H S (Ext.refl F) o (RAt.d (.bl _)) p
      | tuple ds =>
        cases dy with
        | tup hs ha =>
          obtain ⟨f1, f2, p⟩ := h
          refine ⟨_, _, rfl, Or.inr hs, flat_at' dx f1, flat_all ha f2, ?_⟩
          rw [inV_all dx ha]
          exact q _ _ F H S (Ext.refl F) o (RAt.d (.bl _)) p
      | _ => exact h.elim
theorem so_in : SO X (compareOp .In) (rIn X.K false) (oIn false) := ⟨op_in_seq, in_sim⟩
theorem so_notin : SO X (compareOp .NotIn) (rIn X.K true) (oIn true) := ⟨op_notIn_seq, in_sim⟩
/-! ### calls of built-ins -/
variable {e a b : Expr} {es : List Expr} {te ta tb : TE} {tas : TA} {r2 : R2} {rc : List V → Hp → VK → Prop} {de da db : DE} {ds : DA} {oc : DC} {id T : String} {x : Str} {p pos : Pos}
def dCB (o : DC) (da : DA) : DE := fun ρ S P => da ρ S fun rs S1 => o rs S1 P
theorem se_cb (hc : SC X (.builtin id) rc oc) (hm : X.mg x = none) (hv : bootBuiltins x = some (.builtin id)) (ha : SA X (e :: es) tas ds) (hg : Gl X x := by rfl) (hn : x ≠ "__name__" := by decide) (hdb : (x == ("__debug__" : Str)) = false := by decide)
    (he : starEach (e :: es) X.env = (false, eval e X.env) :: starEach es X.env := by rfl) (hpl : (backTo pos (starEach es X.env)).any (·.1) = false := by rfl) : SE X (.Call (.Name x p) (e :: es) [] pos) (tCB rc tas) (dCB oc ds) := by
  obtain ⟨pc, sc⟩ := hc
  obtain ⟨pa, sa⟩ := ha
  refine ⟨pe_callB pc hg hm hv pa hn hdb he hpl, fun σ H F S ρ P Q o l h q => sa σ H F S ρ _ _ o l h fun vs rs F1 H1 S1 x1 o1 z1 p1 => ?_⟩
  exact sc vs H1 F1 S1 rs P Q o1 z1 p1 fun v r F2 H2 S2 x2 => q v r F2 H2 S2 (x1.trans x2)
theorem se_ct (hc : SC X (.type T) rc oc) (hm : X.mg x = none) (hv : bootBuiltins x = some (.type T)) (ha : SA X (e :: es) tas ds) (hg : Gl X x := by rfl) (hn : x ≠ "__name__" := by decide) (hdb : (x == ("__debug__" : Str)) = false := by decide)
    (he : starEach (e :: es) X.env = (false, eval e X.env) :: starEach es X.env := by rfl) (hpl : (backTo pos (starEach es X.env)).any (·.1) = false := by rfl) : SE X (.Call (.Name x p) (e :: es) [] pos) (tCB rc tas) (dCB oc ds) := by
  obtain ⟨pc, sc⟩ := hc
  obtain ⟨pa, sa⟩ := ha
  refine ⟨pe_callTy pc hg hm hv pa hn hdb he hpl, fun σ H F S ρ P Q o l h q => sa σ H F S ρ _ _ o l h fun vs rs F1 H1 S1 x1 o1 z1 p1 => ?_⟩
  exact sc vs H1 F1 S1 rs P Q o1 z1 p1 fun v r F2 H2 S2 x2 => q v r F2 H2 S2 (x1.trans x2)
/-- len -/
def lenD : PyData → Option Nat
  | .str x => some x.length
  | .list xs => some xs.length
  | .tuple xs => some xs.length
  | _ => none
def cLen : DC := fun rs S P => match rs with
  | [r] => match (peek S r) with
    | some (.str x) => x.length ≤ 1000000 ∧ P (.dat (.int x.length)) S
    | some d => match lenD d with
      | some n => P (.dat (.int n)) S
      | none => False
    | none => False
  | _ => False
theorem sc_len : SC X (.builtin "len") (fun xs H Q => ∃ x n, xs = [x] ∧ LenV X.K x H n ∧ Q (.int n) H) cLen :=
  ⟨call_len, fun xs H F S rs P Q o z h q => by
    match rs, xs, z, h with
    | [r], [v], .cons z .nil, h =>
      unfold cLen at h
      dsimp only at h
      cases e : peek S r with
      | none => rw [e] at h; exact h.elim
      | some d =>
        rw [e] at h
        have dz := peek_at o z e
        cases d with
        | str y =>
          cases dz
          exact ⟨_, _, rfl, ⟨szl h.1, rfl⟩, q _ _ F H S (Ext.refl F) o (RAt.d (.int _)) h.2⟩
        | list ys =>
          cases dz with
          | lst hs ha =>
            refine ⟨_, _, rfl, Or.inl ⟨_, SqL.of hs, rfl⟩, ?_⟩
            rw [ha.length]
            exact q _ _ F H S (Ext.refl F) o (RAt.d (.int _)) h
        | tuple ys =>
          cases dz with
          | tup hs ha =>
            refine ⟨_, _, rfl, Or.inr ⟨_, hs, rfl⟩, ?_⟩
            rw [ha.length]
            exact q _ _ F H S (Ext.refl F) o (RAt.d (.int _)) h
        | _ => exact h.elim⟩
/-- int(..) of an int, a bool -/
def cInt : DC := fun rs S P => match rs with
  | [.dat (.int i)] => P (.dat (.int i)) S
  | [.dat (.bool k)] => P (.dat (.int (if k then 1 else 0))) S
  | _ => False
theorem sc_int : SC X (.type "int") (fun xs H Q => (∃ i, xs = [.int i] ∧ Q (.int i) H) ∨ ∃ k, xs = [.bl k] ∧ Q (.int (if k then 1 else 0)) H) cInt :=
  ⟨call_int1, fun xs H F S rs P Q o z h q => by
    match rs, xs, z, h with
    | [.dat (.int i)], [_], .cons z .nil, h => obtain rfl := z.int; exact Or.inl ⟨i, rfl, q _ _ F H S (Ext.refl F) o (RAt.d (.int _)) h⟩
    | [.dat (.bool k)], [_], .cons z .nil, h => obtain rfl := z.bl; exact Or.inr ⟨k, rfl, q _ _ F H S (Ext.refl F) o (RAt.d (.int _)) h⟩⟩
def cOrd : DC := fun rs S P => match rs with
  | [.dat (.str x)] => x.length = 1 ∧ P (.dat (.int (x.cps.getD 0 0 : Nat))) S
  | _ => False
theorem sc_ord : SC X (.builtin "ord") (fun xs H Q => ∃ x, xs = [.str x] ∧ x.length = 1 ∧ Q (.int (x.cps.getD 0 0 : Nat)) H) cOrd :=
  ⟨call_ord, fun xs H F S rs P Q o z h q => by
    match rs, xs, z, h with
    | [.dat (.str x)], [_], .cons z .nil, h => obtain rfl := z.str; exact ⟨x, rfl, h.1, q _ _ F H S (Ext.refl F) o (RAt.d (.int _)) h.2⟩⟩
def cMax : DC := fun rs S P => match rs with
  | [.dat (.int i), .dat (.int j)] => P (.dat (.int (if j > i then j else i))) S
  | _ => False
def cMin : DC := fun rs S P => match rs with
  | [.dat (.int i), .dat (.int j)] => P (.dat (.int (if j < i then j else i))) S
  | _ => False
theorem sc_max (hc : X.calm = true) : SC X (.builtin "max") (fun xs H Q => ∃ i j, xs = [.int i, .int j] ∧ Q (.int (if j > i then j else i)) H) cMax :=
  ⟨call_max2 hc, fun xs H F S rs P Q o z h q => by
    match rs, xs, z, h with
    | [.dat (.int i), .dat (.int j)], [_, _], .cons z1 (.cons z2 .nil), h => obtain rfl := z1.int; obtain rfl := z2.int; exact ⟨i, j, rfl, q _ _ F H S (Ext.refl F) o (RAt.d (.int _)) h⟩⟩
theorem sc_min (hc : X.calm = true) : SC X (.builtin "min") (fun xs H Q => ∃ i j, xs = [.int i, .int j] ∧ Q (.int (if j < i then j else i)) H) cMin :=
  ⟨call_min2 hc, fun xs H F S rs P Q o z h q => by
    match rs, xs, z, h with
    | [.dat (.int i), .dat (.int j)], [_, _], .cons z1 (.cons z2 .nil), h => obtain rfl := z1.int; obtain rfl := z2.int; exact ⟨i, j, rfl, q _ _ F H S (Ext.refl F) o (RAt.d (.int _)) h⟩⟩
/-- all, any of a list of bools -/
def boolsOf : List PyData → Option (List Bool)
  | [] => some []
  | .bool b :: ds => (boolsOf ds).map (b :: ·)
  | _ :: _ => none
theorem boolsOf_eq : ∀ {ds : List PyData} {bs : List Bool}, boolsOf ds = some bs → ds = bs.map PyData.bool
  | [], bs, h => by cases h; rfl
  | d :: ds, bs, h => by
    cases d with
    | bool b =>
      unfold boolsOf at h
      cases e : boolsOf ds with
      | none => rw [e] at h; cases h
      | some cs => rw [e] at h; cases h; rw [boolsOf_eq e]; rfl
    | _ => cases h
def cBs (g : List Bool → Bool) : DC := fun rs S P => match rs with
  | [r] => match peek S r with
    | some (.list ds) => match boolsOf ds with
      | some bs => P (.dat (.bool (g bs))) S
      | none => False
    | _ => False
  | _ => False
theorem bs_sim {g : List Bool → Bool} (xs : List V) (H F : Hp) (S : Sto) (rs : List Res) (P : PK) (Q : VK) (o : Ok X.K F H S) (z : RAll X.K F xs rs) (h : cBs g rs S P)
    (q : ∀ v r F' H' S', Ext F F' → Ok X.K F' H' S' → RAt X.K F' v r → P r S' → Q v H') : ∃ (a : Addr) (bs : List Bool), xs = [V.ref a] ∧ SqL X.K H a (bs.map V.bl) ∧ Q (.bl (g bs)) H := by
  match rs, xs, z, h with
  | [r], [v], .cons z .nil, h =>
    unfold cBs at h
    dsimp only at h
    cases e : peek S r with
    | none => rw [e] at h; exact h.elim
    | some d =>
      rw [e] at h
      have dz := peek_at o z e
      cases d with
      | list ys =>
        dsimp only at h
        cases eb : boolsOf ys with
        | none => rw [eb] at h; exact h.elim
        | some bs =>
          rw [eb] at h
          have ey := boolsOf_eq eb
          subst ey
          cases dz with
          | lst hs ha =>
            rw [ha.bools] at hs
            exact ⟨_, bs, rfl, SqL.of hs, q _ _ F H S (Ext.refl F) o (RAt.d (.bl _)) h⟩
      | _ => exact h.elim
theorem sc_all (hc : X.calm = true) : SC X (.builtin "all") (rAll X.K) (cBs fun bs => bs.all fun b => b) := ⟨cr_all hc, bs_sim⟩
theorem sc_any (hc : X.calm = true) : SC X (.builtin "any") (rAny X.K) (cBs fun bs => bs.any fun b => b) := ⟨cr_any hc, bs_sim⟩
def intsOf : List PyData → Option (List Int)
  | [] => some []
  | .int b :: ds => (intsOf ds).map (b :: ·)
  | _ :: _ => none
theorem intsOf_eq : ∀ {ds : List PyData} {bs : List Int}, intsOf ds = some bs → ds = bs.map PyData.int
  | [], bs, h => by cases h; rfl
  | d :: ds, bs, h => by
    cases d with
    | int b =>
      unfold intsOf at h
      cases e : intsOf ds with
      | none => rw [e] at h; cases h
      | some cs => rw [e] at h; cases h; rw [intsOf_eq e]; rfl
    | _ => cases h
def cSum : DC := fun rs S P => match rs with
  | [r] => match peek S r with
    | some (.list ds) => match intsOf ds with
      | some bs => P (.dat (.int bs.sum)) S
      | none => False
    | _ => False
  | _ => False
theorem sc_sum (hc : X.calm = true) : SC X (.builtin "sum") (rSum X.K) cSum :=
  ⟨cr_sum hc, fun xs H F S rs P Q o z h q => by
    match rs, xs, z, h with
    | [r], [v], .cons z .nil, h =>
      unfold cSum at h
      dsimp only at h
      cases e : peek S r with
      | none => rw [e] at h; exact h.elim
      | some d =>
        rw [e] at h
        have dz := peek_at o z e
        cases d with
        | list ys =>
          dsimp only at h
          cases eb : intsOf ys with
          | none => rw [eb] at h; exact h.elim
          | some bs =>
            rw [eb] at h
            have ey := intsOf_eq eb
            subst ey
            cases dz with
            | lst hs ha =>
              rw [ha.ints] at hs
              exact ⟨_, bs, rfl, SqL.of hs, q _ _ F H S (Ext.refl F) o (RAt.d (.int _)) h⟩
        | _ => exact h.elim⟩
/-! ### isinstance -/
def kindD : PyData → String
  | .none => "NoneType" | .bool _ => "bool" | .int _ => "int" | .str _ => "str" | .list _ => "list" | .tuple _ => "tuple" | .dict _ => "dict"
theorem ty_of {K : PySem.W.Frag} {H : Hp} {v : V} {d : PyData} (z : DAt K H v d) (hd : ∀ es, d ≠ .dict es) : TyX K H v (.type (kindD d)) := by
  cases z with
  | non => exact .base .non
  | bl b => exact .base (.bl b)
  | int i => exact .base (.int i)
  | str x => exact .base (.str x)
  | lst hs ha => exact .base (.lst hs)
  | tup hs ha =>
    rcases hs with hs | ⟨ob, its, n, hk, hc, _⟩
    · rcases hs with hs | ⟨ob, hs⟩
      · exact .base (.tup hs)
      · exact .fTuple hs
    · exact .kTuple hk hc
  | dct hs ha => exact absurd rfl (hd _)
  | scr hs => exact absurd rfl (hd _)
  | fnc hs => exact absurd rfl (hd _)
/-- isinstance(e, T), T a built-in class -/
def isT (T : String) (d : PyData) : Bool := (kitB (kindD d) T).getD false
def dIsi (T : String) (de : DE) : DE := fun ρ S P => de ρ S fun r S1 => match peek S1 r with
  | some d => (∀ es, d ≠ .dict es) ∧ P (.dat (.bool (isT T d))) S1
  | none => False
theorem se_isi {y : Str} {py : Pos} {T : String} (he : SE X e te de) (hm : X.mg "isinstance" = none) (hmy : X.mg y = none) (hvy : bootBuiltins y = some (.type T) := by decide +kernel) (hk : ∀ d : PyData, (kitB (kindD d) T).isSome = true := by intro d; cases d <;> (simp only [kindD]; decide +kernel))
    (hgy : Gl X y := by rfl) (hny : y ≠ "__name__" := by decide) (hdy : (y == ("__debug__" : Str)) = false := by decide) (hg : Gl X "isinstance" := by rfl)
    (h1 : starEach [e, .Name y py] X.env = (false, eval e X.env) :: starEach [.Name y py] X.env := by rfl) (h2 : starEach [.Name y py] X.env = (false, eval (.Name y py) X.env) :: starEach [] X.env := by rfl)
    (hpl : (backTo pos (starEach [.Name y py] X.env)).any (·.1) = false := by rfl) :
    SE X (.Call (.Name "isinstance" p) [e, .Name y py] [] pos) (tCB (rIsi X.K) (tCons te (tCons (tC (.ty T)) tNil))) (dIsi T de) := by
  obtain ⟨pe, s⟩ := he
  refine ⟨pe_callB call_isi hg hm (by decide +kernel) (pa_cons pe (pa_cons (pe_bltn hgy hmy hvy rfl hny hdy) pa_nil h2) h1) (by decide) (by decide) h1 hpl, fun σ H F S ρ P Q o l h q => s σ H F S ρ _ _ o l h fun v r F1 H1 S1 x1 o1 z1 p1 => ?_⟩
  cases ep : peek S1 r with
  | none => rw [ep] at p1; exact p1.elim
  | some d =>
    rw [ep] at p1
    have dz := peek_at o1 z1 ep
    obtain ⟨b, eb⟩ := Option.isSome_iff_exists.mp (hk d)
    refine ⟨v, .ty T, .type (kindD d), .type T, b, rfl, .ty T, ty_of dz p1.1, kit_ty eb, ?_⟩
    have : isT T d = b := by unfold isT; rw [eb]; rfl
    rw [← this]
    exact q _ _ F1 H1 S1 x1 o1 (RAt.d (.bl _)) p1.2
/-! ### subscripts -/
def dIx (o : DO2) (da db : DE) : DE := dOp o da db
theorem se_ix {o : DO2} (hr : SX X r2 o) (ha : SE X a ta da) (hb : SE X b tb db) (hs : PlainIx b := by exact fun _ _ => rfl) : SE X (.Subscript a b pos) (tOp r2 ta tb) (dOp o da db) := by
  obtain ⟨pr, sr⟩ := hr
  obtain ⟨pa, sa⟩ := ha
  obtain ⟨pb, sb⟩ := hb
  exact ⟨pe_ix pr pa pb hs, sim2 sa sb sr⟩
theorem DAll.at {K : PySem.W.Frag} {F : Hp} {vs : List V} {ds : List PyData} {i : Int} {d : PyData} (h : DAll K F vs ds) (e : atI ds i = some d) : ∃ v, atI vs i = some v ∧ DAt K F v d := by
  unfold atI at e ⊢
  rw [h.length]
  cases q : ixN ds.length i with
  | none => rw [q] at e; cases e
  | some j =>
    rw [q] at e
    exact h.get e
/-- xs[i], t[i], s[i] -/
def oIx : DO2 := fun x y S P => match y with
  | .dat (.int i) => match peek S x with
    | some (.list ds) => match atI ds i with
      | some d => P (.dat d) S
      | none => False
    | some (.tuple ds) => match atI ds i with
      | some d => P (.dat d) S
      | none => False
    | some (.str z) => z.length ≤ 1000000 ∧ match atI z.cps.toList i with
      | some c => P (.dat (.str ⟨#[c]⟩)) S
      | none => False
    | _ => False
  | _ => False
theorem ix_frame {K : PySem.W.Frag} {F H : Hp} {S : Sto} {v : V} {r : Res} {a : Addr} (o : Ok K F H S) (z : RAt K F v r) : True := trivial
/-- an item of what may change is data of F -/
theorem peek_item {K : PySem.W.Frag} {F H : Hp} {S : Sto} {v : V} {r : Res} {ds : List PyData} {i : Int} {d : PyData} (o : Ok K F H S) (z : RAt K F v r) (hp : peek S r = some (.list ds)) (e : atI ds i = some d) :
    ∃ a vs u, v = .ref a ∧ SqL K H a vs ∧ atI vs i = some u ∧ DAt K F u d := by
  cases r with
  | dat d' =>
    cases hp
    cases z with
    | lst hs ha =>
      obtain ⟨u, hu, zu⟩ := ha.at e
      exact ⟨_, _, u, rfl, SqL.of (o.ext _ _ hs), hu, zu⟩
  | loc a =>
    obtain rfl : v = .ref a := z
    dsimp only [peek] at hp
    cases q : S a with
    | none => rw [q] at hp; cases hp
    | some c =>
      rw [q] at hp
      cases c with
      | lst xs =>
        cases hp
        obtain ⟨_, vs, h, t⟩ := o.sto a _ q
        obtain ⟨u, hu, zu⟩ := t.at e
        exact ⟨a, vs, u, rfl, SqL.of h, hu, zu⟩
      | dct xs => cases hp
theorem sx_seq : SX X (rIx X.K) oIx :=
  ⟨ix_seq, fun x y H F S rx ry P Q o zx zy h0 q => by
    match ry, zy, h0 with
    | .dat (.int i), zy, h =>
      obtain rfl := zy.int
      clear h0
      unfold oIx at h
      dsimp only at h
      cases e : peek S rx with
      | none => rw [e] at h; exact h.elim
      | some d =>
        rw [e] at h
        cases d with
        | list ds =>
          dsimp only at h
          cases ed : atI ds i with
          | none => rw [ed] at h; exact h.elim
          | some d =>
            rw [ed] at h
            obtain ⟨a, vs, u, rfl, hs, hu, zu⟩ := peek_item o zx e ed
            exact Or.inl ⟨a, vs, i, u, rfl, rfl, hs, hu, q _ _ F H S (Ext.refl F) o (RAt.d zu) h⟩
        | tuple ds =>
          dsimp only at h
          cases ed : atI ds i with
          | none => rw [ed] at h; exact h.elim
          | some d =>
            rw [ed] at h
            cases rx with
            | loc a => simp only [peek] at e; split at e <;> cases e
            | dat d' =>
              cases e
              cases zx with
              | tup hs ha =>
                obtain ⟨u, hu, zu⟩ := ha.at ed
                exact Or.inr (Or.inl ⟨_, _, i, u, rfl, rfl, o.ext.t hs, hu, q _ _ F H S (Ext.refl F) o (RAt.d zu) h⟩)
        | str z =>
          obtain ⟨hz, h⟩ := h
          cases ed : atI z.cps.toList i with
          | none => rw [ed] at h; exact h.elim
          | some c =>
            rw [ed] at h
            cases rx with
            | loc a => simp only [peek] at e; split at e <;> cases e
            | dat d' =>
              cases e
              cases zx
              exact Or.inr (Or.inr ⟨z, i, c, rfl, rfl, szl hz, ed, q _ _ F H S (Ext.refl F) o (RAt.d (.str _)) h⟩)
        | _ => exact h.elim⟩
end
end Lo

/-! Own layer, part G: sums of all kinds, slices, methods. -/
namespace Lo
open PySem PySem.Spec PyProof.Rows L2
section
variable {X : Cx}
/-! ### bools among ints -/
theorem op_add_bi : OpR X (binaryOp .Add) (fun x y H Q => ∃ k i, x = .bl k ∧ y = .int i ∧ Q (.int (b2i k + i)) H) := by
  intro pins s σ H x y v u Q I rx ry h
  obtain ⟨k, i, rfl, rfl, q⟩ := h
  cases rx
  obtain ⟨t, rfl⟩ := ry
  exact PySem.IntBool.add_bool_int ⟨.int (b2i k + i), H, I.tok _, ⟨_, rfl⟩, q⟩
theorem op_sub_bi : OpR X (binaryOp .Sub) (fun x y H Q => ∃ k i, x = .bl k ∧ y = .int i ∧ Q (.int (b2i k - i)) H) := by
  intro pins s σ H x y v u Q I rx ry h
  obtain ⟨k, i, rfl, rfl, q⟩ := h
  cases rx
  obtain ⟨t, rfl⟩ := ry
  exact PySem.IntBool.sub_bool_int ⟨.int (b2i k - i), H, I.tok _, ⟨_, rfl⟩, q⟩
theorem op_sub_ib : OpR X (binaryOp .Sub) (fun x y H Q => ∃ i k, x = .int i ∧ y = .bl k ∧ Q (.int (i - b2i k)) H) := by
  intro pins s σ H x y v u Q I rx ry h
  obtain ⟨i, k, rfl, rfl, q⟩ := h
  obtain ⟨t, rfl⟩ := rx
  cases ry
  exact PySem.IntBool.sub_int_bool ⟨.int (i - b2i k), H, I.tok _, ⟨_, rfl⟩, q⟩
/-- the list that stands at a value, with its place -/
theorem peek_list {K : PySem.W.Frag} {F H : Hp} {S : Sto} {v : V} {r : Res} {ds : List PyData} (o : Ok K F H S) (z : RAt K F v r) (e : peek S r = some (.list ds)) :
    ∃ a xs, v = .ref a ∧ H a = some (.lst xs) ∧ DAll K H xs ds := by
  have := peek_at o z e
  cases this with
  | lst hs ha => exact ⟨_, _, rfl, hs, ha⟩
/-- .. its items stand by what never changes -/
theorem peek_listF {K : PySem.W.Frag} {F H : Hp} {S : Sto} {v : V} {r : Res} {ds : List PyData} (o : Ok K F H S) (z : RAt K F v r) (e : peek S r = some (.list ds)) :
    ∃ a xs, v = .ref a ∧ H a = some (.lst xs) ∧ DAll K F xs ds := by
  cases r with
  | dat d =>
    cases e
    cases z with
    | lst hs ha => exact ⟨_, _, rfl, o.ext _ _ hs, ha⟩
  | loc a =>
    obtain rfl : v = .ref a := z
    dsimp only [peek] at e
    cases q : S a with
    | none => rw [q] at e; cases e
    | some c =>
      rw [q] at e
      cases c with
      | lst xs =>
        cases e
        obtain ⟨_, vs, h, t⟩ := o.sto a _ q
        exact ⟨_, vs, rfl, h, t⟩
      | dct xs => cases e
/-- a new list -/
theorem Ok.newL {K : PySem.W.Frag} {F H : Hp} {S : Sto} (o : Ok K F H S) {p : Addr} (hp : H p = none) {vs : List V} {ds : List PyData} (h : DAll K F vs ds) :
    Ok K F (upd H p (.lst vs)) (put S p (.lst ds)) := o.newS (c := .lst ds) hp ⟨vs, upd_same, h⟩
/-! ### sums -/
def b2 (b : Bool) : Int := if b = true then 1 else 0
def oAdd : DO2 := fun x y S P => match x, y with
  | .dat (.int i), .dat (.int j) => P (.dat (.int (i + j))) S
  | .dat (.int i), .dat (.bool k) => P (.dat (.int (i + b2 k))) S
  | .dat (.bool k), .dat (.int i) => P (.dat (.int (b2 k + i))) S
  | .dat (.str a), .dat (.str b) => a.length + b.length ≤ 1000000 ∧ P (.dat (.str (a ++ b))) S
  | .dat (.tuple xs), .dat (.tuple ys) => xs.length + ys.length ≤ 1000000 ∧ P (.dat (.tuple (xs ++ ys))) S
  | x, y => match peek S x, peek S y with
    | some (.list xs), some (.list ys) => xs.length + ys.length ≤ 1000000 ∧ ∀ p, S p = none → P (.loc p) (put S p (.lst (xs ++ ys)))
    | _, _ => False
def rAdd (K : PySem.W.Frag) : R2 := fun x y H Q => (∃ i j, x = .int i ∧ y = .int j ∧ Q (.int (i + j)) H) ∨ (∃ i k, x = .int i ∧ y = .bl k ∧ Q (.int (i + b2i k)) H) ∨ (∃ k i, x = .bl k ∧ y = .int i ∧ Q (.int (b2i k + i)) H)
  ∨ (∃ i j, x = .str i ∧ y = .str j ∧ i.length + j.length ≤ sizeLine ∧ Q (.str (i ++ j)) H) ∨ rCatA K x y H Q ∨ rCat x y H Q
theorem tup_nil_eq {K : PySem.W.Frag} {F : Hp} {vs : List V} {ds : List PyData} (h : DAll K F vs ds) : vs = [] ↔ ds = [] := by
  cases h <;> simp
theorem so_add : SO X (binaryOp .Add) (rAdd X.K) oAdd := by
  refine ⟨(OpR.or (r := rI0 fun i j => .int (i + j)) op_add (OpR.or op_add_ib (OpR.or op_add_bi (OpR.or op_add_str (OpR.or op_catA op_cat))))), fun x y H F S rx ry P Q o zx zy h q => ?_⟩
  have lists : (match peek S rx, peek S ry with
    | some (.list xs), some (.list ys) => xs.length + ys.length ≤ 1000000 ∧ ∀ p, S p = none → P (.loc p) (put S p (.lst (xs ++ ys)))
    | _, _ => False) → rAdd X.K x y H Q := by
    intro h
    split at h
    · rename_i xs ys ex ey
      obtain ⟨a, us, rfl, ha, za⟩ := peek_listF o zx ex
      obtain ⟨b, ws, rfl, hb, zb⟩ := peek_listF o zy ey
      refine Or.inr (Or.inr (Or.inr (Or.inr (Or.inr ⟨a, b, us, ws, rfl, rfl, ha, hb, by rw [za.length, zb.length]; exact szl h.1, fun p hp => ?_⟩))))
      have f := o.free hp
      exact q _ _ F _ _ (Ext.refl F) (o.newL hp (za.append zb)) (show RAt X.K F _ (.loc p) from rfl) (h.2 p f.2)
    · exact h.elim
  unfold oAdd at h
  split at h
  · obtain rfl := zx.int; obtain rfl := zy.int; exact Or.inl ⟨_, _, rfl, rfl, q _ _ F H S (Ext.refl F) o (RAt.d (.int _)) h⟩
  · obtain rfl := zx.int; obtain rfl := zy.bl; exact Or.inr (Or.inl ⟨_, _, rfl, rfl, q _ _ F H S (Ext.refl F) o (RAt.d (.int _)) h⟩)
  · obtain rfl := zx.bl; obtain rfl := zy.int; exact Or.inr (Or.inr (Or.inl ⟨_, _, rfl, rfl, q _ _ F H S (Ext.refl F) o (RAt.d (.int _)) h⟩))
  · obtain rfl := zx.str; obtain rfl := zy.str
    exact Or.inr (Or.inr (Or.inr (Or.inl ⟨_, _, rfl, rfl, szl h.1, q _ _ F H S (Ext.refl F) o (RAt.d (.str _)) h.2⟩)))
  · cases zx with
    | @tup _ vx _ hs ha =>
      cases zy with
      | @tup _ vy _ ht hb =>
        refine Or.inr (Or.inr (Or.inr (Or.inr (Or.inl ⟨_, _, _, _, rfl, rfl, o.ext.t hs, o.ext.t ht, by rw [ha.length, hb.length]; exact szl h.1, fun e => ?_, fun _ e => ?_, fun _ _ p hp => ?_⟩))))
        · rw [tup_nil_eq ha] at e
          subst e
          exact q _ _ F H S (Ext.refl F) o (RAt.d (.tup ht hb)) h.2
        · rw [tup_nil_eq hb] at e
          subst e
          rw [List.append_nil] at h
          exact q _ _ F H S (Ext.refl F) o (RAt.d (.tup hs ha)) h.2
        · have f := o.free hp
          have x := Ext.new (o := .tup (vx ++ vy)) f.1
          exact q _ _ _ _ S x (o.newF hp _) (RAt.d (.tup (SqT.of upd_same) ((ha.append hb).mono x))) h.2
  · exact lists h
/-! ### differences, products -/
def oSub' : DO2 := fun x y S P => match x, y with
  | .dat (.int i), .dat (.int j) => P (.dat (.int (i - j))) S
  | .dat (.int i), .dat (.bool k) => P (.dat (.int (i - b2 k))) S
  | .dat (.bool k), .dat (.int i) => P (.dat (.int (b2 k - i))) S
  | _, _ => False
theorem so_subB : SO X (binaryOp .Sub) (fun x y H Q => (∃ i j, x = .int i ∧ y = .int j ∧ Q (.int (i - j)) H) ∨ (∃ i k, x = .int i ∧ y = .bl k ∧ Q (.int (i - b2i k)) H) ∨ (∃ k i, x = .bl k ∧ y = .int i ∧ Q (.int (b2i k - i)) H)) oSub' := by
  refine ⟨(OpR.or (r := rI0 fun i j => .int (i - j)) op_sub (OpR.or op_sub_ib op_sub_bi)), fun x y H F S rx ry P Q o zx zy h q => ?_⟩
  unfold oSub' at h
  split at h
  · obtain rfl := zx.int; obtain rfl := zy.int; exact Or.inl ⟨_, _, rfl, rfl, q _ _ F H S (Ext.refl F) o (RAt.d (.int _)) h⟩
  · obtain rfl := zx.int; obtain rfl := zy.bl; exact Or.inr (Or.inl ⟨_, _, rfl, rfl, q _ _ F H S (Ext.refl F) o (RAt.d (.int _)) h⟩)
  · obtain rfl := zx.bl; obtain rfl := zy.int; exact Or.inr (Or.inr ⟨_, _, rfl, rfl, q _ _ F H S (Ext.refl F) o (RAt.d (.int _)) h⟩)
  · exact h.elim
def repL (k : Nat) (xs : List PyData) : List PyData := (List.replicate k xs).flatten
theorem DAll.rep {K : PySem.W.Frag} {F : Hp} {vs : List V} {ds : List PyData} (h : DAll K F vs ds) : ∀ k, DAll K F (List.replicate k vs).flatten (repL k ds)
  | 0 => .nil
  | k + 1 => by
    unfold repL
    rw [List.replicate_succ, List.replicate_succ, List.flatten_cons, List.flatten_cons]
    exact h.append (DAll.rep h k)

def repS (k : Nat) (z : Str) : Str := ⟨(List.replicate k z.cps).foldl (· ++ ·) #[]⟩
theorem repS_length (k : Nat) (z : Str) : (repS k z).length = k * z.length := by
  have : ∀ (k : Nat) (acc : Array Nat), ((List.replicate k z.cps).foldl (· ++ ·) acc).size = acc.size + k * z.cps.size := by
    intro k
    induction k with
    | zero => intro acc; simp
    | succ k ih => intro acc; rw [List.replicate_succ, List.foldl_cons, ih, Array.size_append, Nat.add_mul]; omega
  have := this k #[]
  simpa [repS, Str.length] using this
theorem op_repS : OpR X (binaryOp .Mult) (fun x y H Q => ∃ z k, x = .str z ∧ y = .int k ∧ 2 ≤ k ∧ 1 ≤ z.length ∧ z.length * k.toNat ≤ 1000000 ∧ Q (.str (repS k.toNat z)) H) := by
  intro pins s σ H x y v u Q I rx ry h
  obtain ⟨z, k, rfl, rfl, h1, h2, h3, q⟩ := h
  obtain ⟨t, rfl⟩ := rx
  obtain ⟨t', rfl⟩ := ry
  have hk : k ≤ 1000000 := by
    have : 1 * k.toNat ≤ z.length * k.toNat := Nat.mul_le_mul_right _ h2
    omega
  have e1 : (k == 1 || z.length == 0) = false := by
    rw [Bool.or_eq_false_iff]
    exact ⟨by rw [beq_eq_false_iff_ne]; omega, by rw [beq_eq_false_iff_ne]; omega⟩
  refine PySem.P.mul_str ?_ ?_ ?_ ?_
  · rw [decide_eq_false (by omega), decide_eq_false (by omega)]; rfl
  · intro _ _
    obtain ⟨m, rfl⟩ : ∃ m : Nat, k = m := ⟨k.toNat, by omega⟩
    rw [Int.toNat_natCast] at h3
    have e2 : ((z.length * m : Nat) : Int) ≤ 1000000 := by omega
    rw [Int.natCast_mul] at e2
    refine Int.not_lt.mpr ?_
    rw [Int.le_ediv_iff_mul_le (by omega)]
    omega
  · intro _ _
    exact short24 (by omega)
  · rw [if_neg (by omega), e1]
    exact ⟨szl (by have := repS_length k.toNat z; unfold repS at this; rw [this, Nat.mul_comm]; omega), .str _, H, I.tok _, ⟨_, rfl⟩, q⟩
def oMulA : DO2 := fun x y S P => match x, y with
  | .dat (.int i), .dat (.int j) => CMul i j ∧ P (.dat (.int (i * j))) S
  | .dat (.str z), .dat (.int k) => 2 ≤ k ∧ 1 ≤ z.length ∧ z.length * k.toNat ≤ 1000000 ∧ P (.dat (.str (repS k.toNat z))) S
  | x, .dat (.int k) => match peek S x with
    | some (.list xs) => 0 ≤ k ∧ k ≤ 1000000 ∧ xs.length * k.toNat ≤ 1000000 ∧ ∀ p, S p = none → P (.loc p) (put S p (.lst (repL k.toNat xs)))
    | _ => False
  | _, _ => False

theorem so_mulA : SO X (binaryOp .Mult) (fun x y H Q => (∃ i j, x = .int i ∧ y = .int j ∧ CMul i j ∧ Q (.int (i * j)) H)
    ∨ (∃ z k, x = .str z ∧ y = .int k ∧ 2 ≤ k ∧ 1 ≤ z.length ∧ z.length * k.toNat ≤ 1000000 ∧ Q (.str (repS k.toNat z)) H) ∨ rRep x y H Q) oMulA := by
  refine ⟨OpR.or (r := rI CMul fun i j => .int (i * j)) op_mul (OpR.or op_repS op_rep), fun x y H F S rx ry P Q o zx zy h q => ?_⟩
  unfold oMulA at h
  split at h
  · obtain rfl := zx.int; obtain rfl := zy.int; exact Or.inl ⟨_, _, rfl, rfl, h.1, q _ _ F H S (Ext.refl F) o (RAt.d (.int _)) h.2⟩
  · obtain rfl := zx.str; obtain rfl := zy.int; exact Or.inr (Or.inl ⟨_, _, rfl, rfl, h.1, h.2.1, h.2.2.1, q _ _ F H S (Ext.refl F) o (RAt.d (.str _)) h.2.2.2⟩)
  · obtain rfl := zy.int
    split at h
    · rename_i xs ex
      obtain ⟨a, us, rfl, ha, za⟩ := peek_listF o zx ex
      obtain ⟨h1, h2, h3, h4⟩ := h
      refine Or.inr (Or.inr ⟨a, _, us, rfl, rfl, ha, by omega, by omega, by rw [za.length]; exact szl h3, fun p hp => ?_⟩)
      have f := o.free hp
      exact q _ _ F _ _ (Ext.refl F) (o.newL hp (za.rep _)) (show RAt X.K F _ (.loc p) from rfl) (h4 p f.2)
    · exact h.elim
  · exact h.elim
/-! ### slices -/
def cutD (xs : List PyData) (lo hi : Option Int) : List PyData := (xs.drop (HT.sIx xs.length 0 lo)).take (HT.sIx xs.length xs.length hi - HT.sIx xs.length 0 lo)
theorem DAll.cut {K : PySem.W.Frag} {F : Hp} {vs : List V} {ds : List PyData} (h : DAll K F vs ds) (lo hi : Option Int) : DAll K F (cutV vs lo hi) (cutD ds lo hi) := by
  unfold cutV cutD
  rw [h.length]
  exact (h.drop _).take _
def SPt (X : Cx) (e : Option Expr) (t : TO) (d : Vrs → Sto → (Option Int → Sto → Prop) → Prop) : Prop := PO X e t ∧ ∀ (σ : L2.St) (H F : Hp) (S : Sto) (ρ : Vrs) (P : Option Int → Sto → Prop) (Q : Option Int → Hp → Prop),
  Ok X.K F H S → SlotsOk X.K F σ ρ → d ρ S P → (∀ b F' H' S', Ext F F' → Ok X.K F' H' S' → P b S' → Q b H') → t σ H Q
def dNoPart : Vrs → Sto → (Option Int → Sto → Prop) → Prop := fun _ S P => P none S
def dPart (de : DE) : Vrs → Sto → (Option Int → Sto → Prop) → Prop := fun ρ S P => de ρ S fun r S1 => match r with
  | .dat (.int i) => P (some i) S1
  | _ => False
theorem sp_none : SPt X none tNoPart dNoPart := ⟨po_none, fun σ H F S ρ P Q o l h q => q _ F H S (Ext.refl F) o h⟩
theorem sp_some {e : Expr} {te : TE} {de : DE} (h : SE X e te de) : SPt X (some e) (tPart te) (dPart de) := by
  obtain ⟨pe, s⟩ := h
  refine ⟨po_some pe, fun σ H F S ρ P Q o l h q => s σ H F S ρ _ _ o l h fun v r F1 H1 S1 x1 o1 z1 p1 => ?_⟩
  match r, z1, p1 with
  | .dat (.int i), z1, p1 => exact ⟨i, z1.int, q _ F1 H1 S1 x1 o1 p1⟩
def oSl (x : Res) (lo hi : Option Int) : Sto → PK → Prop := fun S P => match peek S x with
  | some (.tuple xs) => P (.dat (.tuple (cutD xs lo hi))) S
  | some (.str z) => z.length ≤ 1000000 ∧ P (.dat (.str (cutS z lo hi))) S
  | some (.list xs) => ∀ p, S p = none → P (.loc p) (put S p (.lst (cutD xs lo hi)))
  | some (.dict [(.list xs, .none)]) => ∀ p, S p = none → P (.loc p) (put S p (.lst (cutD xs lo hi)))
  | _ => False
def rSlAll (K : PySem.W.Frag) : V → Option Int → Option Int → Hp → VK → Prop := fun x lo hi H Q => rSlA K x lo hi H Q ∨ rSlS x lo hi H Q ∨ rSlL K x lo hi H Q
def dSl (de : DE) (dl dh : Vrs → Sto → (Option Int → Sto → Prop) → Prop) : DE := fun ρ S P => de ρ S fun x S1 => dl ρ S1 fun l S2 => dh ρ S2 fun u S3 => oSl x l u S3 P
theorem cut_whole {xs : List PyData} {lo hi : Option Int} (h : HT.sIx xs.length 0 lo = 0 ∧ HT.sIx xs.length xs.length hi = xs.length) : cutD xs lo hi = xs := by
  unfold cutD
  rw [h.1, h.2]
  simp
theorem peek_dat {S : Sto} {r : Res} {d : PyData} (h : peek S r = some d) (hd : ∀ xs, d ≠ .list xs) (hk : ∀ xs, d ≠ .dict xs) : r = .dat d := by
  cases r with
  | dat e => cases h; rfl
  | loc a =>
    dsimp only [peek] at h
    cases q : S a with
    | none => rw [q] at h; cases h
    | some c =>
      rw [q] at h
      cases c with
      | lst xs => cases h; exact absurd rfl (hd _)
      | dct xs => cases h
theorem se_sl {e : Expr} {te : TE} {de : DE} {lo hi : Option Expr} {tl th : TO} {dl dh : Vrs → Sto → (Option Int → Sto → Prop) → Prop} {pos p2 : Pos} (he : SE X e te de) (hl : SPt X lo tl dl) (hu : SPt X hi th dh) :
    SE X (.Subscript e (.Slice lo hi none p2) pos) (tSl (rSlAll X.K) te tl th) (dSl de dl dh) := by
  obtain ⟨pe, s1⟩ := he
  obtain ⟨pl, s2⟩ := hl
  obtain ⟨pu, s3⟩ := hu
  refine ⟨pe_slice (SlR.or sl_tupA (SlR.or sl_str sl_list)) pe pl pu, fun σ H F S ρ P Q o l h q => ?_⟩
  refine s1 σ H F S ρ _ _ o l h fun v r F1 H1 S1 x1 o1 z1 p1 => ?_
  refine s2 σ H1 F1 S1 ρ _ _ o1 (l.mono x1) p1 fun lo F2 H2 S2 x2 o2 p2 => ?_
  refine s3 σ H2 F2 S2 ρ _ _ o2 (l.mono (x1.trans x2)) p2 fun hi F3 H3 S3 x3 o3 p3 => ?_
  have z3 := z1.mono (x2.trans x3)
  have k : ∀ v r F' H' S', Ext F3 F' → Ok X.K F' H' S' → RAt X.K F' v r → P r S' → Q v H' := fun v r F' H' S' x => q v r F' H' S' ((x1.trans (x2.trans x3)).trans x)
  unfold oSl at p3
  split at p3
  · rename_i xs ex
    obtain rfl := peek_dat ex (fun _ => by simp) (fun _ => by simp)
    cases z3 with
    | @tup a vx _ hs ha =>
      refine Or.inl ⟨a, vx, rfl, o3.ext.t hs, fun e => ?_, fun e p hp => ?_⟩
      · rw [ha.length] at e
        rw [cut_whole e] at p3
        exact k _ _ F3 H3 S3 (Ext.refl F3) o3 (RAt.d (.tup hs ha)) p3
      · have f := o3.free hp
        have x := Ext.new (o := .tup (cutV vx lo hi)) f.1
        exact k _ _ _ _ S3 x (o3.newF hp _) (RAt.d (.tup (SqT.of upd_same) ((ha.cut lo hi).mono x))) p3
  · rename_i z ex
    obtain rfl := peek_dat ex (fun _ => by simp) (fun _ => by simp)
    obtain rfl := z3.str
    exact Or.inr (Or.inl ⟨z, rfl, szl p3.1, k _ _ F3 H3 S3 (Ext.refl F3) o3 (RAt.d (.str _)) p3.2⟩)
  · rename_i xs ex
    obtain ⟨a, us, rfl, ha, za⟩ := peek_listF o3 z3 ex
    refine Or.inr (Or.inr ⟨a, us, rfl, SqL.of ha, fun p hp => ?_⟩)
    have f := o3.free hp
    exact k _ _ F3 _ _ (Ext.refl F3) (o3.newL hp (za.cut lo hi)) (show RAt X.K F3 _ (.loc p) from rfl) (p3 p f.2)
  · rename_i xs ex
    have z4 : DAt X.K F3 v (.dict [(.list xs, .none)]) := by
      cases r with
      | dat d => cases ex; exact z3
      | loc a =>
        dsimp only [peek] at ex
        split at ex <;> cases ex
    generalize he : ([(PyData.list xs, PyData.none)] : List (PyData × PyData)) = es at z4
    cases z4 with
    | dct _ t =>
      exfalso
      rename_i ds _
      cases ds with
      | nil => cases he
      | cons q qs =>
        rw [List.map_cons, List.cons.injEq] at he
        obtain ⟨k0, d0⟩ := q
        cases k0 <;> simp [kd, keyD] at he
    | fnc _ => cases he
    | @scr a ns hs =>
      obtain rfl : xs = ns.map PyData.int := by simpa using he
      refine Or.inr (Or.inr ⟨a, _, rfl, o3.ext.l hs, fun p hp => ?_⟩)
      have f := o3.free hp
      exact k _ _ F3 _ _ (Ext.refl F3) (o3.newL hp ((DAll.of_ints ns).cut lo hi)) (show RAt X.K F3 _ (.loc p) from rfl) (p3 p f.2)
  · exact p3.elim
end
end Lo

/-! Own layer, part H: methods, dicts. -/
namespace Lo
open PySem PySem.Spec PyProof.Rows L2
section
variable {X : Cx} {K : PySem.W.Frag} {F H : Hp} {S : Sto}
/-! ### dicts as data -/
def valD (kvs : List (Key × PyData)) (k : Key) : Option PyData := (kvs.find? fun kv => decide (kv.1 = k)).map (·.2)
def putD (kvs : List (Key × PyData)) (k : Key) (v : PyData) : List (Key × PyData) :=
  if (kvs.any fun kv => decide (kv.1 = k)) = true then kvs.map (fun kv => if kv.1 = k then (kv.1, v) else kv) else kvs ++ [(k, v)]
def mergeD (kvs more : List (Key × PyData)) : List (Key × PyData) := more.foldl (fun acc kv => putD acc kv.1 kv.2) kvs
theorem DKv.append : ∀ {vs ws : List (Key × V)} {ds es : List (Key × PyData)}, DKv K F vs ds → DKv K F ws es → DKv K F (vs ++ ws) (ds ++ es)
  | _, _, _, _, .nil, s => s
  | _, _, _, _, .cons h t, s => .cons h (t.append s)
theorem DKv.val : ∀ {vs : List (Key × V)} {ds : List (Key × PyData)}, DKv K F vs ds → ∀ k, (valD ds k = none ∧ valV vs k = none) ∨ ∃ d v, valD ds k = some d ∧ valV vs k = some v ∧ DAt K F v d
  | _, _, .nil, k => .inl ⟨rfl, rfl⟩
  | _, _, .cons (k := k') h t, k => by
    by_cases e : k' = k
    · refine .inr ⟨_, _, ?_, valV_pos e, h⟩
      simp [valD, e]
    · have ih := t.val k
      rw [valV_neg (p := (k', _)) (by exact e)]
      have : ∀ d r, valD ((k', d) :: r) k = valD r k := fun d r => by simp [valD, e]
      rw [this]
      exact ih
theorem DKv.any : ∀ {vs : List (Key × V)} {ds : List (Key × PyData)}, DKv K F vs ds → ∀ k, (vs.any fun kv => decide (kv.1 = k)) = (ds.any fun kv => decide (kv.1 = k))
  | _, _, .nil, k => rfl
  | _, _, .cons h t, k => by rw [List.any_cons, List.any_cons, t.any k]
theorem DKv.sets : ∀ {vs : List (Key × V)} {ds : List (Key × PyData)}, DKv K F vs ds → ∀ (k : Key) {v : V} {d : PyData}, DAt K F v d →
    DKv K F (vs.map fun kv => if kv.1 = k then (kv.1, v) else kv) (ds.map fun kv => if kv.1 = k then (kv.1, d) else kv)
  | _, _, .nil, k, _, _, _ => .nil
  | _, _, .cons (k := k') h t, k, _, _, z => by
    rw [List.map_cons, List.map_cons]
    by_cases e : k' = k
    · rw [if_pos e, if_pos e]; exact .cons z (t.sets k z)
    · rw [if_neg e, if_neg e]; exact .cons h (t.sets k z)
theorem DKv.put {vs : List (Key × V)} {ds : List (Key × PyData)} (h : DKv K F vs ds) (k : Key) {v : V} {d : PyData} (z : DAt K F v d) : DKv K F (putK vs k v) (putD ds k d) := by
  unfold putK putD
  rw [h.any k]
  split
  · exact h.sets k z
  · exact h.append (.cons z .nil)
theorem DKv.merge : ∀ {ws : List (Key × V)} {es : List (Key × PyData)}, DKv K F ws es → ∀ {vs : List (Key × V)} {ds : List (Key × PyData)}, DKv K F vs ds → DKv K F (mergeK vs ws) (mergeD ds es)
  | _, _, .nil, _, _, s => s
  | _, _, .cons h t, _, _, s => t.merge (s.put _ h)
def toKey : PyData → Option Key
  | .int i => some (.inl i)
  | .str x => some (.inr x)
  | _ => none
theorem toKey_at {v : V} {d : PyData} {k : Key} (z : DAt K F v d) (e : toKey d = some k) : v = kV k := by
  cases z <;> cases e <;> rfl
/-- the dict at a value -/
def peekD (S : Sto) : Res → Option (List (Key × PyData))
  | .loc a => match S a with
    | some (.dct xs) => some xs
    | _ => none
  | .dat _ => none
theorem peek_dict {v : V} {r : Res} {ds : List (Key × PyData)} (o : Ok K F H S) (z : RAt K F v r) (e : peekD S r = some ds) :
    ∃ a xs, r = .loc a ∧ S a = some (.dct ds) ∧ v = .ref a ∧ H a = some (.dK xs) ∧ DKv K F xs ds := by
  cases r with
  | dat d => cases e
  | loc a =>
    obtain rfl : v = .ref a := z
    dsimp only [peekD] at e
    cases q : S a with
    | none => rw [q] at e; cases e
    | some c =>
      rw [q] at e
      cases c with
      | lst xs => cases e
      | dct xs =>
        cases e
        obtain ⟨_, vs, h, t⟩ := o.sto a _ q
        exact ⟨_, vs, rfl, q, rfl, h, t⟩
/-- of a dict as data or one that may change -/
def dictIn (S : Sto) (r : Res) (k : Key) (P : Option PyData → Prop) : Prop := match r with
  | .loc a => match S a with
    | some (.dct xs) => P (valD xs k)
    | _ => False
  | .dat (.dict es) => ∃ xs : List (Key × PyData), es = xs.map kd ∧ P (valD xs k)
  | _ => False
theorem kd_inj : ∀ {xs ys : List (Key × PyData)}, xs.map kd = ys.map kd → xs = ys := by
  intro xs
  induction xs with
  | nil => intro ys h; cases ys with
    | nil => rfl
    | cons y ys => cases h
  | cons x xs ih =>
    intro ys h
    cases ys with
    | nil => cases h
    | cons y ys =>
      rw [List.map_cons, List.map_cons, List.cons.injEq] at h
      obtain ⟨kx, dx⟩ := x
      obtain ⟨ky, dy⟩ := y
      rw [ih h.2]
      have h1 := h.1
      cases kx <;> cases ky <;> simp_all [kd, keyD]
theorem dictIn_at {v : V} {r : Res} {k : Key} {P : Option PyData → Prop} (o : Ok K F H S) (z : RAt K F v r) (h : dictIn S r k P) :
    ∃ a xs ds, v = .ref a ∧ H a = some (.dK xs) ∧ DKv K F xs ds ∧ P (valD ds k) := by
  cases r with
  | loc a =>
    obtain rfl : v = .ref a := z
    dsimp only [dictIn] at h
    cases q : S a with
    | none => rw [q] at h; exact h.elim
    | some c =>
      rw [q] at h
      cases c with
      | lst xs => exact h.elim
      | dct xs =>
        obtain ⟨_, vs, e, t⟩ := o.sto a _ q
        exact ⟨_, vs, xs, rfl, e, t, h⟩
  | dat d =>
    cases d with
    | dict es =>
      obtain ⟨xs, rfl, h⟩ := h
      have z' : DAt K F v (.dict (xs.map kd)) := z
      generalize he : xs.map kd = es at z'
      cases z' with
      | dct e t =>
        rw [kd_inj he] at h
        exact ⟨_, _, _, rfl, o.ext _ _ e, t, h⟩
      | fnc e =>
        exfalso
        cases xs with
        | nil => cases he
        | cons q qs =>
          rw [List.map_cons, List.cons.injEq] at he
          obtain ⟨k0, d0⟩ := q
          cases k0 <;> simp [kd, keyD] at he
      | scr e =>
        exfalso
        cases xs with
        | nil => cases he
        | cons q qs =>
          rw [List.map_cons, List.cons.injEq] at he
          obtain ⟨k0, d0⟩ := q
          cases k0 <;> simp [kd, keyD] at he
    | _ => exact h.elim
/-- d[k] -/
def dDGet (dd dk : DE) : DE := fun ρ S P => dd ρ S fun r S1 => dk ρ S1 fun y S2 => match y with
  | .dat y => match toKey y with
    | some k => dictIn S2 r k fun o => match o with
      | some d => P (.dat d) S2
      | none => False
    | none => False
  | .loc _ => False
section
variable {o i e f value : Expr} {pos pos' tpos apos cpos : Pos} {td ty tv tx : TE} {dd dy dv dx : DE}
theorem se_dget (hu : X.A.units + 1 < cLine) (ho : SE X o td dd) (hi : SE X i ty dy) (hs : NoSl i := by exact fun _ _ => rfl) : SE X (.Subscript o i pos) (tDGet td ty) (dDGet dd dy) := by
  obtain ⟨po, s1⟩ := ho
  obtain ⟨pi, s2⟩ := hi
  refine ⟨pe_dget hu po pi hs, fun σ H F S ρ P Q o l h q => ?_⟩
  refine s1 σ H F S ρ _ _ o l h fun v r F1 H1 S1 x1 o1 z1 p1 => ?_
  refine s2 σ H1 F1 S1 ρ _ _ o1 (l.mono x1) p1 fun y ry F2 H2 S2 x2 o2 z2 p2 => ?_
  cases ry with
  | loc a => exact p2.elim
  | dat yd =>
    dsimp only at p2
    cases ek : toKey yd with
    | none => rw [ek] at p2; exact p2.elim
    | some k =>
      rw [ek] at p2
      obtain ⟨a, xs, ds, rfl, eH, t, p⟩ := dictIn_at o2 (z1.mono x2) p2
      rcases t.val k with ⟨e1, e2⟩ | ⟨d, v, e1, e2, z⟩
      · rw [e1] at p; exact p.elim
      · rw [e1] at p
        refine ⟨a, v, rfl, ?_, q v _ F2 H2 S2 (x1.trans x2) o2 (RAt.d z) p⟩
        rw [toKey_at z2 ek, ← e2]
        exact DGet.k eH

/-! ### d[k] = v, xs[i] = v -/
def dGSub (do_ di : DE) : DG := fun v ρ S P => do_ ρ S fun r S1 => di ρ S1 fun y S2 => match r, y, v with
  | .loc a, .dat y, .dat v => match S2 a with
    | some (.dct kvs) => match toKey y with
      | some k => kvs.length < 1000000 ∧ P ρ (put S2 a (.dct (putD kvs k v)))
      | none => False
    | some (.lst xs) => match y with
      | .int i => match ixN xs.length i with
        | some j => P ρ (put S2 a (.lst (xs.set j v)))
        | none => False
      | _ => False
    | none => False
  | _, _, _ => False
theorem DAll.set : ∀ {vs : List V} {ds : List PyData} (j : Nat) {v : V} {d : PyData}, DAll K F vs ds → DAt K F v d → DAll K F (vs.set j v) (ds.set j d)
  | _, _, _, _, _, .nil, _ => .nil
  | _, _, 0, _, _, .cons _ t, z => .cons z t
  | _, _, j + 1, _, _, .cons h t, z => .cons h (t.set j z)
theorem PSet.or {t t' : TSet} (h : PSet X t) (h' : PSet X t') : PSet X (fun o i v H Q => t o i v H Q ∨ t' o i v H Q) := by
  intro pins s σ H o i v ov iv u Q I ro ri rv q
  rcases q with q | q
  · exact h pins s σ H o i v ov iv u Q I ro ri rv q
  · exact h' pins s σ H o i v ov iv u Q I ro ri rv q
theorem sg_sub (hu : X.A.units + 1 < cLine) (ho : SE X o td dd) (hi : SE X i ty dy)
    (ha : ∀ v, assign (.Subscript o i pos) X.env v = (do
      let ov ← holding [v] (eval o X.env)
      let iv ← holding [v, ov] (eval i X.env)
      standAt pos
      holding [v, ov, iv] (setItem ov iv v)
      release [v, ov, iv] []) := by intro _; rfl) : SG X (.Subscript o i pos) (gSub td ty fun o i v H Q => rSetD o i v H Q ∨ rSetL o i v H Q) (dGSub dd dy) := by
  obtain ⟨po, s1⟩ := ho
  obtain ⟨pi, s2⟩ := hi
  refine ⟨pg_sub po pi (PSet.or (set_dict hu) set_list) ha, fun v σ H F S r ρ P Q o l z h q => ?_⟩
  refine s1 σ H F S ρ _ _ o l h fun ov ro F1 H1 S1 x1 o1 z1 p1 => ?_
  refine s2 σ H1 F1 S1 ρ _ _ o1 (l.mono x1) p1 fun y ry F2 H2 S2 x2 o2 z2 p2 => ?_
  cases ro with
  | dat _ => exact p2.elim
  | loc a =>
    obtain rfl : ov = .ref a := z1
    cases ry with
    | loc _ => exact p2.elim
    | dat yd =>
      cases r with
      | loc _ => exact p2.elim
      | dat vd =>
        have zv : DAt X.K F2 v vd := DAt.mono (x1.trans x2) z
        dsimp only at p2
        cases e : S2 a with
        | none => rw [e] at p2; exact p2.elim
        | some c =>
          rw [e] at p2
          cases c with
          | dct kvs =>
            dsimp only at p2
            cases ek : toKey yd with
            | none => rw [ek] at p2; exact p2.elim
            | some k =>
              rw [ek] at p2
              obtain ⟨_, vs, eH, t⟩ := o2.sto a _ e
              refine Or.inl ⟨a, _, rfl, ?_, q σ _ F2 _ _ (x1.trans x2) (o2.write (c := .dct (putD kvs k vd)) e ⟨_, upd_same, t.put k zv⟩) (l.mono (x1.trans x2)) p2.2⟩
              rw [toKey_at z2 ek]
              exact DPut.k eH (by rw [t.length, sizeLine_eq]; have := p2.1; omega)
          | lst xs =>
            cases yd with
            | int j0 =>
              dsimp only at p2
              cases ej : ixN xs.length j0 with
              | none => rw [ej] at p2; exact p2.elim
              | some j =>
                rw [ej] at p2
                obtain ⟨_, vs, eH, t⟩ := o2.sto a _ e
                obtain rfl := z2.int
                exact Or.inr ⟨a, vs, j0, j, rfl, rfl, eH, by rw [t.length]; exact ej, q σ _ F2 _ _ (x1.trans x2) (o2.write (c := .lst (xs.set j vd)) e ⟨_, upd_same, t.set j zv⟩) (l.mono (x1.trans x2)) p2⟩
            | _ => exact p2.elim
/-! ### d.get -/
def dGet1 (dd dk : DE) : DE := fun ρ S P => dd ρ S fun r S1 => dictIn S1 r (.inl 0) (fun _ => True) ∧ dk ρ S1 fun y S2 => match y with
  | .dat y => match toKey y with
    | some k => dictIn S2 r k fun o => P (.dat (o.getD .none)) S2
    | none => False
  | .loc _ => False
theorem se_get1 (hu : X.A.units + 1 < cLine) (ho : SE X o td dd) (hi : SE X e ty dy) (m : M1 X o "get" apos e cpos := by exact ⟨rfl, rfl, rfl, rfl⟩) : SE X (.Call (.Attribute o "get" apos) [e] [] cpos) (tDGet1 td ty) (dGet1 dd dy) := by
  obtain ⟨po, s1⟩ := ho
  obtain ⟨pi, s2⟩ := hi
  refine ⟨pe_dget1 hu po pi m, fun σ H F S ρ P Q o l h q => ?_⟩
  refine s1 σ H F S ρ _ _ o l h fun v r F1 H1 S1 x1 o1 z1 p1 => ?_
  obtain ⟨d1, p1⟩ := p1
  obtain ⟨a, xs, ds, rfl, eH, t, _⟩ := dictIn_at o1 z1 d1
  refine ⟨a, rfl, .inl ⟨xs, .inl eH⟩, ?_⟩
  refine s2 σ H1 F1 S1 ρ _ _ o1 (l.mono x1) p1 fun y ry F2 H2 S2 x2 o2 z2 p2 => ?_
  cases ry with
  | loc _ => exact p2.elim
  | dat yd =>
    dsimp only at p2
    cases ek : toKey yd with
    | none => rw [ek] at p2; exact p2.elim
    | some k =>
      rw [ek] at p2
      obtain ⟨b, xs2, ds2, eb, eH2, t2, p⟩ := dictIn_at o2 (z1.mono x2) p2
      cases eb
      refine ⟨valV xs2 k, by rw [toKey_at z2 ek]; exact DGet.k eH2, ?_⟩
      rcases t2.val k with ⟨e1, e2⟩ | ⟨d, v, e1, e2, z⟩
      · rw [e1] at p; rw [e2]
        exact q _ _ F2 H2 S2 (x1.trans x2) o2 (RAt.d .non) p
      · rw [e1] at p; rw [e2]
        exact q _ _ F2 H2 S2 (x1.trans x2) o2 (RAt.d z) p
def dGet2 (dd dk dx : DE) : DE := fun ρ S P => dd ρ S fun r S1 => dictIn S1 r (.inl 0) (fun _ => True) ∧ dk ρ S1 fun y S2 => dx ρ S2 fun z S3 => match y with
  | .dat y => match toKey y with
    | some k => dictIn S3 r k fun o => P (match o with | some d => .dat d | none => z) S3
    | none => False
  | .loc _ => False
theorem se_get2 (hu : X.A.units + 1 < cLine) (ho : SE X o td dd) (hi : SE X e ty dy) (hf : SE X f tx dx) (m : M2 X o "get" apos e f cpos := by exact ⟨rfl, rfl, rfl, rfl⟩) : SE X (.Call (.Attribute o "get" apos) [e, f] [] cpos) (tDGet2 td ty tx) (dGet2 dd dy dx) := by
  obtain ⟨po, s1⟩ := ho
  obtain ⟨pi, s2⟩ := hi
  obtain ⟨pf, s3⟩ := hf
  refine ⟨pe_dget2 hu po pi pf m, fun σ H F S ρ P Q o l h q => ?_⟩
  refine s1 σ H F S ρ _ _ o l h fun v r F1 H1 S1 x1 o1 z1 p1 => ?_
  obtain ⟨d1, p1⟩ := p1
  obtain ⟨a, xs, ds, rfl, eH, t, _⟩ := dictIn_at o1 z1 d1
  refine ⟨a, rfl, .inl ⟨xs, .inl eH⟩, ?_⟩
  refine s2 σ H1 F1 S1 ρ _ _ o1 (l.mono x1) p1 fun y ry F2 H2 S2 x2 o2 z2 p2 => ?_
  refine s3 σ H2 F2 S2 ρ _ _ o2 (l.mono (x1.trans x2)) p2 fun w rw F3 H3 S3 x3 o3 z3 p3 => ?_
  cases ry with
  | loc _ => exact p3.elim
  | dat yd =>
    dsimp only at p3
    cases ek : toKey yd with
    | none => simp only [ek] at p3
    | some k =>
      simp only [ek] at p3
      obtain ⟨b, xs2, ds2, eb, eH2, t2, p⟩ := dictIn_at o3 (z1.mono (x2.trans x3)) p3
      cases eb
      refine ⟨valV xs2 k, by rw [toKey_at z2 ek]; exact DGet.k eH2, ?_⟩
      rcases t2.val k with ⟨e1, e2⟩ | ⟨d, v, e1, e2, z⟩
      · rw [e1] at p; rw [e2]
        exact q _ _ F3 H3 S3 (x1.trans (x2.trans x3)) o3 z3 p
      · rw [e1] at p; rw [e2]
        exact q _ _ F3 H3 S3 (x1.trans (x2.trans x3)) o3 (RAt.d z) p
end
end
end Lo

/-! Own layer, part I: walks of texts, of two tuples, of counted items; displays of dicts; methods; conversions. -/
namespace Lo
open PySem PySem.Spec PyProof.Rows L2
section
variable {X : Cx} {K : PySem.W.Frag} {F H : Hp} {S : Sto}
/-! ### walks -/
def signs (z : Str) : List PyData := z.cps.toList.map fun c => .str ⟨#[c]⟩
theorem walks_str {x : Str} : Walks K (Its x) F (signs x) where
  go := fun i F' H S _ o hi => (show i < x.cps.size by simpa [signs] using hi)
  yld := fun i F' H S v H' d _ o hd y => by
    obtain ⟨e, c, hc, rfl⟩ := y
    subst e
    have : d = .str ⟨#[c]⟩ := by
      unfold signs at hd
      rw [List.getElem?_map, Array.getElem?_toList, hc] at hd
      cases hd; rfl
    subst this
    exact ⟨F', Ext.refl F', o, .str _⟩
  stop := fun i F' H S _ o hi => (show x.cps.size ≤ i by simpa [signs] using hi)
def dItS (de : DE) : DI := fun ρ S P => de ρ S fun r S1 => match r with
  | .dat (.str z) => P (signs z) S1
  | _ => False
theorem si_str {tg e : Expr} {te : TE} {de : DE} (he : SE X e te de) : SI X tg e (iStr te) (dItS de) := by
  obtain ⟨pe, s⟩ := he
  refine ⟨pi_str pe, fun σ H F S ρ P R o l h q => s σ H F S ρ _ _ o l h fun v r F1 H1 S1 x1 o1 z1 p1 => ?_⟩
  cases r with
  | loc a => exact p1.elim
  | dat d =>
    cases d with
    | str z => exact ⟨z, z1.str, q _ _ F1 H1 S1 x1 o1 walks_str p1⟩
    | _ => exact p1.elim
def pairsD : List PyData → List PyData → List PyData
  | x :: xs, y :: ys => .tuple [x, y] :: pairsD xs ys
  | _, _ => []
theorem pairsD_length : ∀ xs ys : List PyData, (pairsD xs ys).length = min xs.length ys.length
  | [], _ => by simp [pairsD]
  | _ :: _, [] => by simp [pairsD]
  | x :: xs, y :: ys => by simp only [pairsD, List.length_cons, pairsD_length xs ys]; omega
theorem pairsD_get : ∀ {xs ys : List PyData} {i : Nat} {d : PyData}, (pairsD xs ys)[i]? = some d → ∃ x y, xs[i]? = some x ∧ ys[i]? = some y ∧ d = .tuple [x, y]
  | [], _, i, d, h => by simp [pairsD] at h
  | _ :: _, [], i, d, h => by simp [pairsD] at h
  | x :: xs, y :: ys, 0, d, h => by simp [pairsD] at h; exact ⟨x, y, rfl, rfl, h.symm⟩
  | x :: xs, y :: ys, i + 1, d, h => by
    have := pairsD_get (xs := xs) (ys := ys) (i := i) (d := d) (by simpa [pairsD] using h)
    simpa using this
theorem walks_zipT {a b : Addr} {vs ws : List V} {xs ys : List PyData} (h : SqT K F a vs) (t : DAll K F vs xs) (h' : SqT K F b ws) (t' : DAll K F ws ys) : Walks K (RZ.ItzT K a b) F (pairsD xs ys) where
  go := fun i F' H S x o hi => by
    rw [pairsD_length] at hi
    exact ⟨vs, ws, vs[i]'(by rw [t.length]; omega), ws[i]'(by rw [t'.length]; omega), o.ext.t (x.t h), o.ext.t (x.t h'), List.getElem?_eq_getElem _, List.getElem?_eq_getElem _⟩
  yld := fun i F' H S v H' d x o hd y => by
    obtain ⟨T, u, w, rfl, hT, rfl, y1, y2⟩ := y
    obtain ⟨dx, dy, e1, e2, rfl⟩ := pairsD_get hd
    obtain ⟨u', hu, z⟩ := t.get e1
    obtain ⟨w', hw, z'⟩ := t'.get e2
    have q1 := y1 vs (o.ext.t (x.t h))
    have q2 := y2 ws (o.ext.t (x.t h'))
    rw [hu] at q1; cases q1
    rw [hw] at q2; cases q2
    have f := o.free hT
    have xn := Ext.new (o := .tup [u, w]) f.1
    exact ⟨_, xn, o.newF hT _, .tup (SqT.of upd_same) (.cons (DAt.mono (x.trans xn) z) (.cons (DAt.mono (x.trans xn) z') .nil))⟩
  stop := fun i F' H S x o hi => by
    rw [pairsD_length] at hi
    exact ⟨vs, ws, o.ext.t (x.t h), o.ext.t (x.t h'), by rw [t.length, t'.length]; omega⟩
def dZip (da : DA) : DI := fun ρ S P => da ρ S fun rs S1 => match rs with
  | [.dat (.tuple xs), .dat (.tuple ys)] => P (pairsD xs ys) S1
  | _ => False
theorem si_zipT {e e2 : Expr} {ta : TA} {da : DA} {p pos tpos : Pos} {elts : List Expr} {kk : Nat} (hm : X.mg "zip" = none) (ha : SA X [e, e2] ta da) (hg : Gl X "zip" := by rfl)
    (hs : starEach [e, e2] X.env = (false, eval e X.env) :: starEach [e2] X.env := by rfl) (hpl : (backTo pos (starEach [e2] X.env)).any (·.1) = false := by rfl) :
    SI X (.Tuple elts kk tpos) (.Call (.Name "zip" p) [e, e2] [] pos) (RZ.iZipA X.K ta) (dZip da) := by
  obtain ⟨pa, s⟩ := ha
  refine ⟨RZ.pi_zipA hg hm pa hs hpl, fun σ H F S ρ P R o l h q => s σ H F S ρ _ _ o l h fun vs rs F1 H1 S1 x1 o1 z1 p1 => ?_⟩
  unfold dZip at h
  match rs, vs, z1, p1 with
  | [.dat (.tuple xs), .dat (.tuple ys)], [v, w], .cons zx (.cons zy .nil), p1 =>
    cases zx with
    | @tup a vx _ hs1 ha1 =>
      cases zy with
      | @tup b vy _ hs2 ha2 =>
        exact ⟨a, b, vx, vy, rfl, Or.inr ⟨o1.ext.t hs1, o1.ext.t hs2, q _ _ F1 H1 S1 x1 o1 (walks_zipT hs1 ha1 hs2 ha2) p1⟩⟩
/-! ### a list that shall not change any more -/
def dKeep (i : Nat) (ds : DS) : DS := fun D ρ S => match ρ[i]? with
  | some (some (.loc a)) => match S a with
    | some (.lst xs) => ds D (ρ.set i (some (.dat (.list xs)))) (gone S a)
    | some (.dct xs) => ds D (ρ.set i (some (.dat (.dict (xs.map kd))))) (gone S a)
    | none => False
  | _ => ds D ρ S
theorem SlotsOk.setR : ∀ {σ : L2.St} {ρ : Vrs} (i : Nat) {v : V} {r : Res}, SlotsOk K F σ ρ → σ[i]? = some (some v) → RAt K F v r → SlotsOk K F σ (ρ.set i (some r))
  | _, _, _, _, _, .nil, _, _ => .nil
  | _, _, 0, _, _, .cons _ t, e, h => by
    simp at e; subst e
    exact .cons h t
  | _, _, i + 1, _, _, .cons a t, e, h => .cons a (t.setR i (by simpa using e) h)
theorem sb_keep {i : Nat} {sts : List Stmt} {ts : TS} {ds : DS} (h : SB X sts ts ds) : SB X sts ts (dKeep i ds) := by
  obtain ⟨p, s⟩ := h
  refine ⟨p, fun σ H F S ρ D E o l m h => ?_⟩
  unfold dKeep at h
  split at h
  · rename_i a ea
    obtain ⟨v, ev, z⟩ := l.get ea
    obtain rfl : v = .ref a := z
    split at h
    · rename_i xs e
      obtain ⟨F2, x2, o2, d⟩ := o.freeze e
      exact s σ H F2 _ _ D E o2 ((l.mono x2).setR i ev (RAt.d d)) (m.mono x2) h
    · rename_i xs e
      obtain ⟨F2, x2, o2, d⟩ := o.freezeD e
      exact s σ H F2 _ _ D E o2 ((l.mono x2).setR i ev (RAt.d d)) (m.mono x2) h
    · exact h.elim
  · exact s σ H F S ρ D E o l m h
end
end Lo

/-! Own layer, part J: displays of dicts, methods, conversions. -/
namespace Lo
open PySem PySem.Spec PyProof.Rows L2
section
variable {X : Cx} {K : PySem.W.Frag} {F H : Hp} {S : Sto}
/-! ### {k: v, ..} -/
abbrev DPs := Vrs → Sto → (List (Res × Res) → Sto → Prop) → Prop
def SPs (X : Cx) (pos : Pos) (keys : List (Option Expr)) (values : List Expr) (trs : List (TE × TE)) (dp : DPs) : Prop := PPs X pos keys values trs ∧
  ∀ (σ : L2.St) (H F : Hp) (S : Sto) (ρ : Vrs) (P : List (Res × Res) → Sto → Prop) (Q : List (V × V) → Hp → Prop),
  Ok X.K F H S → SlotsOk X.K F σ ρ → dp ρ S P →
  (∀ vs rs F' H' S', Ext F F' → Ok X.K F' H' S' → Paired (fun (p : V × V) (q : Res × Res) => RAt X.K F' p.1 q.1 ∧ RAt X.K F' p.2 q.2) vs rs → P rs S' → Q vs H') → tPairs trs σ H Q
def dPNil : DPs := fun _ S P => P [] S
def dPCons (dk dv : DE) (dp : DPs) : DPs := fun ρ S P => dk ρ S fun x S1 => dv ρ S1 fun y S2 => dp ρ S2 fun rs S3 => P ((x, y) :: rs) S3
theorem sps_nil {pos : Pos} : SPs X pos [] [] [] dPNil := ⟨pps_nil, fun σ H F S ρ P Q o l h q => q _ _ F H S (Ext.refl F) o .nil h⟩
theorem sps_cons {pos : Pos} {k v : Expr} {ks : List (Option Expr)} {vs : List Expr} {tk tv : TE} {dk dv : DE} {trs : List (TE × TE)} {dp : DPs} (hk : SE X k tk dk) (hv : SE X v tv dv) (hr : SPs X pos ks vs trs dp) :
    SPs X pos (some k :: ks) (v :: vs) ((tk, tv) :: trs) (dPCons dk dv dp) := by
  obtain ⟨p1, s1⟩ := hk
  obtain ⟨p2, s2⟩ := hv
  obtain ⟨p3, s3⟩ := hr
  refine ⟨pps_cons p1 p2 p3, fun σ H F S ρ P Q o l h q => ?_⟩
  refine s1 σ H F S ρ _ _ o l h fun x rx F1 H1 S1 x1 o1 z1 h1 => ?_
  refine s2 σ H1 F1 S1 ρ _ _ o1 (l.mono x1) h1 fun y ry F2 H2 S2 x2 o2 z2 h2 => ?_
  refine s3 σ H2 F2 S2 ρ _ _ o2 (l.mono (x1.trans x2)) h2 fun vs rs F3 H3 S3 x3 o3 z3 h3 => ?_
  exact q _ _ F3 H3 S3 (x1.trans (x2.trans x3)) o3 (.cons ⟨z1.mono (x2.trans x3), z2.mono x3⟩ z3) h3
/-- the pairs as keys and data -/
def asKv : List (Res × Res) → Option (List (Key × PyData))
  | [] => some []
  | (.dat k, .dat d) :: r => match toKey k, asKv r with
    | some k, some r => some ((k, d) :: r)
    | _, _ => none
  | _ :: _ => none
theorem asKv_at : ∀ {vs : List (V × V)} {rs : List (Res × Res)} {kvs : List (Key × PyData)}, Paired (fun (p : V × V) (q : Res × Res) => RAt K F p.1 q.1 ∧ RAt K F p.2 q.2) vs rs → asKv rs = some kvs →
    ∃ ws : List (Key × V), vs = ws.map (fun kv => (kV kv.1, kv.2)) ∧ DKv K F ws kvs
  | _, _, _, .nil, e => by cases e; exact ⟨[], rfl, .nil⟩
  | (v, w) :: vs, (.dat k, .dat d) :: rs, kvs, .cons h t, e => by
    unfold asKv at e
    cases ek : toKey k with
    | none => rw [ek] at e; cases e
    | some key =>
      cases er : asKv rs with
      | none => rw [ek, er] at e; cases e
      | some r =>
        rw [ek, er] at e
        cases e
        obtain ⟨ws, e1, e2⟩ := asKv_at t er
        exact ⟨(key, w) :: ws, by rw [List.map_cons, ← e1, ← toKey_at h.1 ek], .cons h.2 e2⟩
  | _ :: _, (.dat _, .loc _) :: _, _, .cons _ _, e => by cases e
  | _ :: _, (.loc _, .dat _) :: _, _, .cons _ _, e => by cases e
  | _ :: _, (.loc _, .loc _) :: _, _, .cons _ _, e => by cases e
def dDisp (dp : DPs) : DE := fun ρ S P => ∀ p, S p = none → dp ρ (put S p (.dct [])) fun rs S1 => S1 p = some (.dct []) ∧ match asKv rs with
  | some kvs => kvs.length ≤ 15 ∧ P (.loc p) (put S1 p (.dct (mergeD [] kvs)))
  | none => False
theorem se_disp {pos : Pos} {keys : List (Option Expr)} {values : List Expr} {trs : List (TE × TE)} {dp : DPs} (h : SPs X pos keys values trs dp) (hall : keys.all (·.isSome) = true := by rfl) (hl : keys.length = values.length := by rfl) (h0 : keys ≠ [] := by exact fun e => nomatch e)
    (h15 : keys.length ≤ 15 := by decide) : SE X (.Dict keys values pos) (tDisp trs) (dDisp dp) := by
  obtain ⟨p, s⟩ := h
  refine ⟨pe_disp p hall hl h0 h15, fun σ H F S ρ P Q o l h q => fun a ha => ?_⟩
  have f := o.free ha
  have o1 : Ok X.K F (upd H a (.dK [])) (put S a (.dct [])) := o.newS (c := .dct []) ha ⟨[], upd_same, .nil⟩
  refine s σ _ F _ ρ _ _ o1 l (h a f.2) fun vs rs F1 H1 S1 x1 o2 z p1 => ?_
  obtain ⟨e1, p1⟩ := p1
  obtain ⟨_, us, eH, t⟩ := o2.sto a _ e1
  cases t
  cases ek : asKv rs with
  | none => rw [ek] at p1; exact p1.elim
  | some kvs =>
    rw [ek] at p1
    obtain ⟨ws, rfl, t⟩ := asKv_at z ek
    refine ⟨eH, ws, rfl, by rw [t.length]; exact p1.1, ?_⟩
    exact q _ _ F1 _ _ x1 (o2.write (c := .dct (mergeD [] kvs)) e1 ⟨_, upd_same, t.merge .nil⟩) (show RAt X.K F1 _ (.loc a) from rfl) p1.2
/-- {} -/
def dNewD : DE := fun _ S P => ∀ p, S p = none → P (.loc p) (put S p (.dct []))
theorem se_newD {pos : Pos} : SE X (.Dict [] [] pos) tDNewK dNewD := ⟨pe_dnewK, fun σ H F S ρ P Q o l h q => fun a ha => by
  have f := o.free ha
  exact q _ _ F _ _ (Ext.refl F) (o.newS (c := .dct []) ha ⟨[], upd_same, .nil⟩) (show RAt X.K F _ (.loc a) from rfl) (h a f.2)⟩
/-! ### methods of built-in kinds -/
abbrev DM := Res → List Res → Sto → PK → Prop
def SM (X : Cx) (id : String) (r : V → List V → Hp → VK → Prop) (o : DM) : Prop := MtR X id r ∧ ∀ (x : V) (xs : List V) (H F : Hp) (S : Sto) (rx : Res) (rs : List Res) (P : PK) (Q : VK),
  Ok X.K F H S → RAt X.K F x rx → RAll X.K F xs rs → o rx rs S P → (∀ v r F' H' S', Ext F F' → Ok X.K F' H' S' → RAt X.K F' v r → P r S' → Q v H') → r x xs H Q
def tyR (T : String) (S : Sto) : Res → Prop
  | .dat (.str _) => T = "str"
  | .dat (.int _) => T = "int"
  | .dat (.list _) => T = "list"
  | .loc a => match S a with
    | some (.lst _) => T = "list"
    | some (.dct _) => T = "dict"
    | none => False
  | _ => False
theorem tyR_at {T : String} {v : V} {r : Res} (o : Ok K F H S) (z : RAt K F v r) (h : tyR T S r) : tyV K T v H := by
  cases r with
  | dat d =>
    cases d with
    | str x => obtain rfl := z.str; exact h
    | int x => obtain rfl := z.int; exact h
    | list x =>
      cases z with
      | lst hs ha => exact Or.inl ⟨h, _, SqL.of (o.ext _ _ hs)⟩
    | _ => exact h.elim
  | loc a =>
    obtain rfl : v = .ref a := z
    dsimp only [tyR] at h
    cases e : S a with
    | none => rw [e] at h; exact h.elim
    | some c =>
      rw [e] at h
      obtain ⟨_, q⟩ := o.sto a _ e
      cases c with
      | lst xs => obtain ⟨vs, e, _⟩ := q; exact Or.inl ⟨h, _, SqL.of e⟩
      | dct xs => obtain ⟨vs, e, _⟩ := q; exact Or.inr (Or.inr (Or.inl ⟨h, Or.inl ⟨_, e⟩⟩))
def dM (T : String) (o : DM) (de : DE) (da : DA) : DE := fun ρ S P => de ρ S fun r S1 => tyR T S1 r ∧ da ρ S1 fun rs S2 => o r rs S2 P
def dM0 (T : String) (o : DM) (de : DE) : DE := fun ρ S P => de ρ S fun r S1 => tyR T S1 r ∧ o r [] S1 P
section
variable {o e : Expr} {es : List Expr} {apos cpos : Pos} {to : TE} {ta : TA} {de : DE} {da : DA} {T id : String} {name : Str} {r : V → List V → Hp → VK → Prop} {om : DM}
theorem se_m0 (pa : PlainAttrs T) (slot : Slot T name id) (hty : typeOf (.builtin id) = pure (.type "method_descriptor")) (hm : SM X id r om) (ho : SE X o to de)
    (hbase : attributeBase o name X.env (eval o X.env) = eval o X.env := by rfl) (hline : (apos.endLine == cpos.line) = true := by rfl) : SE X (.Call (.Attribute o name apos) [] [] cpos) (tBM0 X.K T r to) (dM0 T om de) := by
  obtain ⟨pm, sm⟩ := hm
  obtain ⟨po, so⟩ := ho
  refine ⟨pe_bm0 pa slot hty pm po hbase hline, fun σ H F S ρ P Q o l h q => so σ H F S ρ _ _ o l h fun v r F1 H1 S1 x1 o1 z1 p1 => ?_⟩
  exact ⟨tyR_at o1 z1 p1.1, sm v [] H1 F1 S1 r [] P Q o1 z1 .nil p1.2 fun v r F2 H2 S2 x2 => q v r F2 H2 S2 (x1.trans x2)⟩
theorem se_m (pa : PlainAttrs T) (slot : Slot T name id) (hty : typeOf (.builtin id) = pure (.type "method_descriptor")) (hm : SM X id r om) (ho : SE X o to de) (ha : SA X (e :: es) ta da)
    (hbase : attributeBase o name X.env (eval o X.env) = eval o X.env := by rfl)
    (hfew : ((backTo cpos (starEach (e :: es) X.env)).all (fun x => !x.1) && (backToKw cpos (keywordEach [] X.env)).all (fun x => x.1.isSome)
      && decide ((e :: es).length + ([] : List Keyword).length + (if ([] : List Keyword).isEmpty then 0 else 1) < 30)) = true := by rfl)
    (hline : (apos.endLine == cpos.line) = true := by rfl) (hs : starEach (e :: es) X.env = (false, eval e X.env) :: starEach es X.env := by rfl) (hplain : (backTo cpos (starEach es X.env)).any (·.1) = false := by rfl) :
    SE X (.Call (.Attribute o name apos) (e :: es) [] cpos) (tBM X.K T r to ta) (dM T om de da) := by
  obtain ⟨pm, sm⟩ := hm
  obtain ⟨po, so⟩ := ho
  obtain ⟨p2, s2⟩ := ha
  refine ⟨pe_bm pa slot hty pm po p2 hbase hfew hline hs hplain, fun σ H F S ρ P Q o l h q => so σ H F S ρ _ _ o l h fun v r F1 H1 S1 x1 o1 z1 p1 => ?_⟩
  refine ⟨tyR_at o1 z1 p1.1, s2 σ H1 F1 S1 ρ _ _ o1 (l.mono x1) p1.2 fun vs rs F2 H2 S2 x2 o2 z2 p2 => ?_⟩
  exact sm v vs H2 F2 S2 r rs P Q o2 (z1.mono x2) z2 p2 fun v r F3 H3 S3 x3 => q v r F3 H3 S3 (x1.trans (x2.trans x3))
end
def mAppend : DM := fun x rs S P => match x, rs with
  | .loc a, [.dat d] => match S a with
    | some (.lst xs) => xs.length < 1000000 ∧ P (.dat .none) (put S a (.lst (xs ++ [d])))
    | _ => False
  | _, _ => False
theorem sm_append : SM X "list.append" rAppend mAppend := by
  refine ⟨mt_append, fun x xs H F S rx rs P Q o z zs h q => ?_⟩
  unfold mAppend at h
  split at h
  · rename_i a d
    split at h
    · rename_i ds e
      obtain rfl : x = .ref a := z
      obtain ⟨f, vs, eH, t⟩ := o.sto a _ e
      match xs, zs with
      | [v], .cons zv .nil =>
        exact ⟨a, vs, v, rfl, rfl, eH, by rw [t.length, sizeLine_eq]; have := h.1; omega, q _ _ F _ _ (Ext.refl F) (o.write (c := .lst (ds ++ [d])) e ⟨_, upd_same, t.append (.cons zv .nil)⟩) (RAt.d .non) h.2⟩
    · exact h.elim
  · exact h.elim
def mExtend : DM := fun x rs S P => match x, rs with
  | .loc a, [r] => match S a, peek S r with
    | some (.lst xs), some (.list ys) => xs.length + ys.length ≤ 1000000 ∧ P (.dat .none) (put S a (.lst (xs ++ ys)))
    | _, _ => False
  | _, _ => False
theorem sm_extend : SM X "list.extend" rExtend mExtend := by
  refine ⟨mt_extend, fun x xs H F S rx rs P Q o z zs h q => ?_⟩
  unfold mExtend at h
  split at h
  · rename_i a r
    split at h
    · rename_i ds es e ee
      obtain rfl : x = .ref a := z
      obtain ⟨f, vs, eH, t⟩ := o.sto a _ e
      match xs, zs with
      | [v], .cons zv .nil =>
        obtain ⟨b, ws, rfl, eB, tb⟩ := peek_listF o zv ee
        exact ⟨a, b, vs, ws, rfl, rfl, eH, eB, by rw [t.length, tb.length]; exact szl h.1, q _ _ F _ _ (Ext.refl F) (o.write (c := .lst (ds ++ es)) e ⟨_, upd_same, t.append tb⟩) (RAt.d .non) h.2⟩
    · exact h.elim
  · exact h.elim
theorem DAll.eraseIdx : ∀ {vs : List V} {ds : List PyData} (n : Nat), DAll K F vs ds → DAll K F (vs.eraseIdx n) (ds.eraseIdx n)
  | _, _, n, .nil => by cases n <;> exact .nil
  | _, _, 0, .cons _ t => t
  | _, _, n + 1, .cons h t => .cons h (t.eraseIdx n)
def mPopAt : DM := fun x rs S P => match x, rs with
  | .loc a, [.dat (.int i)] => match S a with
    | some (.lst xs) => match seqIndex? i xs.length with
      | some k => match xs[k]? with
        | some d => -(2 ^ 63) ≤ i ∧ i < 2 ^ 63 ∧ P (.dat d) (put S a (.lst (xs.eraseIdx k)))
        | none => False
      | none => False
    | _ => False
  | _, _ => False
theorem sm_popAt : SM X "list.pop" rPopAt mPopAt := by
  refine ⟨mt_popAt, fun x xs H F S rx rs P Q o z zs h q => ?_⟩
  unfold mPopAt at h
  split at h
  · rename_i a i
    split at h
    · rename_i ds e
      split at h
      · rename_i k ek
        split at h
        · rename_i d ed
          obtain rfl : x = .ref a := z
          obtain ⟨f, vs, eH, t⟩ := o.sto a _ e
          match xs, zs with
          | [v], .cons zv .nil =>
            obtain rfl := zv.int
            obtain ⟨u, eu, zu⟩ := t.get ed
            refine ⟨a, vs, i, k, u, rfl, rfl, eH, h.1, h.2.1, by rw [t.length]; exact ek, eu, q _ _ F _ _ (Ext.refl F) (o.write (c := .lst (ds.eraseIdx k)) e ⟨_, upd_same, t.eraseIdx k⟩) (RAt.d zu) h.2.2⟩
        · exact h.elim
      · exact h.elim
    · exact h.elim
  · exact h.elim
end
end Lo

/-! Own layer, part K: slices with a step; conversions; repr; sorted. -/
namespace Lo
open PySem PySem.Spec PyProof.Rows L2
/-- where a slice with a step begins and how many it takes -/
def stAdj (lo hi : Option Int) (st : Int) (n : Nat) : Int × Nat :=
  ((Builtin.Slice.sliceAdjust lo hi st n).1, Builtin.Slice.slicePlaces (Builtin.Slice.sliceAdjust lo hi st n).1 (Builtin.Slice.sliceAdjust lo hi st n).2 st)
def stepL {α : Type} (xs : List α) (lo hi : Option Int) (st : Int) : List α :=
  (List.range (stAdj lo hi st xs.length).2).filterMap fun (k : Nat) => xs[((stAdj lo hi st xs.length).1 + (k : Int) * st).toNat]?
section
variable {pg : Program} {wd : World} {A : Around} {E : Value → Shared → Prop} {s : Shared}
theorem sliceApplied_st {sl : Addr} {vl vu : Value} {lo hi : Option Int} {st : Int} {tk : Tok} {n : Nat} {Q : Int × Int × Nat → Shared → Prop} (hSl : s.heap.IsSliceOf sl vl vu (.int st tk)) (pLo : IsPart vl lo) (pHi : IsPart vu hi) (h0 : st ≠ 0)
    (hq : Q ((stAdj lo hi st n).1, st, (stAdj lo hi st n).2) s) : wpAny (model pg wd) A (Builtin.Slice.sliceApplied (.ref sl) (pure (n : Int))) Q E s := by
  obtain ⟨oSl0, gSl, cSl, dSl⟩ := id hSl
  unfold Builtin.Slice.sliceApplied Builtin.Slice.sliceFields
  refine wpAny_bind (wpAny_bind (wpAny_field gSl dSl (x := vl) rfl (wpAny_bind (wpAny_field gSl dSl (x := vu) rfl (wpAny_bind (wpAny_field gSl dSl (x := .int st tk) rfl (wpAny_pure ?_)))))))
  refine wpAny_bind (HT.slicePart_ (.int st tk) ?_)
  show wpAny _ _ (if ((st : Int) == 0) = true then _ else _) _ _ s
  rw [if_neg (by simpa using h0)]
  refine wpAny_bind (HT.slicePart_ pLo (wpAny_bind (HT.slicePart_ pHi (wpAny_bind (wpAny_pure ?_)))))
  exact wpAny_pure hq
/-- what is picked: as many as places -/
theorem stepL_arr {α : Type} (ys : Array α) (lo hi : Option Int) (st : Int) : ((List.range (stAdj lo hi st ys.size).2).filterMap fun (k : Nat) => ys[((stAdj lo hi st ys.size).1 + (k : Int) * st).toNat]?) = stepL ys.toList lo hi st := by
  show _ = (List.range (stAdj lo hi st ys.toList.length).2).filterMap _
  rw [Array.length_toList]
  exact congrArg (fun f => List.filterMap f _) (funext fun k => (Array.getElem?_toList ..).symm)
theorem stepL_fits {ys : Array Value} {lo hi : Option Int} {st : Int} (h : (stAdj lo hi st ys.size).2 ≤ sizeLine) : sizeOk (.seq (stepL ys.toList lo hi st).toArray) := by
  show (stepL ys.toList lo hi st).toArray.size ≤ _
  rw [← stepL_arr, List.size_toArray]
  exact Nat.le_trans (List.length_filterMap_le _ _) (Nat.le_trans (Nat.le_of_eq List.length_range) h)
/-- t[lo:hi:st] of a tuple makes a new one -/
theorem getItem_tuple_step {t sl : Addr} {ys : Array Value} {vl vu : Value} {lo hi : Option Int} {st : Int} {tk : Tok} {Q : Value → Shared → Prop} (hT : IsTup s.heap t ys) (hS : s.heap.IsSliceOf sl vl vu (.int st tk)) (pL : IsPart vl lo) (pH : IsPart vu hi)
    (h0 : st ≠ 0) (h1 : st ≠ 1) (hk : (stAdj lo hi st ys.size).2 ≤ sizeLine)
    (hq : Q (.ref s.heap.objs.size) { s with heap := s.heap.push { cls := .type "tuple", data := .seq (stepL ys.toList lo hi st).toArray } }) : wpAny (model pg wd) A (getItem (.ref t) (.ref sl)) Q E s := by
  have whole : ((stAdj lo hi st ys.size).1 == 0 && st == 1 && (stAdj lo hi st ys.size).2 == ys.size) = false := by
    rw [show (st == 1) = false from beq_eq_false_iff_ne.mpr h1, Bool.and_false, Bool.false_and]
  have kind : s.TypeIs (.ref sl) "slice" := hS.imp fun _ z => ⟨z.1, z.2.1⟩
  unfold getItem
  first | with_reducible refine wpAny_holding ?_ | skip
  first | refine wpAny_bind (wpAny_pure ?_) | skip
  refine wpAny_bind (wpAny_sequenceKey hT.typeIs (by decide) ?_)
  refine wpAny_bind (wpAny_callSpecial?_slot (name := Str.ofString "__getitem__") hT.typeIs slot_tuple_getitem ?_)
  refine wpAny_call_entry slot_tuple_getitem hT.typeIs entry_tuple_getitem ?body (args_tuple_getitem _ _)
  show wpAny _ _ (Builtin.Tuple.tupleItemsOf (.ref t) >>= _) _ _ s
  refine wpAny_bind (tupleItemsOf_ hT ?_)
  refine wpAny_bind (wpAny_typeOf kind ?_)
  rw [if_pos (by decide)]
  refine wpAny_bind (sliceApplied_st hS pL pH h0 ?_)
  simp only [whole, stepL_arr, Bool.false_eq_true, if_false]
  refine wpAny_bind (m := Builtin.Tuple.tupleExact _) (wpAny_newObj_type ?_ (stepL_fits hk))
  first
    | exact wpAny_pure ⟨_, rfl, wpAny_pure hq⟩
    | exact wpAny_bind (wpAny_pure (wpAny_pure ⟨_, rfl, wpAny_pure hq⟩))
end
/-- .. of a list -/
def stepP {α : Type} (xs : List α) (lo hi : Option Int) (st : Int) : List α :=
  (sliceRange (PySem.sliceBounds lo hi (some st) xs.length).1 (PySem.sliceBounds lo hi (some st) xs.length).2.1 (PySem.sliceBounds lo hi (some st) xs.length).2.2).filterMap (xs[·]?)
section
variable {X : Cx} {K : PySem.W.Frag} {F H : Hp} {S : Sto}
theorem Vals.pick {vs : List V} {us : List Value} (h : Vals vs us) : ∀ is : List Nat, Vals (is.filterMap (vs[·]?)) (is.filterMap (us[·]?))
  | [] => .nil
  | i :: is => by
    rw [List.filterMap_cons, List.filterMap_cons]
    cases e : vs[i]? with
    | none =>
      have : us[i]? = none := by
        rw [List.getElem?_eq_none_iff] at e ⊢
        rw [← h.length]; exact e
      rw [this]
      exact Vals.pick h is
    | some v =>
      obtain ⟨u, hu, r⟩ := h.get e
      rw [hu]
      exact .cons r (Vals.pick h is)
theorem DAll.pick {vs : List V} {ds : List PyData} (h : DAll K F vs ds) : ∀ is : List Nat, DAll K F (is.filterMap (vs[·]?)) (is.filterMap (ds[·]?))
  | [] => .nil
  | i :: is => by
    rw [List.filterMap_cons, List.filterMap_cons]
    cases e : ds[i]? with
    | none =>
      have : vs[i]? = none := by
        rw [List.getElem?_eq_none_iff] at e ⊢
        rw [h.length]; exact e
      rw [this]
      exact DAll.pick h is
    | some d =>
      obtain ⟨v, hv, z⟩ := h.get e
      rw [hv]
      exact .cons z (DAll.pick h is)
theorem stepL_pick {α : Type} (xs : List α) (lo hi : Option Int) (st : Int) : stepL xs lo hi st = ((List.range (stAdj lo hi st xs.length).2).map fun (k : Nat) => ((stAdj lo hi st xs.length).1 + (k : Int) * st).toNat).filterMap (xs[·]?) := by
  unfold stepL
  rw [List.filterMap_map]
  rfl
theorem length_pick {α : Type} (xs : List α) (is : List Nat) : (is.filterMap (xs[·]?)).length ≤ is.length := List.length_filterMap_le _ _
theorem mem_pick {α : Type} {xs : List α} {is : List Nat} {x : α} (h : x ∈ is.filterMap (xs[·]?)) : x ∈ xs := by
  obtain ⟨i, _, e⟩ := List.mem_filterMap.mp h
  exact List.mem_of_getElem? e
/-- a slice with a step, of a list or a tuple, by values -/
def rStA (K : PySem.W.Frag) (v : V) (lo hi : Option Int) (st : Int) (H : Hp) (Q : VK) : Prop :=
  (∃ a xs, v = .ref a ∧ SqT K H a xs ∧ st ≠ 0 ∧ st ≠ 1 ∧ (stAdj lo hi st xs.length).2 ≤ sizeLine ∧ ∀ p, H p = none → Q (.ref p) (upd H p (.tup (stepL xs lo hi st)))) ∨
  ∃ a xs, v = .ref a ∧ SqL K H a xs ∧ st ≠ 0 ∧ (stepP xs lo hi st).length ≤ sizeLine ∧ ∀ p, H p = none → Q (.ref p) (upd H p (.lst (stepP xs lo hi st)))
def tSt (K : PySem.W.Frag) (te : TE) (tl th ts : TO) : TE := fun σ H Q => te σ H fun x H1 => tl σ H1 fun l H2 => th σ H2 fun u H3 => ts σ H3 fun st H4 => ∃ k, st = some k ∧ rStA K x l u k H4 Q
theorem IsPart.some_int {v : Value} {k : Int} (h : IsPart v (some k)) : ∃ t, v = .int k t := by
  cases h with
  | int i t => exact ⟨t, rfl⟩
theorem pe_step {e : Expr} {te : TE} {lo hi : Option Expr} {st : Expr} {tl th ts : TO} {pos p2 : Pos} (he : PE X e te) (hl : PO X lo tl) (hu : PO X hi th) (hst : PO X (some st) ts) : PE X (.Subscript e (.Slice lo hi (some st) p2) pos) (tSt X.K te tl th ts) := by
  refine ⟨fun pins s σ H Q I h => ?_⟩
  refine Subscript_ (thn (he.run pins s σ H _ I h) fun v s1 ⟨x, H1, I1, r1, q1⟩ => ?_)
  refine wpAny_Slice (thn (hl.run pins s1 σ H1 _ I1 q1) fun vl s2 ⟨l, H2, I2, pl, q2⟩ => thn (hu.run pins s2 σ H2 _ I2 q2) fun vu s3 ⟨u, H3, I3, pu, q3⟩ => thn (hst.run pins s3 σ H3 _ I3 q3) fun vs s4 ⟨sk, H4, I4', ps, k, ek, q4⟩ => ?_)
  subst ek
  obtain ⟨tk, rfl⟩ := IsPart.some_int ps
  have I4 : Inv X pins σ H4 { s4 with heap := s4.heap.push { cls := .type "slice", data := .fields #[vl, vu, .int k tk] } } := I4'.kept (t' := s4.toks) fun b ob q => Heap.get?_push_of_some _ q
  have hs : ({ s4 with heap := s4.heap.push { cls := .type "slice", data := .fields #[vl, vu, .int k tk] } } : Shared).heap.IsSliceOf s4.heap.objs.size vl vu (.int k tk) := Heap.IsSliceOf.new ..
  show wpAny (model X.prog X.w) X.A (subscriptTail e (.Slice lo hi (some st) p2) v (.ref s4.heap.objs.size)) (EP X pins σ Q) X.xe { s4 with heap := s4.heap.push { cls := .type "slice", data := .fields #[vl, vu, .int k tk] } }
  generalize hs4 : ({ s4 with heap := s4.heap.push { cls := .type "slice", data := .fields #[vl, vu, .int k tk] } } : Shared) = s5 at I4 hs ⊢
  rcases q4 with ⟨a, xs, rfl, hx, h0, h1, hk, q⟩ | ⟨a, xs, rfl, hx, h0, hk, q⟩
  · cases r1
    obtain ⟨its, r, ht, hz⟩ := I4.tuple hx
    have hlen := r.length
    refine tail_any (ops := [.ref a, .ref s4.heap.objs.size]) ht.typeIs PyProof.Rows.slot_tuple_getitem.lookup ?_ (by with_unfolding_all rfl)
    refine getItem_tuple_step ht hs pl pu h0 h1 (by rw [List.size_toArray, ← hlen]; exact hk) ?_
    refine ⟨.ref s5.heap.objs.size, _, I4.laid (t' := s5.toks) (o := .tup (stepL xs l u k)) (fun b ob q => Heap.get?_push_of_some _ q) (Nat.le_refl _) ?_, rfl, q _ (I4.hok.fresh (Nat.le_refl _))⟩
    refine ⟨?_, stepL its l u k, ?_, _, Heap.get?_push_size _ rfl, rfl, 0, rfl⟩
    · rw [stepL_pick]
      refine Nat.le_trans (length_pick _ _) ?_
      rw [List.length_map, List.length_range]; exact hk
    · rw [stepL_pick, stepL_pick, hlen]
      exact Vals.pick r _
  · cases r1
    obtain ⟨its, r, ht, hz⟩ := I4.list hx
    have hlen := r.length
    refine tail_any (ops := [.ref a, .ref s4.heap.objs.size]) ht.isList.typeIs slot_list_getitem.lookup ?_ (by with_unfolding_all rfl)
    refine wpAny_getItem_list_slice ht.isList hs pl pu (.int k tk) (fun e => h0 (by cases e; rfl)) ?_ (by rw [List.size_toArray] <;> omega)
    have e : slicePick its.toArray l u (some k) = (stepP its l u k).toArray := by
      unfold slicePick stepP
      rw [List.size_toArray]
      congr 1
      simp only [List.getElem?_toArray]
    rw [e]
    refine ⟨.ref s5.heap.objs.size, _, I4.laid (t' := s5.toks) (o := .lst (stepP xs l u k)) (fun b ob q => Heap.get?_push_of_some _ q) (Nat.le_refl _) ?_, rfl, q _ (I4.hok.fresh (Nat.le_refl _))⟩
    refine ⟨hk, _, 0, ?_, Heap.get?_push_size _ rfl⟩
    unfold stepP
    rw [hlen]
    exact Vals.pick r _

def oSt (x : Res) (lo hi : Option Int) (k : Int) : Sto → PK → Prop := fun S P => match peek S x with
  | some (.tuple xs) => k ≠ 0 ∧ k ≠ 1 ∧ (stAdj lo hi k xs.length).2 ≤ 1000000 ∧ P (.dat (.tuple (stepL xs lo hi k))) S
  | some (.list xs) => k ≠ 0 ∧ (stepP xs lo hi k).length ≤ 1000000 ∧ ∀ p, S p = none → P (.loc p) (put S p (.lst (stepP xs lo hi k)))
  | _ => False
def dSt (de : DE) (dl dh ds : Vrs → Sto → (Option Int → Sto → Prop) → Prop) : DE := fun ρ S P => de ρ S fun x S1 => dl ρ S1 fun l S2 => dh ρ S2 fun u S3 => ds ρ S3 fun st S4 => match st with
  | some k => oSt x l u k S4 P
  | none => False
theorem se_step {e : Expr} {te : TE} {de : DE} {lo hi : Option Expr} {st : Expr} {tl th ts : TO} {dl dh ds : Vrs → Sto → (Option Int → Sto → Prop) → Prop} {pos p2 : Pos} (he : SE X e te de) (hl : SPt X lo tl dl) (hu : SPt X hi th dh) (hst : SPt X (some st) ts ds) : SE X (.Subscript e (.Slice lo hi (some st) p2) pos) (tSt X.K te tl th ts) (dSt de dl dh ds) := by
  obtain ⟨pe, s1⟩ := he
  obtain ⟨pl, s2⟩ := hl
  obtain ⟨pu, s3⟩ := hu
  obtain ⟨pst, s4⟩ := hst
  refine ⟨pe_step pe pl pu pst, fun σ H F S ρ P Q o l h q => ?_⟩
  refine s1 σ H F S ρ _ _ o l h fun v r F1 H1 S1 x1 o1 z1 p1 => ?_
  refine s2 σ H1 F1 S1 ρ _ _ o1 (l.mono x1) p1 fun lo F2 H2 S2 x2 o2 p2 => ?_
  refine s3 σ H2 F2 S2 ρ _ _ o2 (l.mono (x1.trans x2)) p2 fun hi F3 H3 S3 x3 o3 p3 => ?_
  refine s4 σ H3 F3 S3 ρ _ _ o3 (l.mono (x1.trans (x2.trans x3))) p3 fun st F4 H4 S4 x4 o4 p4 => ?_
  have z4 := z1.mono (x2.trans (x3.trans x4))
  have kk : ∀ v r F' H' S', Ext F4 F' → Ok X.K F' H' S' → RAt X.K F' v r → P r S' → Q v H' := fun v r F' H' S' x => q v r F' H' S' ((x1.trans (x2.trans (x3.trans x4))).trans x)
  cases st with
  | none => exact p4.elim
  | some k =>
    refine ⟨k, rfl, ?_⟩
    dsimp only at p4
    unfold oSt at p4
    split at p4
    · rename_i xs ex
      obtain rfl := peek_dat ex (fun _ => by simp) (fun _ => by simp)
      cases z4 with
      | @tup a vx _ hs ha =>
        obtain ⟨h0, h1, h2, h3⟩ := p4
        refine Or.inl ⟨a, vx, rfl, o4.ext.t hs, h0, h1, by rw [ha.length]; exact szl h2, fun p hp => ?_⟩
        have f := o4.free hp
        have x := Ext.new (o := .tup (stepL vx lo hi k)) f.1
        refine kk _ _ _ _ S4 x (o4.newF hp _) (RAt.d (.tup (SqT.of upd_same) ?_)) h3
        refine DAll.mono x ?_
        rw [stepL_pick, stepL_pick, ha.length]
        exact ha.pick _
    · rename_i xs ex
      obtain ⟨a, us, rfl, ha, za⟩ := peek_listF o4 z4 ex
      obtain ⟨h0, h1, h2⟩ := p4
      have hz : DAll X.K F4 (stepP us lo hi k) (stepP xs lo hi k) := by
        unfold stepP
        rw [za.length]
        exact za.pick _
      refine Or.inr ⟨a, us, rfl, SqL.of ha, h0, by rw [hz.length]; exact szl h1, fun p hp => ?_⟩
      have f := o4.free hp
      exact kk _ _ F4 _ _ (Ext.refl F4) (o4.newL hp hz) (show RAt X.K F4 _ (.loc p) from rfl) (h2 p f.2)
    · exact p4.elim
/-! ### conversions -/
/-- list(..) of a list or a tuple -/
def cList : DC := fun rs S P => match rs with
  | [r] => match (peek S r).bind itemsOf with
    | some xs => ∀ p, S p = none → P (.loc p) (put S p (.lst xs))
    | none => False
  | _ => False
theorem sc_list : SC X (.type "list") (fun xs H Q => ∃ p ys, xs = [.ref p] ∧ (SqL X.K H p ys ∨ SqT X.K H p ys) ∧ ∀ l, H l = none → Q (.ref l) (upd H l (.lst ys))) cList := by
  refine ⟨call_list_of, fun xs H F S rs P Q o z h q => ?_⟩
  unfold cList at h
  match rs, xs, z, h with
  | [r], [v], .cons z .nil, h =>
    dsimp only at h
    cases e : peek S r with
    | none => rw [e] at h; exact h.elim
    | some d =>
      rw [e] at h
      cases d with
      | list ds =>
        obtain ⟨a, us, rfl, ha, za⟩ := peek_listF o z e
        refine ⟨a, us, rfl, Or.inl (SqL.of ha), fun p hp => ?_⟩
        exact q _ _ F _ _ (Ext.refl F) (o.newL hp za) (show RAt X.K F _ (.loc p) from rfl) (h p (o.free hp).2)
      | tuple ds =>
        obtain rfl := peek_dat e (fun _ => by simp) (fun _ => by simp)
        cases z with
        | @tup a vx _ hs ha =>
          refine ⟨a, vx, rfl, Or.inr (o.ext.t hs), fun p hp => ?_⟩
          exact q _ _ F _ _ (Ext.refl F) (o.newL hp ha) (show RAt X.K F _ (.loc p) from rfl) (h p (o.free hp).2)
      | _ => exact h.elim
def cTuple : DC := fun rs S P => match rs with
  | [r] => match (peek S r).bind itemsOf with
    | some xs => P (.dat (.tuple xs)) S
    | none => False
  | _ => False
theorem sc_tuple : SC X (.type "tuple") (fun xs H Q => ∃ p ys, xs = [.ref p] ∧ ((SqL X.K H p ys ∧ ∀ l, H l = none → Q (.ref l) (upd H l (.tup ys))) ∨ (SqT X.K H p ys ∧ Q (.ref p) H))) cTuple := by
  refine ⟨call_tuple_of, fun xs H F S rs P Q o z h q => ?_⟩
  unfold cTuple at h
  match rs, xs, z, h with
  | [r], [v], .cons z .nil, h =>
    dsimp only at h
    cases e : peek S r with
    | none => rw [e] at h; exact h.elim
    | some d =>
      rw [e] at h
      cases d with
      | list ds =>
        obtain ⟨a, us, rfl, ha, za⟩ := peek_listF o z e
        refine ⟨a, us, rfl, Or.inl ⟨SqL.of ha, fun p hp => ?_⟩⟩
        have f := o.free hp
        have x := Ext.new (o := .tup us) f.1
        exact q _ _ _ _ S x (o.newF hp _) (RAt.d (.tup (SqT.of upd_same) (za.mono x))) h
      | tuple ds =>
        obtain rfl := peek_dat e (fun _ => by simp) (fun _ => by simp)
        cases z with
        | @tup a vx _ hs ha => exact ⟨a, vx, rfl, Or.inr ⟨o.ext.t hs, q _ _ F H S (Ext.refl F) o (RAt.d (.tup hs ha)) h⟩⟩
      | _ => exact h.elim
/-- str(..) of an int, a text, a bool, None -/
def bStr (b : Bool) : Str := if b = true then "True" else "False"
def cStr : DC := fun rs S P => match rs with
  | [.dat (.int i)] => i.natAbs.log2 < 1920 ∧ P (.dat (.str (toString i))) S
  | [.dat (.str z)] => P (.dat (.str z)) S
  | [.dat (.bool b)] => P (.dat (.str (bStr b))) S
  | [.dat .none] => P (.dat (.str "None")) S
  | _ => False
theorem call_str_bl : CallR X (.type "str") (fun xs H Q => (∃ b, xs = [.bl b] ∧ Q (.str (bStr b)) H) ∨ (xs = [.non] ∧ Q (.str "None") H)) := by
  intro pins s σ H xs us Q I r h
  rcases h with ⟨b, rfl, q⟩ | ⟨rfl, q⟩
  · obtain ⟨u, rfl, ru⟩ := vals1 r
    cases ru
    exact PySem.P.str_of_bool ⟨.str (bStr b), H, I.tok _, ⟨_, by unfold bStr; cases b <;> rfl⟩, q⟩
  · obtain ⟨u, rfl, ru⟩ := vals1 r
    cases ru
    exact PySem.P.str_of_none ⟨.str "None", H, I.tok _, ⟨_, rfl⟩, q⟩
theorem sc_str : SC X (.type "str") (fun xs H Q => (∃ i, xs = [.int i] ∧ i.natAbs.log2 < 1920 ∧ Q (.str (toString i)) H) ∨ (∃ a, xs = [.str a] ∧ Q (.str a) H) ∨ (∃ b, xs = [.bl b] ∧ Q (.str (bStr b)) H) ∨ (xs = [.non] ∧ Q (.str "None") H)) cStr :=
  ⟨CallR.or call_str_int (CallR.or SkE.call_str_str call_str_bl), fun xs H F S rs P Q o z h q => by
    match rs, xs, z, h with
    | [.dat (.int i)], [_], .cons z .nil, h => obtain rfl := z.int; exact Or.inl ⟨i, rfl, h.1, q _ _ F H S (Ext.refl F) o (RAt.d (.str _)) h.2⟩
    | [.dat (.str k)], [_], .cons z .nil, h => obtain rfl := z.str; exact Or.inr (Or.inl ⟨k, rfl, q _ _ F H S (Ext.refl F) o (RAt.d (.str _)) h⟩)
    | [.dat (.bool k)], [_], .cons z .nil, h => obtain rfl := z.bl; exact Or.inr (Or.inr (Or.inl ⟨k, rfl, q _ _ F H S (Ext.refl F) o (RAt.d (.str _)) h⟩))
    | [.dat .none], [_], .cons z .nil, h => obtain rfl := z.non; exact Or.inr (Or.inr (Or.inr ⟨rfl, q _ _ F H S (Ext.refl F) o (RAt.d (.str _)) h⟩))⟩
/-! ### repr of data -/
def rRepr (X : Cx) : List V → Hp → VK → Prop := fun xs H Q => ∃ v d, xs = [v] ∧ DAt X.K H v d ∧ d.canLay0 = true ∧ d.showable = true ∧ d.shown.length ≤ sizeLine ∧ X.A.units + (d.depth + 1) < cLine ∧ Q (.str d.shown) H
theorem noDict_lay : ∀ d : PyData, d.canLay0 = true → d.hasDict = false := PyData.hasDict_of_canLay
theorem cr_repr (hG : X.A.guards = some []) : CallR X (.builtin "repr") (rRepr X) := by
  intro pins s σ H xs us Q I r h
  obtain ⟨v, d, rfl, z, hc, hs, hl, hu, q⟩ := h
  obtain ⟨u, rfl, ru⟩ := vals1 r
  obtain ⟨as, rd⟩ := Dp.reads I d v u (DAt.dp z hc) ru
  cases z with
  | non => cases ru; exact PySem.P.repr_of_none ⟨.str _, H, I.tok _, ⟨_, rfl⟩, q⟩
  | bl b => cases ru; exact PySem.P.repr_of_bool ⟨.str _, H, I.tok _, ⟨_, rfl⟩, q⟩
  | int i =>
    obtain ⟨t, rfl⟩ := ru
    exact PySem.P.repr_of_int (by simpa [PyData.showable] using hs) ⟨.str _, H, I.tok _, ⟨_, rfl⟩, q⟩
  | str x =>
    obtain ⟨t, rfl⟩ := ru
    exact PySem.P.repr_of_str ⟨.str _, H, I.tok _, ⟨_, rfl⟩, q⟩ hl
  | lst h0 t =>
    cases ru
    refine PySem.repr_of_reads' rd hs (fun e => by rw [noDict_lay _ hc] at e; cases e) hG hu (fun _ _ e => e) (fun h' u tk k => ⟨.str _, H, I.kept k, ⟨_, rfl⟩, q⟩) hl
  | tup h0 t =>
    cases ru
    refine PySem.repr_of_reads' rd hs (fun e => by rw [noDict_lay _ hc] at e; cases e) hG hu (fun _ _ e => e) (fun h' u tk k => ⟨.str _, H, I.kept k, ⟨_, rfl⟩, q⟩) hl
  | dct h0 t => simp [PyData.canLay0] at hc
  | scr h0 => simp [PyData.canLay0] at hc
  | fnc h0 => simp [PyData.canLay0] at hc

def cRepr : DC := fun rs S P => match rs with
  | [r] => match peek S r with
    | some d => d.canLay0 = true ∧ d.showable = true ∧ d.shown.length ≤ 16000000 ∧ d.depth ≤ 100 ∧ P (.dat (.str d.shown)) S
    | none => False
  | _ => False
theorem sc_repr (hG : X.A.guards = some []) (hu : X.A.units + 200 < cLine) : SC X (.builtin "repr") (rRepr X) cRepr := by
  refine ⟨cr_repr hG, fun xs H F S rs P Q o z h q => ?_⟩
  unfold cRepr at h
  match rs, xs, z, h with
  | [r], [v], .cons z .nil, h =>
    dsimp only at h
    cases e : peek S r with
    | none => rw [e] at h; exact h.elim
    | some d =>
      rw [e] at h
      obtain ⟨h1, h2, h3, h4, h5⟩ := h
      exact ⟨v, d, rfl, peek_at o z e, h1, h2, (by rw [sizeLine_eq]; omega), by omega, q _ _ F H S (Ext.refl F) o (RAt.d (.str _)) h5⟩
/-! ### sorted -/
def sortD (ds : List PyData) : List PyData := ds.mergeSort (PySem.W.dataLe false id)
def rSorted' (X : Cx) : List V → Hp → VK → Prop := fun vs H Q => ∃ a xs ds, vs = [V.ref a] ∧ SqL X.K H a xs ∧ DAll X.K H xs ds ∧ PyData.canLayAll0 ds = true ∧ PySem.W.AllAlike ds ∧ PySem.W.Sortable ds ∧ (∀ d ∈ ds, X.A.units + 2 + d.depth < cLine) ∧
  ∀ ys p, ys.Perm xs → (∀ F, DAll X.K F xs ds → DAll X.K F ys (sortD ds)) → H p = none → Q (.ref p) (upd H p (.lst ys))
theorem each_zip {h : Heap} : ∀ {us : List Value} {xs : List V} {ds : List PyData} {as : List Addr}, Vals xs us → xs.length = ds.length → ReadsAll h us ds as →
    PySem.W.EachIs (fun u (b : V × PyData) => RelV b.1 u) us (xs.zip ds) ∧ PySem.W.EachIs (fun u (b : V × PyData) => ∃ as, Reads h u b.2 as) us (xs.zip ds)
  | [], [], [], _, .nil, _, _ => ⟨.nil, .nil⟩
  | u :: us, x :: xs, d :: ds, _, .cons r t, hl, .cons r1 r2 => by
    obtain ⟨e1, e2⟩ := each_zip t (by simpa using hl) r2
    exact ⟨.cons r e1, .cons ⟨_, r1⟩ e2⟩
theorem zip_DAll {F : Hp} : ∀ {xs : List V} {ds : List PyData}, DAll K F xs ds → ∀ p ∈ xs.zip ds, DAt K F p.1 p.2
  | _, _, .nil, p, h => by simp at h
  | _, _, .cons a t, p, h => by
    rw [List.zip_cons_cons, List.mem_cons] at h
    rcases h with rfl | h
    · exact a
    · exact zip_DAll t p h
theorem DAll_of {F : Hp} : ∀ {ps : List (V × PyData)}, (∀ p ∈ ps, DAt K F p.1 p.2) → DAll K F (ps.map (·.1)) (ps.map (·.2))
  | [], _ => .nil
  | p :: ps, h => .cons (h p (List.mem_cons_self ..)) (DAll_of fun q hq => h q (List.mem_cons_of_mem _ hq))
theorem cr_sorted' : CallR X (.builtin "sorted") (rSorted' X) := by
  intro pins s σ H vs us Q I r h
  obtain ⟨a, xs, ds, rfl, hs, hd, hc, hal, hk, hu, q⟩ := h
  obtain ⟨its, rv, hl, hz⟩ := I.list hs
  obtain ⟨u, rfl, ru⟩ := vals1 r
  obtain rfl : u = Value.ref a := ru
  obtain ⟨as, rd⟩ := Dp.readsAll I ds xs its (DAll.dp hd hc) rv
  have hlen : xs.length = ds.length := hd.length
  obtain ⟨e1, e2⟩ := each_zip rv hlen rd
  have hm2 : (xs.zip ds).map (·.2) = ds := by rw [List.map_snd_zip]; omega
  have hm1 : (xs.zip ds).map (·.1) = xs := by rw [List.map_fst_zip]; omega
  refine PySem.W.sorted_data (enc := fun b : V × PyData => b.2) hl.isList e1 e2 (by rw [hm2]; exact hal) (by rw [hm2]; exact hk) (by rw [List.length_zip]; omega) ?_ fun out ho he => ?_
  · intro b hb
    exact hu b.2 (List.of_mem_zip (a := b.1) (b := b.2) hb).2
  · generalize hsrt : (xs.zip ds).mergeSort (PySem.W.dataLe false fun b : V × PyData => b.2) = srt at he
    have hp : srt.Perm (xs.zip ds) := by rw [← hsrt]; exact List.mergeSort_perm _ _
    have hv : Vals (srt.map (·.1)) out := by
      clear ho hp hsrt
      induction he with
      | nil => exact .nil
      | cons r _ ih => exact .cons r ih
    have hsd : srt.map (·.2) = sortD ds := by
      rw [← hsrt, List.map_mergeSort (r := PySem.W.dataLe false fun b : V × PyData => b.2) (s := PySem.W.dataLe false id) (f := fun b : V × PyData => b.2) (fun a _ b _ => rfl), hm2]
      rfl
    have hperm : (srt.map (·.1)).Perm xs := by
      have := hp.map (fun b : V × PyData => b.1)
      rw [hm1] at this
      exact this
    have hvl := hv.length
    have hpl := hperm.length_eq
    obtain ⟨ep, he'⟩ := PyProof.Rows.sortedAll_at s.heap its out.toArray
    refine ⟨.ref _, upd H (s.heap.objs.size + 1) (.lst (srt.map (·.1))), I.laid (t' := s.toks) (fun _ _ => PyProof.Rows.sortedAll_old) (Nat.le_succ _) ⟨by omega, out, ep, hv, he'⟩, rfl, q _ _ hperm ?_ (I.hok.fresh (Nat.le_succ _))⟩
    intro F hF
    rw [← hsd]
    exact DAll_of fun p hp' => zip_DAll hF p (hp.mem_iff.mp hp')
def cSorted : DC := fun rs S P => match rs with
  | [r] => match peek S r with
    | some (.list ds) => PyData.canLayAll0 ds = true ∧ PySem.W.AllAlike ds ∧ PySem.W.Sortable ds ∧ (∀ d ∈ ds, d.depth ≤ 100) ∧ ∀ p, S p = none → P (.loc p) (put S p (.lst (sortD ds)))
    | _ => False
  | _ => False
theorem sc_sorted (hu : X.A.units + 200 < cLine) : SC X (.builtin "sorted") (rSorted' X) cSorted := by
  refine ⟨cr_sorted', fun xs H F S rs P Q o z h q => ?_⟩
  unfold cSorted at h
  match rs, xs, z, h with
  | [r], [v], .cons z .nil, h =>
    dsimp only at h
    cases e : peek S r with
    | none => rw [e] at h; exact h.elim
    | some d =>
      rw [e] at h
      cases d with
      | list ds =>
        obtain ⟨h1, h2, h3, h4, h5⟩ := h
        obtain ⟨a, us, rfl, ha, za⟩ := peek_listF o z e
        refine ⟨a, us, ds, rfl, SqL.of ha, za.mono o.ext, h1, h2, h3, (fun d hd => by have := h4 d hd; omega), fun ys p hp hd hn => ?_⟩
        exact q _ _ F _ _ (Ext.refl F) (o.newL hn (hd F za)) (show RAt X.K F _ (.loc p) from rfl) (h5 p (o.free hn).2)
      | _ => exact h.elim
/-! ### dict(pairs) -/
def asPairs : List PyData → Option (List (Key × PyData))
  | [] => some []
  | .tuple [k, v] :: r => match toKey k, asPairs r with
    | some k, some r => some ((k, v) :: r)
    | _, _ => none
  | _ :: _ => none
theorem asPairs_at {F : Hp} : ∀ {vs : List V} {ds : List PyData} {kvs : List (Key × PyData)}, DAll K F vs ds → asPairs ds = some kvs →
    ∃ (ps : List Addr) (ws : List (Key × V)), vs = ps.map V.ref ∧ Paired (fun p (kv : Key × V) => SqT K F p [kV kv.1, kv.2]) ps ws ∧ DKv K F ws kvs
  | _, [], kvs, h, e => by cases e; cases h; exact ⟨[], [], rfl, .nil, .nil⟩
  | _, .tuple [k, v] :: r, kvs, h, e => by
    unfold asPairs at e
    cases ek : toKey k with
    | none => rw [ek] at e; cases e
    | some key =>
      cases er : asPairs r with
      | none => rw [ek, er] at e; cases e
      | some kr =>
        rw [ek, er] at e
        cases e
        cases h with
        | cons h t =>
          cases h with
          | tup hs ha =>
            cases ha with
            | cons z1 ha =>
              cases ha with
              | cons z2 ha =>
                cases ha
                obtain ⟨ps, ws, e1, e2, e3⟩ := asPairs_at t er
                rw [toKey_at z1 ek] at hs
                exact ⟨_ :: ps, (key, _) :: ws, by rw [List.map_cons, ← e1], .cons hs e2, .cons z2 e3⟩
def cDict : DC := fun rs S P => match rs with
  | [r] => match peek S r with
    | some (.list ds) => match asPairs ds with
      | some kvs => ∀ p, S p = none → P (.loc p) (put S p (.dct (mergeD [] kvs)))
      | none => False
    | _ => False
  | _ => False
theorem sc_dict (hc : X.calm = true) : SC X (.type "dict") (fun xs H Q => ∃ (a : Addr) (ps : List Addr) (kvs : List (Key × V)), xs = [.ref a] ∧ SqL X.K H a (ps.map V.ref) ∧ Paired (fun p kv => SqT X.K H p [kV kv.1, kv.2]) ps kvs ∧
    ∀ p, H p = none → Q (.ref p) (upd H p (.dK (mergeK [] kvs)))) cDict := by
  refine ⟨call_dictP hc, fun xs H F S rs P Q o z h q => ?_⟩
  unfold cDict at h
  match rs, xs, z, h with
  | [r], [v], .cons z .nil, h =>
    dsimp only at h
    cases e : peek S r with
    | none => rw [e] at h; exact h.elim
    | some d =>
      rw [e] at h
      cases d with
      | list ds =>
        dsimp only at h
        cases ek : asPairs ds with
        | none => rw [ek] at h; exact h.elim
        | some kvs =>
          rw [ek] at h
          obtain ⟨a, us, rfl, ha, za⟩ := peek_listF o z e
          obtain ⟨ps, ws, rfl, hp, hk⟩ := asPairs_at za ek
          refine ⟨a, ps, ws, rfl, SqL.of ha, hp.mono fun _ _ x => o.ext.t x, fun p hn => ?_⟩
          have f := o.free hn
          exact q _ _ F _ _ (Ext.refl F) (o.newS (c := .dct (mergeD [] kvs)) hn ⟨_, upd_same, hk.merge .nil⟩) (show RAt X.K F _ (.loc p) from rfl) (h p f.2)
      | _ => exact h.elim
end
end Lo

/-! Own layer, part L: a def as the text has it; calls by name; a written dict; the law's head. -/
namespace Lo
open PySem PySem.Spec PyProof.Rows L2
theorem un_of {k : Nat} {A : Around} (r : Room k A) : A.units + 200 < cLine := by have := r.un; omega
theorem u1_of {k : Nat} {A : Around} (r : Room k A) : A.units + 1 < cLine := by have := r.un; omega
theorem u64_of {k : Nat} {A : Around} (r : Room k A) : A.units + 64 < cLine := by have := r.un; omega
/-! ### a def of the text -/
structure Has (K : PySem.W.Frag) (mg : Str → Option Value) (x : Str) (st : Stmt) (ps : List Str) (f : Addr) (fd : FuncData) : Prop where
  fn : Fun K x x st f fd
  mg : mg x = some (.ref f)
  kp : PySem.W.keepIn K (.ref f) = true
  bd : Binds K fd ps []
/-- arguments by name: is says where each parameter's value stands among them -/
def pickA {α : Type} (is : List Nat) (l : List α) : List α := is.filterMap (l[·]?)
structure KwOk (fd : FuncData) (ps ks : List Str) (is : List Nat) : Prop where
  to : ∀ (s : Shared) (ws : List Value), ws.length = ks.length → BindsTo s fd ⟨[], ks.zip ws⟩ (ps.zip (pickA is ws))
theorem kw_of {K : PySem.W.Frag} {x qual : Str} {st : Stmt} {f : Addr} {fd : FuncData} {ps ks : List Str} {is : List Nat} (F : Fun K x qual st f fd)
    (h : ∀ (kV doc pm : Value) (an : Option Addr) (cdv ct : Value) (ws : List Value), ws.length = ks.length → bindArgs (PySem.W.fnOf x qual (defArgs st) (defBody st) (defScope st) .none kV doc pm an cdv ct) ⟨[], ks.zip ws⟩ = pure (ps.zip (pickA is ws))) : KwOk fd ps ks is := by
  obtain ⟨oc, od, kV, doc, pm, an, cdv, ct, osl, rfl, lk, hcd⟩ := F.ex
  exact ⟨fun s ws hl => .of_eq (h kV doc pm an cdv ct ws hl)⟩
section
variable {X : Cx} {k : Nat} {f : Addr} {fd : FuncData} {ps ks : List Str} {is : List Nat} {sp : Sp} {d : DSp} {x : Str} {p pos : Pos} {kws : List Keyword} {tk : TA} {da : DA} {st : Stmt}
def SK (X : Cx) (kws : List Keyword) (ta : TA) (da : DA) : Prop := L2.PK X kws ta ∧ ∀ (σ : L2.St) (H F : Hp) (S : Sto) (ρ : Vrs) (P : List Res → Sto → Prop) (Q : List V → Hp → Prop),
  Ok X.K F H S → SlotsOk X.K F σ ρ → da ρ S P →
  (∀ vs rs F' H' S', Ext F F' → Ok X.K F' H' S' → RAll X.K F' vs rs → P rs S' → Q vs H') → ta σ H Q
theorem sk_nil : SK X [] tNil dNil := ⟨pk_nil, fun _ H F S _ _ _ o _ h q => q _ _ F H S (Ext.refl F) o .nil h⟩
theorem sk_cons {e : Expr} {nm : Option Str} {kpos : Pos} {te : TE} {de : DE} {ta : TA} {da : DA} (h : SE X e te de) (t : SK X kws ta da) : SK X (⟨nm, e, kpos⟩ :: kws) (tCons te ta) (dCons de da) := by
  obtain ⟨pe, s⟩ := h
  obtain ⟨pa, s2⟩ := t
  refine ⟨pk_cons pe pa, fun σ H F S ρ P Q o l h q => ?_⟩
  refine s σ H F S ρ _ _ o l h fun v r F1 H1 S1 x1 o1 z1 p1 => ?_
  refine s2 σ H1 F1 S1 ρ _ _ o1 (l.mono x1) p1 fun vs rs F2 H2 S2 x2 o2 z2 p2 => ?_
  exact q _ _ F2 H2 S2 (x1.trans x2) o2 (.cons (z1.mono x2) z2) p2
theorem Vals.pickA {vs : List V} {us : List Value} (h : Vals vs us) (is : List Nat) : Vals (Lo.pickA is vs) (Lo.pickA is us) := Vals.pick h is
theorem callGK (F : FnG X.prog X.w X.K X.mg X.base k f fd ps sp) (hr : Room k X.A) (hG : X.A.guards = some []) (hg : Gl X x)
    (hm : X.mg x = some (.ref f)) (hk : PySem.W.keepIn X.K (.ref f) = true) (hb : KwOk fd ps ks is) (hkw : L2.PK X kws tk)
    (hall : (backToKw pos (keywordEach kws X.env)).all (·.1.isSome) = true := by rfl) (hks : (backToKw pos (keywordEach kws X.env)).filterMap (·.1) = ks := by rfl)
    (hdb : (x == ("__debug__" : Str)) = false := by decide) (hpl : ((backTo pos (starEach [] X.env)).any (·.1) || (backToKw pos (keywordEach kws X.env)).any (·.1.isNone)) = false := by rfl) :
    PE X (.Call (.Name x p) [] kws pos) (fun σ H Q => tk σ H fun vs H1 => vs.length = ks.length ∧ sp (pickA is vs) H1 Q E0) := by
  refine ⟨fun pins s σ H Q I h => ?_⟩
  refine wpAny_Call_Name_kw (ld_glob I hg hm ?_ hdb)
  refine PySem.W.callWith_KW0 (first := []) (h₀ := X.base) I.ok.mod.kin hk hall (thn (hkw.run pos pins s σ H _ I h) fun ws s1 ⟨vs, H1, I1, r, hl, q⟩ => ⟨I1.kIn, ?_⟩) hpl
  rw [hks]
  have bd := hb.to s1 ws (by rw [← r.length]; exact hl)
  refine wpAny_call (codeAny_mono (F.run X.A X.stack s1 H1 ⟨[], ks.zip ws⟩ (pickA is ws) (pickA is vs) Q hr hG I1.env0 bd (Vals.pickA r is) q) ?_)
  intro o s' hq
  match o, hq with
  | .error _, hq => exact hq.elim
  | .ok (.ret u), hq => exact I1.after hq
  | .ok .next, hq => exact False.elim hq
  | .ok .brk, hq => exact False.elim hq
  | .ok .cont, hq => exact False.elim hq
theorem RAll.pick {K : PySem.W.Frag} {F : Hp} {vs : List V} {rs : List Res} (h : RAll K F vs rs) : ∀ is : List Nat, RAll K F (is.filterMap (vs[·]?)) (is.filterMap (rs[·]?))
  | [] => .nil
  | i :: is => by
    have get : ∀ {vs : List V} {rs : List Res} (i : Nat), RAll K F vs rs → (vs[i]? = none ∧ rs[i]? = none) ∨ ∃ v r, vs[i]? = some v ∧ rs[i]? = some r ∧ RAt K F v r := by
      intro vs rs i h
      induction h generalizing i with
      | nil => exact .inl ⟨by simp, by simp⟩
      | cons a t ih =>
        cases i with
        | zero => exact .inr ⟨_, _, rfl, rfl, a⟩
        | succ i => simpa using ih i
    rw [List.filterMap_cons, List.filterMap_cons]
    rcases get i h with ⟨e1, e2⟩ | ⟨v, r, e1, e2, z⟩
    · rw [e1, e2]; exact RAll.pick h is
    · rw [e1, e2]; exact .cons z (RAll.pick h is)
def dCallK (d : DSp) (n : Nat) (is : List Nat) (da : DA) : DE := fun ρ S P => da ρ S fun rs S1 => rs.length = n ∧ (pickA is rs).length = is.length ∧ d (pickA is rs) S1 P
theorem se_callk {X : Cx} {ds : DSp} (F : FnG X.prog X.w X.K X.mg X.base k f fd ps (lift X.K is.length ds)) (hh : Has X.K X.mg x st ps f fd) (hr : Room k X.A) (hG : X.A.guards = some []) (hb : KwOk fd ps ks is) (hkw : SK X kws tk da)
    (hg : Gl X x := by rfl) (hall : (backToKw pos (keywordEach kws X.env)).all (·.1.isSome) = true := by rfl) (hks : (backToKw pos (keywordEach kws X.env)).filterMap (·.1) = ks := by rfl)
    (hdb : (x == ("__debug__" : Str)) = false := by decide) (hpl : ((backTo pos (starEach [] X.env)).any (·.1) || (backToKw pos (keywordEach kws X.env)).any (·.1.isNone)) = false := by rfl) :
    SE X (.Call (.Name x p) [] kws pos) (fun σ H Q => tk σ H fun vs H1 => vs.length = ks.length ∧ lift X.K is.length ds (pickA is vs) H1 Q E0) (dCallK ds ks.length is da) := by
  obtain ⟨pk, sk⟩ := hkw
  refine ⟨callGK F hr hG hg hh.mg hh.kp hb pk hall hks hdb hpl, fun σ H F S ρ P Q o l h q => ?_⟩
  refine sk σ H F S ρ _ _ o l h fun vs rs F1 H1 S1 x1 o1 z1 p1 => ?_
  have z2 := z1.pick is
  refine ⟨z1.length.trans p1.1, ?_, F1, S1, _, P, o1, z2, p1.2.2, fun v r F2 H2 S2 x2 => q v r F2 H2 S2 (x1.trans x2)⟩
  exact z2.length.trans p1.2.1
/-- a call by position -/
theorem se_cl {e : Expr} {es : List Expr} {ta : TA} {ds : DSp} (F : FnG X.prog X.w X.K X.mg X.base k f fd ps (lift X.K ps.length ds)) (hh : Has X.K X.mg x st ps f fd) (hr : Room k X.A) (hG : X.A.guards = some []) (ha : SA X (e :: es) ta da)
    (hn : ∀ {ρ S P}, da ρ S P → da ρ S fun rs S1 => rs.length = ps.length ∧ P rs S1) (hg : Gl X x := by rfl) (hdb : (x == ("__debug__" : Str)) = false := by decide)
    (he : starEach (e :: es) X.env = (false, eval e X.env) :: starEach es X.env := by rfl) (hpl : (backTo pos (starEach es X.env)).any (·.1) = false := by rfl) :
    SE X (.Call (.Name x p) (e :: es) [] pos) (tCallD X.K ps.length ds ta) (dCall ds da) := se_call F hr hG hh.mg hh.kp hh.bd ha hn hg hdb he hpl
theorem se_cl0 {ds : DSp} (F : FnG X.prog X.w X.K X.mg X.base k f fd [] (lift X.K 0 ds)) (hh : Has X.K X.mg x st [] f fd) (hr : Room k X.A) (hG : X.A.guards = some []) (hg : Gl X x := by rfl) (hdb : (x == ("__debug__" : Str)) = false := by decide) :
    SE X (.Call (.Name x p) [] [] pos) (fun _ H Q => lift X.K 0 ds [] H Q E0) (fun _ S P => ds [] S P) := se_call0 F hr hG hh.mg hh.kp hh.bd hg hdb
end
/-! ### a written dict of the module -/
structure KTab (K : PySem.W.Frag) (w : World) (d : Addr) (val : Str → Option PyData) : Prop where
  ex : ∃ es n, K.lookup d = some ⟨.type "dict", none, .dict es n, #[]⟩ ∧ PySem.W.KeysLit w.params es.toList ∧ (d == sysModules) = false
  get : ∀ x, ∃ r, PySem.W.nsIn K d x = some r ∧ match val x, r with
    | none, none => True
    | some dt, some u => ∃ v, RelV v u ∧ ∀ F, DAt K F v dt
    | _, _ => False
def dKGet2 (val : Str → Option PyData) (dk dx : DE) : DE := fun ρ S P => dk ρ S fun y S2 => dx ρ S2 fun z S3 => match y with
  | .dat (.str x) => P (match val x with | some d => .dat d | none => z) S3
  | _ => False
section
variable {X : Cx} {e f : Expr} {g : Str} {np apos cpos : Pos} {ty tx : TE} {dy dx : DE} {D : Addr} {val : Str → Option PyData}
def tKGet2 (K : PySem.W.Frag) (D : Addr) (ty tx : TE) : TE := fun σ H Q => ty σ H fun y H2 => tx σ H2 fun z H3 => ∃ k r, y = .str k ∧ PySem.W.nsIn K D k = some r ∧ match r with
  | none => Q z H3
  | some u => ∃ v, RelV v u ∧ Q v H3
theorem pe_kget2 (hd : ∃ es n, X.K.lookup D = some ⟨.type "dict", none, .dict es n, #[]⟩ ∧ PySem.W.KeysLit X.w.params es.toList ∧ (D == sysModules) = false) (hm : X.mg g = some (.ref D)) (he : PE X e ty) (hf : PE X f tx)
    (m : M2 X (.Name g np) "get" apos e f cpos) (hg : Gl X g) (hdb : (g == ("__debug__" : Str)) = false := by decide) : PE X (.Call (.Attribute (.Name g np) "get" apos) [e, f] [] cpos) (tKGet2 X.K D ty tx) := by
  obtain ⟨es, n, hl, hk, hs⟩ := hd
  refine ⟨fun pins s σ H Q I h => ?_⟩
  refine wpAny_Call_method m.base m.few m.line PySem.F.plainAttrs_dict PySem.F.slot_dict_get PySem.F.type_dict_get (ld_glob I hg hm ?_ hdb)
  have hmo := PySem.W.mapOf_K (prog := X.prog) (w := X.w) I.kIn hl hk
  refine ⟨hmo.typeIs, fun b q => ?_, ?_⟩
  · cases q
    exact ⟨_, I.kIn _ _ hl, rfl⟩
  rw [m.trees]
  refine Calls.callWith_builtin rfl (Calls.evalArgs_plain (Calls.spliced_cons (thn (he.run pins s σ H _ I h) fun iv s2 ⟨y, H2, I2, ry, q2⟩ =>
    Calls.spliced_cons (thn (hf.run pins s2 σ H2 _ I2 q2) fun fv s3 ⟨z, H3, I3, rz, k, r, ey, en, q3⟩ => Calls.spliced_nil ?_))))
  subst ey
  obtain ⟨t, rfl⟩ := ry
  have hmo3 := PySem.W.mapOf_K (prog := X.prog) (w := X.w) I3.kIn hl hk
  refine call_meetsIn PySem.F.slot_dict_get hmo3.typeIs PySem.F.entry_dict_get (PySem.F.args_dict_get_3 _ _ _) (meets_dict_get_default (strKind X.prog X.w) D (strKind_is X.prog X.w k t) hs fv) ⟨_, hmo3, ?_⟩
  rw [PySem.W.find_K hl en]
  cases r with
  | none => exact ⟨z, H3, I3.tok _, rz, q3⟩
  | some u =>
    obtain ⟨v, rv, q⟩ := q3
    exact ⟨v, H3, I3.tok _, rv, q⟩
theorem se_kget2 (T : KTab X.K X.w D val) (hm : X.mg g = some (.ref D)) (he : SE X e ty dy) (hf : SE X f tx dx)
    (m : M2 X (.Name g np) "get" apos e f cpos := by exact ⟨rfl, rfl, rfl, rfl⟩) (hg : Gl X g := by rfl) (hdb : (g == ("__debug__" : Str)) = false := by decide) : SE X (.Call (.Attribute (.Name g np) "get" apos) [e, f] [] cpos) (tKGet2 X.K D ty tx) (dKGet2 val dy dx) := by
  obtain ⟨pi, s2⟩ := he
  obtain ⟨pf, s3⟩ := hf
  refine ⟨pe_kget2 T.ex hm pi pf m hg hdb, fun σ H F S ρ P Q o l h q => ?_⟩
  refine s2 σ H F S ρ _ _ o l h fun y ry F2 H2 S2 x2 o2 z2 p2 => ?_
  refine s3 σ H2 F2 S2 ρ _ _ o2 (l.mono x2) p2 fun w rw F3 H3 S3 x3 o3 z3 p3 => ?_
  match ry, z2, p3 with
  | .dat (.str k), z2, p3 =>
    obtain rfl := z2.str
    obtain ⟨r, en, hv⟩ := T.get k
    refine ⟨k, r, rfl, en, ?_⟩
    dsimp only at p3
    cases ev : val k with
    | none =>
      rw [ev] at hv p3
      cases r with
      | none => exact q _ _ F3 H3 S3 (x2.trans x3) o3 z3 p3
      | some u => exact hv.elim
    | some d =>
      rw [ev] at hv p3
      cases r with
      | none => exact hv.elim
      | some u =>
        obtain ⟨v, rv, z⟩ := hv
        exact ⟨v, rv, q _ _ F3 H3 S3 (x2.trans x3) o3 (RAt.d (z F3)) p3⟩
end
/-! ### the law -/
section
/-- the script as data -/
def scrD (ns : List Int) : PyData := .dict [(.list (ns.map .int), .none)]
/-- what is tracked as the law is called: the script, locked, unless the text itself holds that object -/
def scriptHp (K : PySem.W.Frag) (a : Addr) (ob : Obj) (zs : List Int) : Hp := fun b => if b = a ∧ (K.lookup a).isNone = true then some (.frz ob (.lst (zs.map V.int))) else none
section
variable {P : Program} {w : World} {K : PySem.W.Frag} {a b : Addr} {ob : Obj} {zs : List Int} {raw : List Value} {sT : Shared}
theorem scriptHp_some {u : HO} (h : scriptHp K a ob zs b = some u) : b = a ∧ K.lookup a = none ∧ u = .frz ob (.lst (zs.map V.int)) := by
  unfold scriptHp at h
  split at h
  · rename_i c
    exact ⟨c.1, Option.isNone_iff_eq_none.mp c.2, (Option.some.inj h).symm⟩
  · cases h
/-- what is no list is not tracked -/
theorem scriptHp_else {o : Obj} {ys : Array Value} {j : Nat} (hob : sT.heap.get? a = some ob) (hd : ob.data = .seq ys j) (e : sT.heap.get? b = some o) (h : ∀ zs i, o.data ≠ .seq zs i) : scriptHp K a ob zs b = none := by
  rcases Option.eq_none_or_eq_some (scriptHp K a ob zs b) with q | ⟨u, q⟩
  · exact q
  · obtain ⟨rfl, _, _⟩ := scriptHp_some q
    exact absurd hd (by rw [Option.some.inj (hob.symm.trans e)]; exact h _ _)
theorem scriptHp_text {o : Obj} (e : K.lookup b = some o) : scriptHp K a ob zs b = none := by
  rcases Option.eq_none_or_eq_some (scriptHp K a ob zs b) with q | ⟨u, q⟩
  · exact q
  · obtain ⟨rfl, n, _⟩ := scriptHp_some q
    rw [n] at e; cases e
/-- the script is read there -/
theorem scriptHp_list (kX : K.In sT.heap) (hob : sT.heap.get? a = some { cls := .type "list", data := .seq raw.toArray }) (hz : Vals (zs.map V.int) raw) (hl : zs.length ≤ sizeLine) :
    SqL K (scriptHp K a { cls := .type "list", data := .seq raw.toArray } zs) a (zs.map V.int) := by
  rcases Option.eq_none_or_eq_some (K.lookup a) with q | ⟨o, q⟩
  · exact Or.inl (Or.inr ⟨_, if_pos ⟨rfl, by rw [q]; rfl⟩⟩)
  · obtain rfl := Option.some.inj (hob.symm.trans (kX a o q))
    have hn := hz.length
    rw [List.length_map] at hn
    exact Or.inr ⟨_, _, _, q, rfl, rfl, rfl, by rw [List.size_toArray, ← hn]; exact hl, hz⟩
theorem scriptHp_holds (hob : sT.heap.get? a = some { cls := .type "list", data := .seq raw.toArray }) (hz : Vals (zs.map V.int) raw) (hl : zs.length ≤ sizeLine) :
    HOk P w (scriptHp K a { cls := .type "list", data := .seq raw.toArray } zs) sT.heap := fun b u e => by
  obtain ⟨rfl, _, rfl⟩ := scriptHp_some e
  exact ⟨hob, by rw [List.length_map]; exact hl, raw, _, hz, hob⟩
/-- the def of the law, called from outside -/
theorem law_callG {gm bm : Str → Option Value} {k : Nat} {fL : Addr} {fd : FuncData} {x : Str} {d : DSp} (kX : K.In sT.heap) (hNames : sT.heap.Ns mainGlobals gm) (hBlt : sT.heap.Ns builtinsNs bm)
    (hBoot : ∀ x : Str, x ≠ "__name__" → bm x = bootBuiltins x) (hLim : sT.heap.NoLimit) (hGen : sT.gens = #[]) (hObj : sT.heap.get? a = some { cls := .type "list", data := .seq raw.toArray }) (hCells : IntsAre raw zs)
    (hLen : zs.length ≤ sizeLine) (hRoom : Room k callerA) (F : ∀ base : Heap, K.In base → base.Ns mainGlobals gm → FnG P w K gm base k fL fd [x] (lift K 1 d)) (hBind : ∀ (s : Shared) (u : Value), BindsTo s fd ⟨[u], []⟩ [(x, u)])
    (hProm : d [.dat (scrD zs)] (fun _ => none) fun r _ => r = .dat (.bool true)) :
    codeAny (model P w) callerA (.call (.ref fL) ⟨[.ref a], []⟩) (fun r s' => r = .ok (.ret (.bool true)) ∧ OldK sT.heap s'.heap ∧ s'.os = sT.os ∧ AllBare s'.gens) sT := by
  have hz := vals_ints hCells
  generalize hH : scriptHp K a { cls := .type "list", data := .seq raw.toArray } zs = H
  have hSq : SqL K H a (zs.map V.int) := hH ▸ scriptHp_list kX hObj hz hLen
  have hOk : HOk P w H sT.heap := hH ▸ scriptHp_holds hObj hz hLen
  have tabs : ∀ {c : Addr} {m : Str → Option Value}, sT.heap.Ns c m → (hidT sT.heap H).Ns c m := by
    rintro c m ⟨o, es, ep, e, dd, r⟩
    refine ⟨o, es, ep, hidT_get e ?_, dd, r⟩
    rw [← hH]
    exact scriptHp_else hObj rfl e fun _ _ q => by rw [dd] at q; cases q
  have text : K.In (hidT sT.heap H) := fun c o e => hidT_get (kX c o e) (hH ▸ scriptHp_text e)
  have mods : Mod K gm (hidT sT.heap H) := by
    obtain ⟨mc, l1, l2⟩ := hLim
    exact ⟨text, tabs hNames, ⟨bm, tabs hBlt, hBoot⟩, ⟨mc, tabs l1, l2⟩⟩
  have env : Env0 P w K gm (hidT sT.heap H) callerA [] sT H := by
    refine ⟨rfl, mods, fun c o e => of_hidT e, Nat.le_of_eq (hidT_size _ _), trivial, ?_, hOk, .of_eq hGen⟩
    intro c hc
    exact nomatch (show c ∈ ([] : List Addr) from hc)
  have start : lift K 1 d [.ref a] H (fun v _ => v = .bl true) E0 := by
    refine ⟨rfl, H, fun _ => none, [.dat (scrD zs)], _, ⟨Ext.refl H, fun _ _ e => nomatch e⟩, .cons (RAt.d (.scr hSq)) .nil, hProm, ?_⟩
    rintro v r F' H2 S' _ _ z rfl
    exact z.bl
  refine codeAny_mono ((F _ text (tabs hNames)).run callerA [] sT H ⟨[.ref a], []⟩ [.ref a] [.ref a] _ hRoom rfl env (hBind sT (.ref a)) (.cons rfl .nil) start) ?_
  rintro (e | fl) s' h
  · exact h.elim
  · cases fl with
    | ret u =>
      obtain ⟨v, H2, os, bare, un, ok2, rel, (rfl : v = .bl true)⟩ := h
      cases rel
      refine ⟨rfl, OldK.of_keep fun c o e => ?_, os, bare⟩
      rcases Option.eq_none_or_eq_some (H c) with q | ⟨u, q⟩
      · exact un.keep c o e q (fun z => nomatch (show c ∈ ([] : List Addr) from z)) (fun z => nomatch z)
      · have q2 := q
        rw [← hH] at q2
        obtain ⟨_, _, rfl⟩ := scriptHp_some q2
        have e1 := (hOk c _ q).1
        have e2 := (ok2 c _ (un.frzs c _ _ q)).1
        exact e2.trans (e1.symm.trans e)
    | _ => exact False.elim h
end
theorem walkG {l : PySem.W.OpenLaw} {n k : Nat} {q : Program} {lo : List Str} {XQ : (Str → Option Value) → Heap → Prop} {YQ : World → Heap → Prop} {d : DefRec} {K : Params → PySem.W.Frag} {dl : DSp} {x : Str}
    (most : l.most = some n) (few : n ≤ sizeLine) (noDef : d.params.defaults = []) (room : Room k callerA)
    (part : ∀ (w : World) (h : Heap), YQ w h → (K w.params).In h)
    (F : ∀ (w : World) (gm : Str → Option Value) (fL : Addr) (h : Heap), (K w.params).In h → h.Ns mainGlobals gm → gm d.name = some (.ref fL) →
      ∃ fd : FuncData, (∀ (s : Shared) (u : Value), BindsTo s fd ⟨[u], []⟩ [(x, u)]) ∧
        ∀ base : Heap, (K w.params).In base → base.Ns mainGlobals gm → FnG l.prog w (K w.params) gm base k fL fd [x] (lift (K w.params) 1 dl))
    (prom : ∀ zs : List Int, zs.length ≤ n → dl [.dat (scrD zs)] (fun _ => none) fun r _ => r = .dat (.bool true)) :
    PySem.W.WalkO q lo XQ YQ l.row.toRowW d [] (fun f raw => PySem.call f raw) := by
  refine Att.attach_call most noDef fun w sA sT gm bm fL o pm cd doc a raw zs G Y ho hd hcd hmg hobj hints hLen hGen => ?_
  have kx := part w _ Y
  obtain ⟨fd, hBind, hAll⟩ := F w gm fL _ kx G.T.g hmg
  exact law_callG kx G.T.g G.T.b G.T.builtins G.T.nolimit hGen hobj hints (Nat.le_trans hLen few) room hAll hBind (prom zs hLen)
end
end Lo

/-! Own layer, part M: more methods; tuples of three; words for what a def leaves to show. -/
namespace Lo
open PySem PySem.Spec PyProof.Rows L2
section
variable {X : Cx} {K : PySem.W.Frag} {F H : Hp} {S : Sto}
def mIndex : DM := fun x rs S P => match peek S x, rs with
  | some (.list ds), [.dat d] => flatD d = true ∧ ds.all flatD = true ∧ match ds.findIdx? (fun z => eqF z d) with
    | some j => P (.dat (.int (j : Nat))) S
    | none => False
  | _, _ => False
theorem DAll.getV {vs : List V} {ds : List PyData} (h : DAll K F vs ds) {i : Nat} {v : V} (e : vs[i]? = some v) : ∃ d, ds[i]? = some d ∧ DAt K F v d := by
  have hl := h.length
  have hi : i < vs.length := by
    rcases Nat.lt_or_ge i vs.length with q | q
    · exact q
    · rw [List.getElem?_eq_none_iff.mpr q] at e; cases e
  have hd : ds[i]? = some (ds[i]'(by omega)) := List.getElem?_eq_getElem _
  obtain ⟨u, eu, z⟩ := h.get hd
  rw [e] at eu; cases eu
  exact ⟨_, hd, z⟩
theorem sm_index : SM X "list.index" (rIndex X.K) mIndex := by
  refine ⟨mt_index, fun x xs H F S rx rs P Q o z zs h q => ?_⟩
  unfold mIndex at h
  split at h
  · rename_i ds d e
    obtain ⟨f1, f2, h⟩ := h
    obtain ⟨a, us, rfl, ha, za⟩ := peek_listF o z e
    match xs, zs with
    | [v], .cons zv .nil =>
      cases ej : ds.findIdx? (fun z => eqF z d) with
      | none => rw [ej] at h; exact h.elim
      | some j =>
        rw [ej] at h
        obtain ⟨hj, h1, h2⟩ := List.findIdx?_eq_some_iff_getElem.mp ej
        obtain ⟨u, eu, zu⟩ := za.get (List.getElem?_eq_getElem hj)
        refine ⟨a, us, v, j, u, rfl, rfl, SqL.of ha, flat_at' zv f1, flat_all za f2, eu, by rw [eqF_at zu zv]; exact h1, fun m z' hm em => ?_, q _ _ F H S (Ext.refl F) o (RAt.d (.int _)) h⟩
        obtain ⟨dz, edz, zz⟩ := za.getV em
        rw [eqF_at zz zv]
        have := h2 m hm
        obtain ⟨_, e3⟩ := List.getElem?_eq_some_iff.mp edz
        rw [e3] at this
        simpa using this
  · exact h.elim
def mUpper : DM := fun x rs S P => match x, rs with
  | .dat (.str z), [] => z.length ≤ 1000000 ∧ P (.dat (.str (Txt.upper z))) S
  | _, _ => False
theorem sm_upper : SM X "str.upper" (fun x xs H Q => ∃ a, x = .str a ∧ xs = [] ∧ a.length ≤ 5592405 ∧ Q (.str (Txt.upper a)) H) mUpper := by
  refine ⟨mt_upper, fun x xs H F S rx rs P Q o z zs h q => ?_⟩
  unfold mUpper at h
  split at h
  · obtain rfl := z.str
    cases zs
    exact ⟨_, rfl, rfl, by have := h.1; omega, q _ _ F H S (Ext.refl F) o (RAt.d (.str _)) h.2⟩
  · exact h.elim
end
section
variable {X : Cx} {a b c : Expr} {tas : TA} {pos : Pos}
def dPar3 (i j l : Nat) (da : DA) : DS := fun D ρ S => da ρ S fun rs S1 => match rs with
  | [r, q, t] => D.nx (((ρ.set i (some r)).set j (some q)).set l (some t)) S1
  | _ => False
theorem ss_par3 {i j l : Nat} {x y z : Str} {da : DA} {px py pz pt : Pos} {kt k2 pt2} (hc : X.calm = true) (hN : X.N.Nodup) (ha : SA X [a, b, c] tas da) (hi : X.N[i]? = some x := by rfl) (hj : X.N[j]? = some y := by rfl) (hl : X.N[l]? = some z := by rfl) (hij : i ≠ j := by decide) (hil : i ≠ l := by decide) (hjl : j ≠ l := by decide)
    (hx : X.env.scope.names.lookup x = some .local := by rfl) (hy : X.env.scope.names.lookup y = some .local := by rfl) (hz : X.env.scope.names.lookup z = some .local := by rfl)
    (hw : swappedStores [.Tuple [.Name x px, .Name y py, .Name z pz] kt pt] (.Tuple [a, b, c] k2 pt2) X.env = pure (some [x, y, z]) := by rfl)
    (hs : swapsWithSole [.Tuple [.Name x px, .Name y py, .Name z pz] kt pt] (.Tuple [a, b, c] k2 pt2) pos.line X.env = pure false := by rfl) :
    SS X (.Assign [.Tuple [.Name x px, .Name y py, .Name z pz] kt pt] (.Tuple [a, b, c] k2 pt2) pos) (L2.tPar3 i j l tas) (dPar3 i j l da) := by
  obtain ⟨pa, s⟩ := ha
  refine ⟨L2.ps_par3 hc hN hi hj hl hij hil hjl hx hy hz pa hw hs, fun σ H F S ρ D E o lk m h => s σ H F S ρ _ _ o lk h fun vs rs F1 H1 S1 x1 o1 z1 p1 => ?_⟩
  match vs, rs, z1, p1 with
  | _, _, .cons z0 (.cons z2 (.cons z3 .nil)), p1 => exact ⟨_, _, _, rfl, m.nx _ _ F1 H1 S1 x1 o1 ((((lk.mono x1).set i z0).set j z2).set l z3) p1⟩
  | _, _, .cons z0 (.cons z2 (.cons _ (.cons _ _))), p1 => exact p1.elim
  | _, _, .cons z0 (.cons z2 .nil), p1 => exact p1.elim
  | _, _, .cons z0 .nil, p1 => exact p1.elim
  | _, _, .nil, p1 => exact p1.elim
/-- targets of any kind, from a display of as many; the tuple is laid and read again -/
def dParA (da : DA) (gs : DGs) (n : Nat) : DS := fun D ρ S => da ρ S fun rs S1 => rs.length = n ∧ n ≤ 10000 ∧ gs rs ρ S1 D.nx
theorem ss_parA {tgs es : List Expr} {da : DA} {gTs : TGs} {gs : DGs} {p1 p2 : Pos} {k1 k2 n : Nat} (hc : X.calm = true) (ha : SA X es tas da) (hg : SGs X tgs gTs gs) (hn : (assignEach tgs X.env).length = n := by rfl) (hst : (assignEach tgs X.env).findIdx? (·.1) = none := by rfl)
    (hs : swapsWithSole [.Tuple tgs k1 p1] (.Tuple es k2 p2) pos.line X.env = pure false := by rfl) (hw : swappedStores [.Tuple tgs k1 p1] (.Tuple es k2 p2) X.env = pure none := by rfl)
    (h1 : (assignEach [.Tuple tgs k1 p1] X.env).map (·.2) = [assign (.Tuple tgs k1 p1) X.env] := by rfl) : SS X (.Assign [.Tuple tgs k1 p1] (.Tuple es k2 p2) pos) (tAsg (tTup tas) (gTup X.K n gTs)) (dParA da gs n) := by
  obtain ⟨pa, s⟩ := ha
  obtain ⟨pg, sg⟩ := hg
  refine ⟨ps_asg (pe_tup pa) (pg_tup hc pg hn hst) hs hw h1, fun σ H F S ρ D E o lk m h => s σ H F S ρ _ _ o lk h fun vs rs F1 H1 S1 x1 o1 z1 p1 => ?_⟩
  obtain ⟨hl, hz, p1⟩ := p1
  have hv : vs.length = n := z1.length.trans hl
  refine ⟨by rw [hv]; exact szl (by omega), fun p hp => ?_⟩
  have f := o1.free hp
  have x := Ext.new (o := .tup vs) f.1
  exact ⟨p, vs, rfl, SqT.of upd_same, hv, sg vs σ _ _ S1 rs ρ _ _ (o1.newF hp _) (lk.mono (x1.trans x)) (z1.mono x) p1 fun σ2 ρ2 F2 H2 S2 x2 o2 l2 p2 => m.nx σ2 ρ2 F2 H2 S2 ((x1.trans x).trans x2) o2 l2 p2⟩
/-- list(range(n)), list(range(a, b)) -/
def rngD (a b : Int) : List PyData := (List.range (b - a).toNat).map fun (k : Nat) => .int (a + (k : Int))
theorem rngD_at {K : PySem.W.Frag} {F : Hp} (a b : Int) : DAll K F (rgV a b) (rngD a b) := by
  unfold rgV rngD
  have : ∀ l : List Nat, DAll K F (l.map fun (k : Nat) => V.int (a + (k : Int))) (l.map fun (k : Nat) => PyData.int (a + (k : Int))) := by
    intro l
    induction l with
    | nil => exact .nil
    | cons x l ih => exact .cons (.int _) ih
  exact this _
def dLRange (da : DA) : DE := fun ρ S P => da ρ S fun rs S1 => match rs with
  | [.dat (.int n)] => 0 ≤ n ∧ n ≤ 1000000 ∧ ∀ p, S1 p = none → P (.loc p) (put S1 p (.lst (rngD 0 n)))
  | _ => False
theorem se_lrange {e : Expr} {te : TE} {de : DE} {p p2 pos2 : Pos} (hc : X.calm = true) (hm : X.mg "list" = none) (hm2 : X.mg "range" = none) (he : SE X e te de) (hg : Gl X "list" := by rfl) (hg2 : Gl X "range" := by rfl)
    (na : starEach [e] X.env = (false, eval e X.env) :: starEach [] X.env := by rfl) (nb : starEach [Expr.Call (.Name "range" p2) [e] [] pos2] X.env = (false, eval (.Call (.Name "range" p2) [e] [] pos2) X.env) :: starEach [] X.env := by rfl) :
    SE X (.Call (.Name "list" p) [.Call (.Name "range" p2) [e] [] pos2] [] pos) (tLstRg (tRg1 te)) (dLRange (dCons de dNil)) := by
  obtain ⟨pe, s⟩ := he
  refine ⟨pe_listRg hc hg hm (prg_1 hg2 hm2 pe na) nb, fun σ H F S ρ P Q o l h q => s σ H F S ρ _ _ o l h fun v r F1 H1 S1 x1 o1 z1 p1 => ?_⟩
  match r, z1, p1 with
  | .dat (.int n), z1, p1 =>
    refine ⟨n, z1.int, RgOk.of_le (by omega) (by have := p1.2.1; omega) (by omega) p1.1, fun a ha => ?_⟩
    have f := o1.free ha
    exact q _ _ F1 _ _ x1 (o1.newL ha (rngD_at 0 n)) (show RAt X.K F1 _ (.loc a) from rfl) (p1.2.2 a f.2)
end
end Lo

/-! Own layer, part N: list(range(..)); what a def leaves to show. -/
namespace Lo
open PySem PySem.Spec PyProof.Rows L2
/-- what stood stands (new places may have come) -/
def Kp (S S' : Sto) : Prop := ∀ a c, S a = some c → S' a = some c
theorem Kp.refl (S : Sto) : Kp S S := fun _ _ h => h
theorem Kp.trans {S T U : Sto} (h : Kp S T) (k : Kp T U) : Kp S U := fun a c e => k a c (h a c e)
theorem Kp.put {S : Sto} {p : Addr} {c : Cell} (h : S p = none) : Kp S (put S p c) := fun a d e => by
  rw [put_ne]
  · exact e
  · intro q; subst q; rw [h] at e; cases e
theorem Kp.put' {S T : Sto} {p : Addr} {c : Cell} (k : Kp S T) (h : S p = none) : Kp S (Lo.put T p c) := fun a d e => by
  rw [put_ne]
  · exact k a d e
  · intro q; subst q; rw [h] at e; cases e
theorem Kp.gone {S T : Sto} {p : Addr} (k : Kp S T) (h : S p = none) : Kp S (Lo.gone T p) := fun a d e => by
  rw [gone_ne]
  · exact k a d e
  · intro q; subst q; rw [h] at e; cases e
theorem put_old {S : Sto} {p a : Addr} {c d : Cell} (h : S p = none) (e : S a = some d) : put S p c a = some d := Kp.put h a d e
theorem ne_old {S : Sto} {p a : Addr} {d : Cell} (h : S p = none) (e : S a = some d) : a ≠ p := by
  intro q; subst q; rw [h] at e; cases e
/-- a def that makes data out of data and leaves all else as it was -/
def dPure (n : Nat) (ok : List PyData → Prop) (f : List PyData → PyData) : DSp := fun rs S P => ∃ xs : List PyData, rs = xs.map .dat ∧ xs.length = n ∧ ok xs ∧ ∀ S', Kp S S' → P (.dat (f xs)) S'
def dPure1 (ok : PyData → Prop) (f : PyData → PyData) : DSp := fun rs S P => ∃ x, rs = [.dat x] ∧ ok x ∧ ∀ S', Kp S S' → P (.dat (f x)) S'
def dPure2 (ok : PyData → PyData → Prop) (f : PyData → PyData → PyData) : DSp := fun rs S P => ∃ x y, rs = [.dat x, .dat y] ∧ ok x y ∧ ∀ S', Kp S S' → P (.dat (f x y)) S'
theorem gone_put {S : Sto} {p : Addr} {c : Cell} (h : S p = none) : gone (put S p c) p = S := by
  funext b
  unfold gone put
  split
  · rename_i e; rw [e, h]
  · rfl
theorem put_put {S : Sto} {p : Addr} {c d : Cell} : put (put S p c) p d = put S p d := by
  funext b
  unfold put
  split <;> rfl
theorem lt1 (c d : Nat) : decide (([c] : List Nat) < [d]) = decide (c < d) := by
  have : (([c] : List Nat) < [d]) ↔ c < d := by
    rw [List.cons_lt_cons_iff]
    simp
  exact decide_eq_decide.mpr this
theorem Kp.goes {S T : Sto} {p : Addr} (k : Kp S T) : Kp (Lo.gone S p) (Lo.gone T p) := fun a c e => by
  unfold Lo.gone at e ⊢
  split at e
  · cases e
  · rename_i h; rw [if_neg h]; exact k a c e
theorem Kp.gput {S : Sto} {p : Addr} {c : Cell} : Kp (Lo.gone S p) (Lo.gone (Lo.put S p c) p) := fun a d e => by
  unfold Lo.gone at e ⊢
  split at e
  · cases e
  · rename_i h; rw [if_neg h]; unfold Lo.put; rw [if_neg h]; exact e
theorem cmp_fn {g : DG} {de : DE} {ρ : Vrs} {p : Addr} {f : PyData → PyData} {P : List PyData → Sto → Prop} : ∀ (xs acc : List PyData) (S : Sto), S p = some (.lst acc) → xs.length + acc.length ≤ 1000000 →
    (∀ x ∈ xs, ∀ (S1 : Sto) (R : PK), (∀ S2, Kp S1 S2 → R (.dat (f x)) S2) → g (.dat x) ρ S1 fun ρ1 S2 => de ρ1 S2 R) →
    (∀ S2, Kp (gone S p) S2 → P (acc ++ xs.map f) S2) → dCmp g dYes de ρ p xs acc S P
  | [], acc, S, e, _, _, h => ⟨e, by simpa using h _ (Kp.refl _)⟩
  | x :: xs, acc, S, e, hl, hs, h => by
    refine hs x (List.mem_cons_self ..) S _ fun S2 k => ?_
    have e2 := k p _ e
    refine ⟨e2, by simp at hl; omega, cmp_fn xs (acc ++ [f x]) _ put_same (by simp at hl ⊢; omega) (fun y hy => hs y (List.mem_cons_of_mem _ hy)) fun S3 k3 => ?_⟩
    rw [List.append_assoc]
    exact h S3 ((Kp.goes k).trans (Kp.gput.trans k3))
theorem lc_fn {g : DG} {de : DE} {ρ : Vrs} {f : PyData → PyData} {P : List PyData → Sto → Prop} {S : Sto} {xs : List PyData} (hl : xs.length ≤ 1000000)
    (hs : ∀ x ∈ xs, ∀ (S1 : Sto) (R : PK), (∀ S2, Kp S1 S2 → R (.dat (f x)) S2) → g (.dat x) ρ S1 fun ρ1 S2 => de ρ1 S2 R) (h : ∀ S2, Kp S S2 → P (xs.map f) S2) :
    ∀ p, S p = none → dCmp g dYes de ρ p xs [] (put S p (.lst [])) P := fun p hp =>
  cmp_fn xs [] _ put_same (by simpa using hl) hs fun S2 k => by
    rw [gone_put hp] at k
    simpa using h S2 k
theorem cmp_flt {i : Nat} {t : DT} {de : DE} {ρ : Vrs} {p : Addr} {q : PyData → Bool} {f : PyData → PyData} {P : List PyData → Sto → Prop} : ∀ (xs acc : List PyData) (S : Sto), S p = some (.lst acc) → xs.length + acc.length ≤ 1000000 →
    (∀ x ∈ xs, ∀ (S0 S1 : Sto) (R : Bool → Sto → Prop), Kp (gone S p) (gone S0 p) → S0 = S1 → (∀ S2, Kp S1 S2 → R (q x) S2) → t (ρ.set i (some (.dat x))) S1 R) →
    (∀ x ∈ xs, q x = true → ∀ (S0 S1 : Sto) (R : PK), Kp (gone S p) (gone S0 p) → S0 = S1 → (∀ S2, Kp S1 S2 → R (.dat (f x)) S2) → de (ρ.set i (some (.dat x))) S1 R) →
    (∀ S2, Kp (gone S p) S2 → P (acc ++ (xs.filter q).map f) S2) → dCmp (dName i) t de ρ p xs acc S P
  | [], acc, S, e, _, _, _, h => ⟨e, by simpa using h _ (Kp.refl _)⟩
  | x :: xs, acc, S, e, hl, ht, hs, h => by
    refine ht x (List.mem_cons_self ..) S S _ (Kp.refl _) rfl fun S2 k => ?_
    have e2 := k p _ e
    by_cases hq : q x = true
    · rw [if_pos hq]
      refine hs x (List.mem_cons_self ..) hq S2 S2 _ (Kp.goes k) rfl fun S3 k3 => ?_
      have e3 := k3 p _ e2
      have kk : Kp (gone S p) (gone (put S3 p (.lst (acc ++ [f x]))) p) := (Kp.goes (k.trans k3)).trans Kp.gput
      refine ⟨e3, by simp at hl; omega, cmp_flt xs (acc ++ [f x]) _ put_same (by simp at hl ⊢; omega) (fun y hy S0 S1 R h0 => ht y (List.mem_cons_of_mem _ hy) S0 S1 R (kk.trans h0)) (fun y hy hy2 S0 S1 R h0 => hs y (List.mem_cons_of_mem _ hy) hy2 S0 S1 R (kk.trans h0)) fun S4 k4 => ?_⟩
      rw [List.append_assoc]
      have := h S4 (kk.trans k4)
      rw [List.filter_cons_of_pos hq] at this
      exact this
    · rw [if_neg hq]
      have kk : Kp (gone S p) (gone S2 p) := Kp.goes k
      refine cmp_flt xs acc S2 e2 (by simp at hl ⊢; omega) (fun y hy S0 S1 R h0 => ht y (List.mem_cons_of_mem _ hy) S0 S1 R (kk.trans h0)) (fun y hy hy2 S0 S1 R h0 => hs y (List.mem_cons_of_mem _ hy) hy2 S0 S1 R (kk.trans h0)) fun S4 k4 => ?_
      have := h S4 (kk.trans k4)
      rw [List.filter_cons_of_neg hq] at this
      exact this
/-- what stood in S (not at p, where the new list is made) stands in S1 -/
theorem kp_out {S S1 : Sto} {p : Addr} {c : Cell} (hp : S p = none) (k : Kp (gone (put S p c) p) (gone S1 p)) : Kp S S1 := fun a d e => by
  rw [gone_put hp] at k
  have := k a d e
  rwa [gone_ne (ne_old hp e)] at this
theorem lc_flt {i : Nat} {t : DT} {de : DE} {ρ : Vrs} {q : PyData → Bool} {f : PyData → PyData} {P : List PyData → Sto → Prop} {S : Sto} {xs : List PyData} (hl : xs.length ≤ 1000000)
    (ht : ∀ x ∈ xs, ∀ (S1 : Sto) (R : Bool → Sto → Prop), Kp S S1 → (∀ S2, Kp S1 S2 → R (q x) S2) → t (ρ.set i (some (.dat x))) S1 R)
    (hs : ∀ x ∈ xs, q x = true → ∀ (S1 : Sto) (R : PK), Kp S S1 → (∀ S2, Kp S1 S2 → R (.dat (f x)) S2) → de (ρ.set i (some (.dat x))) S1 R) (h : ∀ S2, Kp S S2 → P ((xs.filter q).map f) S2) :
    ∀ p, S p = none → dCmp (dName i) t de ρ p xs [] (put S p (.lst [])) P := fun p hp =>
  cmp_flt (q := q) (f := f) xs [] _ put_same (by simpa using hl)
    (fun x hx S0 S1 R k e => by subst e; exact ht x hx S0 R (kp_out hp k)) (fun x hx hq S0 S1 R k e => by subst e; exact hs x hx hq S0 R (kp_out hp k)) fun S2 k => by
    rw [gone_put hp] at k
    simpa using h S2 k
theorem boolsOf_map {α : Type} (l : List α) (q : α → Bool) : boolsOf (l.map fun x => PyData.bool (q x)) = some (l.map q) := by
  induction l with
  | nil => rfl
  | cons x l ih => rw [List.map_cons]; unfold boolsOf; rw [ih]; rfl
theorem signs_length (z : Str) : (signs z).length = z.length := by simp [signs, Str.length]
theorem oEq_ii {neg : Bool} {i j : Int} {S : Sto} {P : PK} : oEq neg (.dat (.int i)) (.dat (.int j)) S P = P (.dat (.bool (if neg = true then !decide (i = j) else decide (i = j)))) S := rfl
theorem oEq_ss {neg : Bool} {i j : Str} {S : Sto} {P : PK} : oEq neg (.dat (.str i)) (.dat (.str j)) S P = P (.dat (.bool (if neg = true then !decide (i = j) else decide (i = j)))) S := rfl
theorem oEq_deep {neg : Bool} {x y : Res} {d e : PyData} {S : Sto} {P : PK} (hx : peek S x = some d) (hy : peek S y = some e) (hn : eqS d e = none) (sx : SeqAt.shaped d = true) (sy : SeqAt.shaped e = true) (h : P (.dat (.bool (if neg = true then !PyData.eqv d e else PyData.eqv d e))) S) : oEq neg x y S P := by
  unfold oEq
  rw [hx, hy]
  dsimp only
  rw [hn]
  exact ⟨sx, sy, h⟩
theorem peek_put {S : Sto} {p : Addr} {xs : List PyData} : peek (put S p (.lst xs)) (.loc p) = some (.list xs) := by
  show (match put S p (.lst xs) p with | some (.lst xs) => some (PyData.list xs) | _ => none) = _
  rw [put_same]
theorem shaped_nil : SeqAt.shaped (.list []) = true := by decide +kernel
theorem shaped_tnil : SeqAt.shaped (.tuple []) = true := by decide +kernel
/-- no dict, no great depth, no great text -/
def nd (x : PyData) : Prop := SeqAt.shaped x = true ∧ ∀ z, x = .str z → z.length ≤ 1000000
theorem nd.no {x : PyData} (h : nd x) : ∀ es, x ≠ .dict es := by
  intro es e
  have := shaped_lay h.1
  rw [e] at this
  simp [PyData.canLay0] at this
theorem eqvAll_nil : ∀ xs : List PyData, PyData.eqvAll xs [] = xs.isEmpty
  | [] => rfl
  | _ :: _ => rfl
theorem lay_mem {xs : List PyData} (h : PyData.canLayAll0 xs = true) : ∀ x ∈ xs, x.canLay0 = true := by
  induction xs with
  | nil => intro x hx; simp at hx
  | cons y ys ih =>
    simp only [PyData.canLayAll0, Bool.and_eq_true] at h
    intro x hx
    rcases List.mem_cons.mp hx with rfl | hx
    · exact h.1
    · exact ih h.2 x hx
theorem lay_of {xs : List PyData} (h : ∀ x ∈ xs, x.canLay0 = true) : PyData.canLayAll0 xs = true := by
  induction xs with
  | nil => rfl
  | cons y ys ih => simp only [PyData.canLayAll0, Bool.and_eq_true]; exact ⟨h y (List.mem_cons_self ..), ih fun x hx => h x (List.mem_cons_of_mem _ hx)⟩
theorem depthAll_mem {xs : List PyData} : ∀ x ∈ xs, x.depth ≤ PyData.depthAll xs := by
  induction xs with
  | nil => intro x hx; simp at hx
  | cons y ys ih =>
    intro x hx
    simp only [PyData.depthAll]
    rcases List.mem_cons.mp hx with rfl | hx
    · omega
    · have := ih x hx; omega
theorem depthAll_of {xs : List PyData} {n : Nat} (h : ∀ x ∈ xs, x.depth ≤ n) : PyData.depthAll xs ≤ n := by
  induction xs with
  | nil => exact Nat.zero_le _
  | cons y ys ih =>
    simp only [PyData.depthAll]
    have h1 := h y (List.mem_cons_self ..)
    have h2 := ih fun x hx => h x (List.mem_cons_of_mem _ hx)
    omega
theorem shaped_tup_mem {xs : List PyData} (h : SeqAt.shaped (.tuple xs) = true) : ∀ x ∈ xs, SeqAt.shaped x = true := by
  unfold SeqAt.shaped at h ⊢
  rw [Bool.and_eq_true] at h
  intro x hx
  rw [Bool.and_eq_true]
  have h1 := lay_mem (by simpa [PyData.canLay0] using h.1) x hx
  have h2 := depthAll_mem x hx
  have h3 := of_decide_eq_true h.2
  simp only [PyData.depth] at h3
  exact ⟨h1, decide_eq_true (by omega)⟩
theorem shaped_lst_of {xs : List PyData} (h : ∀ x ∈ xs, x.canLay0 = true) (hd : ∀ x ∈ xs, x.depth ≤ 60) : SeqAt.shaped (.list xs) = true := by
  unfold SeqAt.shaped
  rw [Bool.and_eq_true]
  refine ⟨by simpa [PyData.canLay0] using lay_of h, decide_eq_true ?_⟩
  have := depthAll_of hd
  simp only [PyData.depth]
  omega
theorem signs_lay {z : Str} (h : PyData.canLay0 (.str z) = true) : ∀ x ∈ signs z, x.canLay0 = true := by
  intro x hx
  obtain ⟨c, hc, rfl⟩ := List.mem_map.mp hx
  have h2 : z.cps.all (· < 0x110000) = true := h
  rw [Array.all_eq_true_iff_forall_mem] at h2
  have := h2 c (Array.mem_toList_iff.mp hc)
  show (#[c] : Array Nat).all (· < 0x110000) = true
  simpa using this
theorem signs_depth {z : Str} : ∀ x ∈ signs z, x.depth ≤ 60 := by
  intro x hx
  obtain ⟨c, hc, rfl⟩ := List.mem_map.mp hx
  exact Nat.zero_le _
theorem at0 {α : Type} {x : α} {r : List α} : atI (x :: r) 0 = some x := atI_nat (j := 0) rfl
theorem at1 {α : Type} {x y : α} {r : List α} : atI (x :: y :: r) 1 = some y := atI_nat (j := 1) rfl
theorem at2 {α : Type} {x y z : α} {r : List α} : atI (x :: y :: z :: r) 2 = some z := atI_nat (j := 2) rfl
theorem at3 {α : Type} {x y z u : α} {r : List α} : atI (x :: y :: z :: u :: r) 3 = some u := atI_nat (j := 3) rfl
theorem atN {α : Type} {xs : List α} {i : Int} (h0 : 0 ≤ i) (h1 : i < xs.length) : atI xs i = some (xs[i.toNat]'(by omega)) := by
  have := atI_nat (j := i.toNat) (xs := xs) (List.getElem?_eq_getElem (by omega))
  rw [Int.toNat_of_nonneg h0] at this
  exact this
theorem cutD_from (xs : List PyData) (k : Nat) : cutD xs (some (k : Int)) none = xs.drop k := by
  unfold cutD
  rw [HT.sIx_nat, HT.sIx_none]
  rw [List.take_of_length_le (by rw [List.length_drop]; omega)]
  rcases Nat.le_total k xs.length with h | h
  · rw [Nat.min_eq_left h]
  · rw [Nat.min_eq_right h, List.drop_length, List.drop_eq_nil_of_le h]
theorem cutD_to (xs : List PyData) (k : Nat) : cutD xs none (some (k : Int)) = xs.take k := by
  unfold cutD
  rw [HT.sIx_nat, HT.sIx_none, List.drop_zero, Nat.sub_zero]
  rcases Nat.le_total k xs.length with h | h
  · rw [Nat.min_eq_left h]
  · rw [Nat.min_eq_right h, List.take_length, List.take_of_length_le h]
theorem cutD_mem {xs : List PyData} {lo hi : Option Int} : ∀ x ∈ cutD xs lo hi, x ∈ xs := fun x h => List.mem_of_mem_drop (List.mem_of_mem_take h)
theorem cutD_length {xs : List PyData} {lo hi : Option Int} : (cutD xs lo hi).length ≤ xs.length := by
  unfold cutD
  rw [List.length_take, List.length_drop]
  omega
theorem cut_tail {x : PyData} {r : List PyData} : cutD (x :: r) (some 1) none = r := cutD_from (x :: r) 1
/-- a loop by what holds ahead of each turn -/
theorem loop_inv {g : DG} {body : DS} {D : DEnds} (I : List PyData → Vrs → Sto → Prop)
    (hs : ∀ (x : PyData) (rest : List PyData) (ρ : Vrs) (S : Sto) (nx : Vrs → Sto → Prop), I (x :: rest) ρ S → (∀ ρ' S', I rest ρ' S' → nx ρ' S') →
      g (.dat x) ρ S fun ρ1 S1 => body { nx := nx, rt := D.rt, bk := D.nx, ct := nx } ρ1 S1)
    (he : ∀ ρ S, I [] ρ S → D.nx ρ S) : ∀ (xs : List PyData) (ρ : Vrs) (S : Sto), I xs ρ S → dLoop g body D xs ρ S
  | [], ρ, S, h => he ρ S h
  | x :: xs, ρ, S, h => hs x xs ρ S _ h fun ρ' S' h' => loop_inv I hs he xs ρ' S' h'
theorem loop_upto {g : DG} {body : DS} {D : DEnds} {lo : Int} {n : Nat} (I : Nat → Vrs → Sto → Prop)
    (hs : ∀ (k : Nat) (ρ : Vrs) (S : Sto) (nx : Vrs → Sto → Prop), k < n → I k ρ S → (∀ ρ' S', I (k + 1) ρ' S' → nx ρ' S') →
      g (.dat (.int (lo + (k : Int)))) ρ S fun ρ1 S1 => body { nx := nx, rt := D.rt, bk := D.nx, ct := nx } ρ1 S1)
    (he : ∀ ρ S, I n ρ S → D.nx ρ S) {ρ : Vrs} {S : Sto} (h0 : I 0 ρ S) : dLoop g body D (upto lo n) ρ S := by
  refine loop_inv (fun rest ρ S => ∃ k, k ≤ n ∧ rest = (upto lo n).drop k ∧ I k ρ S) ?_ ?_ _ _ _ ⟨0, Nat.zero_le _, rfl, h0⟩
  · rintro x rest ρ S nx ⟨k, hk, e, hi⟩ hn
    have hl : k < n := by
      rcases Nat.lt_or_ge k n with q | q
      · exact q
      · rw [List.drop_eq_nil_of_le (by rw [upto_length]; exact q)] at e; cases e
    rw [List.drop_eq_getElem_cons (by rw [upto_length]; exact hl)] at e
    rw [List.cons.injEq] at e
    obtain ⟨e1, e2⟩ := e
    have ex : x = .int (lo + (k : Int)) := by rw [e1]; simp [upto]
    subst ex
    exact hs k ρ S nx hl hi fun ρ' S' h' => hn ρ' S' ⟨k + 1, hl, e2, h'⟩
  · rintro ρ S ⟨k, hk, e, hi⟩
    have : k = n := by
      rcases Nat.lt_or_ge k n with q | q
      · rw [List.drop_eq_getElem_cons (by rw [upto_length]; exact q)] at e; cases e
      · omega
    subst this
    exact he ρ S hi
theorem dictIn_put {S : Sto} {p : Addr} {kvs : List (Key × PyData)} {k : Key} {P : Option PyData → Prop} : dictIn (put S p (.dct kvs)) (.loc p) k P = P (valD kvs k) := by
  show (match put S p (.dct kvs) p with | some (.dct xs) => P (valD xs k) | _ => False) = _
  rw [put_same]
theorem old_none {S T : Sto} {q : Addr} (k : Kp S T) (h : T q = none) : S q = none := by
  cases e : S q with
  | none => rfl
  | some c => rw [k q c e] at h; cases h
theorem isT_int : ∀ x, isT "int" x = match x with | .int _ => true | .bool _ => true | _ => false := by
  intro x; cases x <;> (simp only [isT, kindD]; decide +kernel)
theorem isT_bool : ∀ x, isT "bool" x = match x with | .bool _ => true | _ => false := by
  intro x; cases x <;> (simp only [isT, kindD]; decide +kernel)
theorem isT_str : ∀ x, isT "str" x = match x with | .str _ => true | _ => false := by
  intro x; cases x <;> (simp only [isT, kindD]; decide +kernel)
theorem isT_tuple : ∀ x, isT "tuple" x = match x with | .tuple _ => true | _ => false := by
  intro x; cases x <;> (simp only [isT, kindD]; decide +kernel)
theorem oEq_bi {neg : Bool} {b : Bool} {i : Int} {S : Sto} {P : PK} (h : P (.dat (.bool (if neg = true then !((if b = true then 1 else 0) == i) else ((if b = true then 1 else 0) == i)))) S) : oEq neg (.dat (.bool b)) (.dat (.int i)) S P :=
  oEq_deep rfl rfl rfl (by cases b <;> decide +kernel) (by unfold SeqAt.shaped; rw [Bool.and_eq_true]; exact ⟨rfl, decide_eq_true (Nat.zero_le _)⟩) h
section
variable {S : Sto} {P : PK} {i j : Int} {b : Bool} {y z : Str} {xs ys : List PyData} {lo hi : Option Int}
theorem oAdd_ii : oAdd (.dat (.int i)) (.dat (.int j)) S P = P (.dat (.int (i + j))) S := rfl
theorem oAdd_ib : oAdd (.dat (.int i)) (.dat (.bool b)) S P = P (.dat (.int (i + b2 b))) S := rfl
theorem oAdd_bi : oAdd (.dat (.bool b)) (.dat (.int i)) S P = P (.dat (.int (b2 b + i))) S := rfl
theorem oAdd_ss : oAdd (.dat (.str y)) (.dat (.str z)) S P = (y.length + z.length ≤ 1000000 ∧ P (.dat (.str (y ++ z))) S) := rfl
theorem oAdd_tt : oAdd (.dat (.tuple xs)) (.dat (.tuple ys)) S P = (xs.length + ys.length ≤ 1000000 ∧ P (.dat (.tuple (xs ++ ys))) S) := rfl
theorem oSub_ii : oSub' (.dat (.int i)) (.dat (.int j)) S P = P (.dat (.int (i - j))) S := rfl
theorem oSub_ib : oSub' (.dat (.int i)) (.dat (.bool b)) S P = P (.dat (.int (i - b2 b))) S := rfl
theorem oSub_bi : oSub' (.dat (.bool b)) (.dat (.int i)) S P = P (.dat (.int (b2 b - i))) S := rfl
theorem oMul_ii : oMulA (.dat (.int i)) (.dat (.int j)) S P = (CMul i j ∧ P (.dat (.int (i * j))) S) := rfl
theorem oMul_si : oMulA (.dat (.str z)) (.dat (.int i)) S P = (2 ≤ i ∧ 1 ≤ z.length ∧ z.length * i.toNat ≤ 1000000 ∧ P (.dat (.str (repS i.toNat z))) S) := rfl
theorem oSl_t : oSl (.dat (.tuple xs)) lo hi S P = P (.dat (.tuple (cutD xs lo hi))) S := rfl
theorem oSl_s : oSl (.dat (.str z)) lo hi S P = (z.length ≤ 1000000 ∧ P (.dat (.str (cutS z lo hi))) S) := rfl
/-- lists, wherever they stand -/
theorem oAdd_ll {x y : Res} (hx : peek S x = some (.list xs)) (hy : peek S y = some (.list ys)) (hl : xs.length + ys.length ≤ 1000000) (h : ∀ p, S p = none → P (.loc p) (put S p (.lst (xs ++ ys)))) : oAdd x y S P := by
  unfold oAdd
  split
  · cases hx
  · cases hx
  · cases hx
  · cases hx
  · cases hx
  · rw [hx, hy]; exact ⟨hl, h⟩
end
def isDct : PyData → Bool
  | .dict _ => true
  | _ => false
end Lo
local macro_rules
  | `(tactic| infer_instance) => `(tactic| simp only [Lo.dSeq, Lo.dNext, Lo.dIfS, Lo.dRet, Lo.dRetN, Lo.dDrop, Lo.dAsg, Lo.dName, Lo.dPar, Lo.dPar3, Lo.dAndV, Lo.dOrV, Lo.dNotV, Lo.dAnd, Lo.dOr, Lo.dNot, Lo.dIf, Lo.dTest, Lo.dIsB, Lo.dVar, Lo.dC, Lo.dCons, Lo.dNil, Lo.dTup, Lo.dLst, Lo.dLstS, Lo.datas,
  Lo.dOp, Lo.dUn, Lo.dChain, Lo.dCB, Lo.dCall, Lo.dCallK, Lo.dIsi, Lo.peek, Lo.startR, Lo.oOrd, Lo.oLt, Lo.oLe, Lo.oGt, Lo.oGe, Lo.oI, Lo.oNeg, Lo.oAdd_ii, Lo.oAdd_ib, Lo.oAdd_bi, Lo.oAdd_ss, Lo.oAdd_tt, Lo.oSub_ii, Lo.oSub_ib, Lo.oSub_bi, Lo.oMul_ii, Lo.oMul_si, Lo.oSl_t, Lo.oSl_s, Lo.oMod, Lo.oDiv, Lo.oPow, Lo.oIs, Lo.isNone, Lo.oIn, Lo.itemsOf, Lo.flatD, Lo.cLen, Lo.lenD, Lo.cInt, Lo.cOrd, Lo.cMax, Lo.cMin,
  Lo.oIx, Lo.dFor, Lo.dLc, Lo.dIt, Lo.dItT, Lo.dItS, Lo.dRng1, Lo.dRng2, Lo.dZip, Lo.dGTup, Lo.dGCons, Lo.dGNil, Lo.dYes, Lo.wipeR, Lo.dPart, Lo.dNoPart, Lo.dSl, Lo.dSt, Lo.dM, Lo.dM0, Lo.tyR, Lo.mAppend, Lo.mExtend, Lo.mPopAt, Lo.mIndex, Lo.mUpper, Lo.dDisp, Lo.dPNil, Lo.dPCons, Lo.asKv, Lo.toKey, Lo.dDGet, Lo.dGSub, Lo.dGet1, Lo.dGet2, Lo.dKGet2, Lo.dKeep,
  Lo.dFrz, Lo.cBs, Lo.cList, Lo.cTuple, Lo.cStr, Lo.cRepr, Lo.cSorted, Lo.cDict,
  List.map_cons, List.map_nil, List.length_cons, List.length_nil, List.replicate, List.nil_append, List.cons_append, List.append_nil, List.getElem?_cons_zero, List.getElem?_cons_succ, List.set_cons_zero, List.set_cons_succ, Option.map_some, Option.bind_some,
  Nat.reduceAdd, Nat.reduceSub, Nat.zero_add, Nat.sub_zero, Nat.add_one_sub_one, Lo.isT_int, Lo.isT_bool, Lo.isT_str, Lo.isT_tuple, Lo.oEq_ii, Lo.oEq_ss, Lo.at0, Lo.at1, Lo.at2, Lo.at3, reduceIte, eq_self, if_true, if_false, Bool.false_eq_true, reduceCtorEq, Bool.not_true, Bool.not_false, ite_true, ite_false])

/-! Own layer, part R: of which data repr is a given quoted text. -/
namespace Lo
open PySem PySem.Spec PyProof.Rows L2
theorem foldl_flat (f : Nat → List Nat) : ∀ (l : List Nat) (acc : Array Nat), (l.foldl (fun out c => out ++ (f c).toArray) acc).toList = acc.toList ++ l.flatMap f
  | [], acc => by simp
  | c :: l, acc => by
    rw [List.foldl_cons, foldl_flat f l]
    simp
theorem repr_list (x : Str) : (reprText x).cps.toList = reprQuote x :: (x.cps.toList.flatMap (Builtin.Str.reprChar (reprQuote x)) ++ [reprQuote x]) := by
  unfold reprText
  rw [Array.toList_push, ← Array.foldl_toList, foldl_flat]
  simp
theorem reprChar_plain (q c : Nat) : Builtin.Str.reprChar q c = [c] ∨ 92 ∈ Builtin.Str.reprChar q c := by
  unfold Builtin.Str.reprChar
  dsimp only
  split
  · exact Or.inr (by simp)
  split
  · exact Or.inr (by simp)
  split
  · exact Or.inr (by simp)
  split
  · exact Or.inr (by simp)
  split
  · exact Or.inl rfl
  split
  · exact Or.inr (by simp)
  split
  · exact Or.inr (by simp)
  · exact Or.inr (by simp)
theorem flat_plain {q : Nat} : ∀ {l : List Nat}, 92 ∉ l.flatMap (Builtin.Str.reprChar q) → l.flatMap (Builtin.Str.reprChar q) = l
  | [], _ => rfl
  | c :: l, h => by
    rw [List.flatMap_cons, List.mem_append, not_or] at h
    rw [List.flatMap_cons, flat_plain h.2]
    rcases reprChar_plain q c with e | e
    · rw [e]; rfl
    · exact absurd e h.1
theorem repr_plain {x T : Str} {body : List Nat} (hT : T.cps.toList = 39 :: (body ++ [39])) (hb : 92 ∉ body) (h : reprText x = T) : x.cps.toList = body := by
  have e := repr_list x
  rw [h, hT] at e
  rw [List.cons.injEq] at e
  obtain ⟨e1, e2⟩ := e
  rw [← e1] at e2
  have e3 := List.append_cancel_right e2
  rw [e3] at hb
  rw [e3, flat_plain hb]
theorem textFrom_pre : ∀ (ts : List Str) (k : Nat) (acc : Str), ∃ r, (textFrom k acc ts).cps.toList = acc.cps.toList ++ r
  | [], k, acc => ⟨[], by simp [textFrom]⟩
  | t :: ts, k, acc => by
    obtain ⟨r, e⟩ := textFrom_pre ts (k + 1) (acc ++ (if k > 0 then ", " else "" : String) ++ t)
    refine ⟨(Str.ofString (if k > 0 then ", " else "")).cps.toList ++ (t.cps.toList ++ r), ?_⟩
    unfold textFrom
    rw [e]
    show ((acc.cps ++ (Str.ofString (if k > 0 then ", " else "")).cps) ++ t.cps).toList ++ r = _
    rw [Array.toList_append, Array.toList_append, List.append_assoc, List.append_assoc]
theorem int_head (i : Int) : (PySem.Str.ofString (toString i)).cps.toList.head? ≠ some 39 := by
  rcases Int.lt_or_le i 0 with h | h
  · rw [toString_neg h]
    intro e
    have : (PySem.Str.ofString ("-" ++ toString (0 - i))).cps.toList = 45 :: (PySem.Str.ofString (toString (0 - i))).cps.toList := by
      rw [Str.ofString_eq_toList, Str.ofString_eq_toList, String.toList_append]
      rfl
    rw [this] at e
    cases e
  · obtain ⟨m, rfl⟩ := Int.eq_ofNat_of_zero_le h
    rw [PySem.W.KIN.signs_num]
    intro e
    cases hd : Nat.toDigits 10 m with
    | nil => rw [hd] at e; cases e
    | cons c cs =>
      rw [hd] at e
      have hc := Nat.isDigit_of_mem_toDigits (b := 10) (n := m) (by decide) (by decide) (by rw [hd]; exact List.mem_cons_self ..)
      simp only [List.map_cons, List.head?_cons, Option.some.injEq] at e
      unfold Char.isDigit at hc
      simp only [Bool.and_eq_true, decide_eq_true_eq] at hc
      have h1 := hc.1
      have : c.toNat ≥ 48 := by
        have := UInt32.le_iff_toNat_le.mp h1
        exact this
      omega
/-- of all data that may be laid only the text itself is shown as this quoted text -/
theorem shown_plain {d : PyData} {T : Str} {body : List Nat} (hc : d.canLay0 = true) (hT : T.cps.toList = 39 :: (body ++ [39])) (hb : 92 ∉ body) (h : d.shown = T) : d = .str ⟨body.toArray⟩ := by
  have hh : d.shown.cps.toList.head? = some 39 := by rw [h, hT]; rfl
  cases d with
  | none => exact absurd hh (by decide +kernel)
  | bool b => cases b <;> exact absurd hh (by decide +kernel)
  | int i => exact absurd hh (int_head i)
  | str x =>
    have := repr_plain hT hb h
    obtain ⟨⟨l⟩⟩ := x
    simp only at this
    rw [← this]
  | list xs =>
    exfalso
    simp only [PyData.shown] at hh
    unfold listText at hh
    obtain ⟨r, e⟩ := textFrom_pre (PyData.shownAll xs) 0 "["
    have : (textFrom 0 "[" (PyData.shownAll xs) ++ ("]" : Str)).cps.toList.head? = some 91 := by
      show ((textFrom 0 "[" (PyData.shownAll xs)).cps ++ ("]" : Str).cps).toList.head? = some 91
      rw [Array.toList_append, e]
      rfl
    rw [this] at hh
    cases hh
  | tuple xs =>
    exfalso
    simp only [PyData.shown] at hh
    unfold tupleText at hh
    have : ∀ a b : Str, ((("(" : Str) ++ a) ++ b).cps.toList.head? = some 40 := by
      intro a b
      show ((("(" : Str).cps ++ a.cps) ++ b.cps).toList.head? = some 40
      rw [Array.toList_append, Array.toList_append]
      rfl
    rw [this] at hh
    cases hh
  | dict es => simp [PyData.canLay0] at hc
theorem shown_iff {d : PyData} {T w : Str} {body : List Nat} (hc : d.canLay0 = true) (hT : T.cps.toList = 39 :: (body ++ [39])) (hb : 92 ∉ body) (hw : w = ⟨body.toArray⟩) (hs : (PyData.str w).shown = T) : eqF (.str T) (.str d.shown) = true ↔ d = .str w := by
  constructor
  · intro h
    rw [hw]
    exact shown_plain hc hT hb (eq_of_beq h).symm
  · rintro rfl
    rw [hs]
    exact beq_self_eq_true _
theorem shown_heap {d : PyData} (hc : d.canLay0 = true) : eqF (.str "'heap'") (.str d.shown) = true ↔ d = .str "heap" := shown_iff hc (body := [104, 101, 97, 112]) rfl (by decide) rfl (by decide +kernel)
theorem shown_pipe {d : PyData} (hc : d.canLay0 = true) : eqF (.str "'pipe'") (.str d.shown) = true ↔ d = .str "pipe" := shown_iff hc (body := [112, 105, 112, 101]) rfl (by decide) rfl (by decide +kernel)
theorem shown_bad {d : PyData} (hc : d.canLay0 = true) : eqF (.str "'bad'") (.str d.shown) = true ↔ d = .str "bad" := shown_iff hc (body := [98, 97, 100]) rfl (by decide) rfl (by decide +kernel)
theorem shown_clean {d : PyData} (hc : d.canLay0 = true) : eqF (.str "'clean'") (.str d.shown) = true ↔ d = .str "clean" := shown_iff hc (body := [99, 108, 101, 97, 110]) rfl (by decide) rfl (by decide +kernel)
/-- may be shown -/
def rp (y : PyData) : Prop := y.showable = true ∧ y.shown.length ≤ 16000000
end Lo

set_option exponentiation.threshold 3000
/-! Own layer, part S: data of plain signs and small ints, its size and depth. -/
namespace Lo
open PySem PySem.Spec PyProof.Rows L2
mutual
/-- ASCII texts, ints up to B, no dict -/
def sm (B : Nat) : PyData → Bool
  | .none => true
  | .bool _ => true
  | .int i => decide (i.natAbs ≤ B)
  | .str x => x.cps.toList.all (fun c => decide (c < 128))
  | .list xs => smAll B xs
  | .tuple xs => smAll B xs
  | .dict _ => false
def smAll (B : Nat) : List PyData → Bool
  | [] => true
  | x :: xs => sm B x && smAll B xs
/-- at least as long as what is shown -/
def sz : PyData → Nat
  | .none => 5
  | .bool _ => 5
  | .int _ => 101
  | .str x => 10 * x.length + 2
  | .list xs => szAll xs + 3
  | .tuple xs => szAll xs + 3
  | .dict _ => 0
def szAll : List PyData → Nat
  | [] => 0
  | x :: xs => sz x + 2 + szAll xs
end
theorem smAll_iff {B : Nat} : ∀ {xs : List PyData}, smAll B xs = true ↔ ∀ x ∈ xs, sm B x = true
  | [] => by simp [smAll]
  | x :: xs => by
    simp only [smAll, Bool.and_eq_true, List.mem_cons, forall_eq_or_imp]
    rw [smAll_iff]
theorem szAll_append : ∀ xs ys : List PyData, szAll (xs ++ ys) = szAll xs + szAll ys
  | [], ys => by simp [szAll]
  | x :: xs, ys => by
    rw [List.cons_append]
    simp only [szAll]
    rw [szAll_append xs ys]; omega
theorem szAll_mem : ∀ {xs : List PyData}, ∀ x ∈ xs, sz x + 2 ≤ szAll xs
  | [], x, h => by simp at h
  | y :: ys, x, h => by
    simp only [szAll]
    rcases List.mem_cons.mp h with rfl | h
    · omega
    · have := szAll_mem x h; omega
theorem szAll_len : ∀ xs : List PyData, 2 * xs.length ≤ szAll xs
  | [] => by simp
  | x :: xs => by
    have := szAll_len xs
    simp only [szAll, List.length_cons]; omega
theorem szAll_le {xs : List PyData} {n : Nat} (h : ∀ x ∈ xs, sz x ≤ n) : szAll xs ≤ xs.length * (n + 2) := by
  induction xs with
  | nil => simp [szAll]
  | cons x xs ih =>
    simp only [szAll, List.length_cons]
    have h1 := h x (List.mem_cons_self ..)
    have h2 := ih fun y hy => h y (List.mem_cons_of_mem _ hy)
    rw [Nat.add_mul]; omega
mutual
theorem sm_lay {B : Nat} : ∀ d : PyData, sm B d = true → d.canLay0 = true
  | .none, _ => rfl
  | .bool _, _ => rfl
  | .int _, _ => rfl
  | .str x, h => by
    show x.cps.all (· < 0x110000) = true
    rw [Array.all_eq_true_iff_forall_mem]
    intro c hc
    simp only [sm, List.all_eq_true] at h
    have := of_decide_eq_true (h c (Array.mem_toList_iff.mpr hc))
    simp; omega
  | .list xs, h => by simpa [PyData.canLay0] using sm_layAll xs (by simpa [sm] using h)
  | .tuple xs, h => by simpa [PyData.canLay0] using sm_layAll xs (by simpa [sm] using h)
  | .dict _, h => by simp [sm] at h
theorem sm_layAll {B : Nat} : ∀ xs : List PyData, smAll B xs = true → PyData.canLayAll0 xs = true
  | [], _ => rfl
  | x :: xs, h => by
    simp only [smAll, Bool.and_eq_true] at h
    simp only [PyData.canLayAll0, Bool.and_eq_true]
    exact ⟨sm_lay x h.1, sm_layAll xs h.2⟩
theorem sm_show {B : Nat} (hB : B < 2 ^ 1900) : ∀ d : PyData, sm B d = true → d.showable = true
  | .none, _ => rfl
  | .bool _, _ => rfl
  | .int i, h => by
    simp only [sm] at h
    have h := of_decide_eq_true h
    simp only [PyData.showable]
    refine decide_eq_true ?_
    by_cases h0 : i.natAbs = 0
    · rw [h0]; decide
    · have := (Nat.log2_lt h0).mpr (Nat.lt_of_le_of_lt h hB)
      omega
  | .str _, _ => rfl
  | .list xs, h => by simpa [PyData.showable] using sm_showAll hB xs (by simpa [sm] using h)
  | .tuple xs, h => by simpa [PyData.showable] using sm_showAll hB xs (by simpa [sm] using h)
  | .dict _, h => by simp [sm] at h
theorem sm_showAll {B : Nat} (hB : B < 2 ^ 1900) : ∀ xs : List PyData, smAll B xs = true → PyData.showableAll xs = true
  | [], _ => rfl
  | x :: xs, h => by
    simp only [smAll, Bool.and_eq_true] at h
    simp only [PyData.showableAll, Bool.and_eq_true]
    exact ⟨sm_show hB x h.1, sm_showAll hB xs h.2⟩
end
theorem int_len {B : Nat} (hB : B < 10 ^ 100) {i : Int} (h : i.natAbs ≤ B) : (Str.ofString (toString i)).length ≤ 101 := by
  rcases Int.lt_or_le i 0 with h0 | h0
  · have e := len_text_negI h0
    have h1 : (Str.ofString (toString (0 - i))).length ≤ 100 := toString_length_le (by omega) (k := 100) (by decide) (by omega)
    omega
  · have h1 : (Str.ofString (toString i)).length ≤ 100 := toString_length_le h0 (k := 100) (by decide) (by omega)
    omega
mutual
theorem sm_shown {B : Nat} (hB : B < 10 ^ 100) : ∀ d : PyData, sm B d = true → d.shown.length ≤ sz d
  | .none, _ => by decide +kernel
  | .bool b, _ => by cases b <;> decide +kernel
  | .int i, h => by
    simp only [sm] at h
    exact int_len hB (of_decide_eq_true h)
  | .str x, h => by
    simp only [PyData.shown, sz]
    refine StrLaws.reprText_len x fun c hc => ?_
    simp only [sm, List.all_eq_true] at h
    have := of_decide_eq_true (h c hc)
    omega
  | .list xs, h => by
    simp only [PyData.shown, sz]
    have h1 := listText_len_le (PyData.shownAll xs)
    have h2 := sm_shownAll hB xs (by simpa [sm] using h)
    omega
  | .tuple xs, h => by
    simp only [PyData.shown, sz]
    have h1 := tupleText_len_le (PyData.shownAll xs)
    have h2 := sm_shownAll hB xs (by simpa [sm] using h)
    omega
  | .dict _, h => by simp [sm] at h
theorem sm_shownAll {B : Nat} (hB : B < 10 ^ 100) : ∀ xs : List PyData, smAll B xs = true → ((PyData.shownAll xs).map (·.length)).sum + 2 * (PyData.shownAll xs).length ≤ szAll xs
  | [], _ => by simp [PyData.shownAll, szAll]
  | x :: xs, h => by
    simp only [smAll, Bool.and_eq_true] at h
    have h1 := sm_shown hB x h.1
    have h2 := sm_shownAll hB xs h.2
    simp only [PyData.shownAll, szAll, List.map_cons, List.sum_cons, List.length_cons]
    omega
end
/-- such data of bounded size and depth -/
structure Sm (B n k : Nat) (x : PyData) : Prop where
  sm : sm B x = true
  sz : sz x ≤ n
  dp : x.depth ≤ k
mutual
theorem sm_mono {B B' : Nat} (hB : B ≤ B') : ∀ d : PyData, sm B d = true → sm B' d = true
  | .none, _ => rfl
  | .bool _, _ => rfl
  | .int i, h => by simp only [Lo.sm] at h ⊢; exact decide_eq_true (Nat.le_trans (of_decide_eq_true h) hB)
  | .str x, h => h
  | .list xs, h => by simp only [Lo.sm] at h ⊢; exact smAll_mono hB xs h
  | .tuple xs, h => by simp only [Lo.sm] at h ⊢; exact smAll_mono hB xs h
  | .dict _, h => by simp [Lo.sm] at h
theorem smAll_mono {B B' : Nat} (hB : B ≤ B') : ∀ xs : List PyData, smAll B xs = true → smAll B' xs = true
  | [], _ => rfl
  | x :: xs, h => by
    simp only [smAll, Bool.and_eq_true] at h ⊢
    exact ⟨sm_mono hB x h.1, smAll_mono hB xs h.2⟩
end
theorem Sm.mono {B B' n n' k k' : Nat} {x : PyData} (h : Sm B n k x) (hB : B ≤ B') (hn : n ≤ n') (hk : k ≤ k') : Sm B' n' k' x :=
  ⟨sm_mono hB x h.sm, Nat.le_trans h.sz hn, Nat.le_trans h.dp hk⟩
theorem Sm.nd {B n k : Nat} {x : PyData} (h : Sm B n k x) (hn : n ≤ 10000000) (hk : k ≤ 64) : nd x := by
  refine ⟨?_, fun z e => ?_⟩
  · unfold SeqAt.shaped
    rw [Bool.and_eq_true]
    exact ⟨sm_lay x h.sm, decide_eq_true (Nat.le_trans h.dp hk)⟩
  · subst e
    have := h.sz
    simp only [Lo.sz] at this
    omega
theorem Sm.rp {B n k : Nat} {x : PyData} (h : Sm B n k x) (hB : B < 10 ^ 100) (hn : n ≤ 10000000) : rp x :=
  ⟨sm_show (Nat.lt_trans hB (by decide +kernel)) x h.sm, by have := sm_shown hB x h.sm; have := h.sz; omega⟩
theorem Sm.items {B n k : Nat} {xs : List PyData} (h : Sm B n k (.tuple xs)) : ∀ x ∈ xs, Sm B n k x := fun x hx => by
  refine ⟨?_, ?_, ?_⟩
  · have := h.sm
    simp only [Lo.sm] at this
    exact smAll_iff.mp this x hx
  · have h1 := szAll_mem x hx
    have h2 := h.sz
    simp only [Lo.sz] at h2
    omega
  · have h1 := depthAll_mem x hx
    have h2 := h.dp
    simp only [PyData.depth] at h2
    omega
theorem Sm.len {B n k : Nat} {xs : List PyData} (h : Sm B n k (.tuple xs)) : 2 * xs.length ≤ n := by
  have h1 := szAll_len xs
  have h2 := h.sz
  simp only [Lo.sz] at h2
  omega
theorem Sm.len_l {B n k : Nat} {xs : List PyData} (h : Sm B n k (.list xs)) : 2 * xs.length ≤ n := by
  have h1 := szAll_len xs
  have h2 := h.sz
  simp only [Lo.sz] at h2
  omega
theorem Sm.ndR {B n k : Nat} {x : PyData} (h : Sm B n k x) (hB : B < 10 ^ 100) (hn : n ≤ 1000000) (hk : k ≤ 64) : (Lo.nd x ∧ ∀ xs, x = .tuple xs → xs.length ≤ 1000000 ∧ ∀ y ∈ xs, Lo.nd y) ∧ ∀ xs, x = .tuple xs → ∀ y ∈ xs, Lo.rp y := by
  refine ⟨⟨h.nd (by omega) hk, fun xs e => ?_⟩, fun xs e y hy => ?_⟩
  · subst e
    exact ⟨by have := h.len; omega, fun y hy => (h.items y hy).nd (by omega) hk⟩
  · subst e
    exact (h.items y hy).rp hB (by omega)
theorem sm_tup {B n k : Nat} {xs : List PyData} (h : ∀ x ∈ xs, Lo.sm B x = true) (hs : szAll xs + 3 ≤ n) (hd : ∀ x ∈ xs, x.depth + 1 ≤ k) (hk : 1 ≤ k) : Sm B n k (.tuple xs) := by
  refine ⟨by simpa [Lo.sm] using smAll_iff.mpr h, by simpa [Lo.sz] using hs, ?_⟩
  have : PyData.depthAll xs ≤ k - 1 := depthAll_of fun x hx => by have := hd x hx; omega
  simp only [PyData.depth]
  omega
theorem sm_lst {B n k : Nat} {xs : List PyData} (h : ∀ x ∈ xs, Lo.sm B x = true) (hs : szAll xs + 3 ≤ n) (hd : ∀ x ∈ xs, x.depth + 1 ≤ k) (hk : 1 ≤ k) : Sm B n k (.list xs) := by
  refine ⟨by simpa [Lo.sm] using smAll_iff.mpr h, by simpa [Lo.sz] using hs, ?_⟩
  have : PyData.depthAll xs ≤ k - 1 := depthAll_of fun x hx => by have := hd x hx; omega
  simp only [PyData.depth]
  omega
theorem sm_str {B : Nat} {z : Str} : Lo.sm B (.str z) = true ↔ ∀ c ∈ z.cps.toList, c < 128 := by
  simp only [Lo.sm, List.all_eq_true, decide_eq_true_eq]
theorem upper_ascii {z : Str} (h : ∀ c ∈ z.cps.toList, c < 128) : ∀ c ∈ (Txt.upper z).cps.toList, c < 128 := by
  have hu : ∀ c : Nat, c < 128 → ∀ d ∈ Unicode.upperOf c, d < 128 := by
    have : ((List.range 128).all fun c => (Unicode.upperOf c).all fun d => decide (d < 128)) = true := by decide +kernel
    intro c hc d hd
    have h1 := List.all_eq_true.mp this c (List.mem_range.mpr hc)
    exact of_decide_eq_true (List.all_eq_true.mp h1 d hd)
  intro c hc
  have hc : c ∈ placed z fun _ c => Unicode.upperOf c := Array.mem_toList_iff.mp hc
  unfold placed at hc
  rw [Array.mem_flatten] at hc
  obtain ⟨l, hl, hcl⟩ := hc
  obtain ⟨i, hi, e⟩ := Array.mem_mapIdx.mp hl
  rw [← e] at hcl
  exact hu _ (h _ (Array.mem_toList_iff.mpr (Array.getElem_mem _))) c (List.mem_toArray.mp hcl)
theorem int_sm {B : Nat} {i : Int} : Lo.sm B (.str (Str.ofString (toString i))) = true := by
  rw [sm_str]
  intro c hc
  rw [Str.ofString_eq_toList] at hc
  simp only at hc
  obtain ⟨d, hd, rfl⟩ := List.mem_map.mp hc
  exact int_ascii i d hd
theorem append_ascii {x y : Str} (h : ∀ c ∈ x.cps.toList, c < 128) (k : ∀ c ∈ y.cps.toList, c < 128) : ∀ c ∈ (x ++ y).cps.toList, c < 128 := by
  intro c hc
  have hc : c ∈ (x.cps ++ y.cps).toList := hc
  rw [Array.toList_append, List.mem_append] at hc
  rcases hc with hc | hc
  · exact h c hc
  · exact k c hc
theorem len_app (x y : Str) : (x ++ y).length = x.length + y.length := by
  show (x.cps ++ y.cps).size = _
  rw [Array.size_append]
  rfl
theorem cutS_ascii {x : Str} {lo hi : Option Int} (h : ∀ c ∈ x.cps.toList, c < 128) : ∀ c ∈ (cutS x lo hi).cps.toList, c < 128 := by
  intro c hc
  unfold cutS at hc
  simp only at hc
  exact h c (List.mem_of_mem_drop (List.mem_of_mem_take hc))
theorem cutS_len {x : Str} {lo hi : Option Int} : (cutS x lo hi).length ≤ x.length := by
  unfold cutS
  show (List.toArray _).size ≤ _
  rw [List.size_toArray, List.length_take, List.length_drop, Array.length_toList]
  show _ ≤ x.cps.size
  omega
theorem bStr_sm {B n k : Nat} (b : Bool) (hn : 52 ≤ n) : Sm B n k (.str (bStr b)) := by
  refine ⟨sm_str.mpr (by cases b <;> decide +kernel), ?_, Nat.zero_le _⟩
  have h : ∀ b, 10 * (bStr b).length + 2 ≤ 52 := by decide +kernel
  have := h b
  simp only [Lo.sz]
  omega
theorem str_sm {B n k : Nat} {z : Str} (h : ∀ c ∈ z.cps.toList, c < 128) (hn : 10 * z.length + 2 ≤ n) : Sm B n k (.str z) := ⟨sm_str.mpr h, by simpa only [Lo.sz] using hn, Nat.zero_le _⟩
theorem range_get {α : Type} : ∀ l : List α, (List.range l.length).filterMap (l[·]?) = l
  | [] => rfl
  | x :: l => by
    rw [List.length_cons, List.range_succ_eq_map, List.filterMap_cons]
    simp only [List.getElem?_cons_zero]
    rw [List.filterMap_map]
    have := range_get l
    exact congrArg (x :: ·) this
theorem adj_rev (n : Nat) : stAdj none none (-1) n = ((n : Int) - 1, n) := by
  unfold stAdj Builtin.Slice.sliceAdjust Builtin.Slice.slicePlaces
  simp only [show (-1 : Int) < 0 from by decide, if_true, show ¬ ((-1 : Int) > 0) from by decide, if_false]
  refine Prod.ext rfl ?_
  by_cases h : (n : Int) - 1 > -1
  · simp only [if_pos h]
    rw [show (- -1 : Int) = 1 from rfl, Int.ediv_one]
    omega
  · simp only [if_neg h]
    omega
theorem fmap_congr {α β : Type} {f g : α → Option β} : ∀ {l : List α}, (∀ k ∈ l, f k = g k) → l.filterMap f = l.filterMap g
  | [], _ => rfl
  | x :: l, h => by
    rw [List.filterMap_cons, List.filterMap_cons, h x (List.mem_cons_self ..), fmap_congr fun k hk => h k (List.mem_cons_of_mem _ hk)]
theorem step_rev {α : Type} (xs : List α) : stepL xs none none (-1) = xs.reverse := by
  unfold stepL
  rw [adj_rev]
  simp only
  have h := range_get xs.reverse
  rw [List.length_reverse] at h
  conv => rhs; rw [← h]
  refine fmap_congr fun k hk => ?_
  have hk := List.mem_range.mp hk
  rw [List.getElem?_reverse hk]
  congr 1
  omega
theorem szAll_reverse (xs : List PyData) : szAll xs.reverse = szAll xs := by
  induction xs with
  | nil => rfl
  | cons x xs ih =>
    rw [List.reverse_cons, szAll_append, ih]
    simp only [szAll]
    omega
theorem szAll_sub {xs ys : List PyData} (h : xs.Sublist ys) : szAll xs ≤ szAll ys := by
  induction h with
  | slnil => exact Nat.le_refl _
  | cons a _ ih => simp only [szAll]; omega
  | cons_cons a _ ih => simp only [szAll]; omega
theorem cutD_sub {xs : List PyData} {lo hi : Option Int} : (cutD xs lo hi).Sublist xs := (List.take_sublist _ _).trans (List.drop_sublist _ _)
theorem sm_tup' {B n k : Nat} {xs ys : List PyData} (h : Sm B n k (.tuple xs)) (hm : ∀ y ∈ ys, y ∈ xs) {n' : Nat} (hs : szAll ys + 3 ≤ n') : Sm B n' k (.tuple ys) := by
  have hd := h.dp
  simp only [PyData.depth] at hd
  exact sm_tup (fun y hy => (h.items y (hm y hy)).sm) hs (fun y hy => by have := depthAll_mem y (hm y hy); omega) (by omega)
end Lo

/-! Own layer, part T: statements that make a list longer, the rest of the block left folded. -/
namespace Lo
open PySem PySem.Spec PyProof.Rows L2
theorem KpB.refl (a : Addr) (S : Sto) : ∀ b c, b ≠ a → S b = some c → S b = some c := fun _ _ _ e => e
theorem newl {i : Nat} {da : DA} {rest : DS} {D : DEnds} {ρ : Vrs} {S : Sto} {rs : List Res} {L : List PyData} (hda : ∀ K : List Res → Sto → Prop, K rs S → da ρ S K) (hL : datas rs = some L) (hz : L.length ≤ 10000)
    (next : ∀ l S2, S l = none → Kp S S2 → S2 l = some (.lst L) → rest D (ρ.set i (some (.loc l))) S2) : dSeq (dAsg (dLstS da) (dName i)) rest D ρ S := by
  show da ρ S _
  refine hda _ ?_
  rw [hL]
  exact ⟨hz, fun p hp => next p _ hp (Kp.put hp) put_same⟩
theorem grow1 {i : Nat} {da : DA} {D : DEnds} {ρ : Vrs} {S : Sto} {l : Addr} {acc : List PyData} {rs : List Res} {L : List PyData} (hρ : ρ[i]? = some (some (.loc l))) (hS : S l = some (.lst acc))
    (hda : ∀ K : List Res → Sto → Prop, K rs S → da ρ S K) (hL : datas rs = some L) (hz : acc.length + L.length ≤ 1000000) (hz2 : L.length ≤ 10000)
    (next : ∀ S2, (∀ b c, b ≠ l → S b = some c → S2 b = some c) → S2 l = some (.lst (acc ++ L)) → D.nx ρ S2) : dDrop (dM "list" mExtend (dVar i) (dCons (dLstS da) dNil)) D ρ S := by
  unfold dDrop dM dVar
  rw [hρ]
  dsimp only
  refine ⟨?_, ?_⟩
  · show (match S l with | some (.lst _) => "list" = "list" | some (.dct _) => "list" = "dict" | none => False)
    rw [hS]
  · show da ρ S _
    refine hda _ ?_
    rw [hL]
    refine ⟨hz2, fun p hp => ?_⟩
    show (match put S p (.lst L) l, peek (put S p (.lst L)) (.loc p) with
      | some (.lst xs), some (.list ys) => xs.length + ys.length ≤ 1000000 ∧ _
      | _, _ => False)
    rw [put_old hp hS, peek_put]
    refine ⟨hz, next _ (fun b c hb e => ?_) put_same⟩
    rw [put_ne hb]
    exact put_old hp e
theorem grow {i : Nat} {da : DA} {rest : DS} {D : DEnds} {ρ : Vrs} {S : Sto} {l : Addr} {acc : List PyData} {rs : List Res} {L : List PyData} (hρ : ρ[i]? = some (some (.loc l))) (hS : S l = some (.lst acc))
    (hda : ∀ K : List Res → Sto → Prop, K rs S → da ρ S K) (hL : datas rs = some L) (hz : acc.length + L.length ≤ 1000000) (hz2 : L.length ≤ 10000)
    (next : ∀ S2, (∀ b c, b ≠ l → S b = some c → S2 b = some c) → S2 l = some (.lst (acc ++ L)) → rest D ρ S2) : dSeq (dDrop (dM "list" mExtend (dVar i) (dCons (dLstS da) dNil))) rest D ρ S :=
  grow1 (D := { D with nx := rest D }) hρ hS hda hL hz hz2 next
/-- a walk of a display, of a variable -/
theorem seq_for {di : DI} {g : DG} {body rest : DS} {D : DEnds} {ρ : Vrs} {S : Sto} {xs : List PyData} (hdi : ∀ K : List PyData → Sto → Prop, K xs S → di ρ S K) (h : dLoop g body { D with nx := rest D } xs ρ S) : dSeq (dFor di g body) rest D ρ S :=
  hdi _ h
/-- all of them good -/
def okL (q : PyData → Bool) (L : List PyData) : Prop := L.all q = true
theorem seq_asg {i : Nat} {de : DE} {rest : DS} {D : DEnds} {ρ : Vrs} {S : Sto} {r : Res} (hde : ∀ K : PK, K r S → de ρ S K) (next : rest D (ρ.set i (some r)) S) : dSeq (dAsg de (dName i)) rest D ρ S :=
  hde _ next
end Lo
namespace Lo
open PySem PySem.Spec PyProof.Rows L2
theorem peek_loc {S : Sto} {a : Addr} {xs : List PyData} (h : S a = some (.lst xs)) : peek S (.loc a) = some (.list xs) := by
  show (match S a with | some (.lst xs) => some (PyData.list xs) | _ => none) = _
  rw [h]
theorem for1 {di : DI} {g : DG} {body : DS} {D : DEnds} {ρ : Vrs} {S : Sto} {xs : List PyData} (hdi : ∀ K : List PyData → Sto → Prop, K xs S → di ρ S K) (h : dLoop g body D xs ρ S) : dFor di g body D ρ S :=
  hdi _ h
theorem seq_post {i : Nat} {de : DE} {rest : DS} {D : DEnds} {ρ : Vrs} {S : Sto} (Post : Res → Sto → Prop) (hde : ∀ K : PK, (∀ r S1, Post r S1 → K r S1) → de ρ S K) (next : ∀ r S1, Post r S1 → rest D (ρ.set i (some r)) S1) : dSeq (dAsg de (dName i)) rest D ρ S :=
  hde _ next
theorem seq_call {i : Nat} {d : DSp} {da : DA} {rest : DS} {D : DEnds} {ρ : Vrs} {S : Sto} {rs : List Res} (hda : ∀ K : List Res → Sto → Prop, K rs S → da ρ S K) (h : d rs S fun r S1 => rest D (ρ.set i (some r)) S1) : dSeq (dAsg (dCall d da) (dName i)) rest D ρ S :=
  hda _ h
theorem FnG.ex {P : Program} {w : World} {K : PySem.W.Frag} {mg : Str → Option Value} {base : Heap} {k n : Nat} {f : Addr} {fd : FuncData} {ps : List Str} {r : Nat → DSp} {m : Nat} (hn : n = ps.length) (h : ∀ j, j < m → FnG P w K mg base k f fd ps (lift K n (r (j + 1)))) :
    FnG P w K mg base k f fd ps (lift K n fun rs S Q => ∃ j, j < m ∧ r (j + 1) rs S Q) := by
  refine ⟨fun vs H Q E h => h.1.trans hn, fun A outer s H args us vs Q hr hG e0 hb rv hs => ?_⟩
  obtain ⟨hl, F, S, rs, Pk, o, z, ⟨j, hj, hd⟩, q⟩ := hs
  exact (h j hj).run A outer s H args us vs Q hr hG e0 hb rv ⟨hl, F, S, rs, Pk, o, z, hd, q⟩
theorem oMul_l {a : Addr} {S : Sto} {P : PK} {xs : List PyData} {k : Int} (hx : peek S (.loc a) = some (.list xs)) (h0 : 0 ≤ k) (h1 : k ≤ 1000000) (hl : xs.length * k.toNat ≤ 1000000) (h : ∀ p, S p = none → P (.loc p) (put S p (.lst (repL k.toNat xs)))) : oMulA (.loc a) (.dat (.int k)) S P := by
  show (match peek S (.loc a) with
    | some (.list xs) => 0 ≤ k ∧ k ≤ 1000000 ∧ xs.length * k.toNat ≤ 1000000 ∧ ∀ p, S p = none → P (.loc p) (put S p (.lst (repL k.toNat xs)))
    | _ => False)
  rw [hx]
  exact ⟨h0, h1, hl, h⟩
theorem eraseIdx_mp {α β : Type} (f : α → β) : ∀ (l : List α) (n : Nat), (l.map f).eraseIdx n = (l.eraseIdx n).map f
  | [], n => by cases n <;> rfl
  | x :: l, 0 => rfl
  | x :: l, n + 1 => congrArg (f x :: ·) (eraseIdx_mp f l n)
theorem okL_sm {B n k : Nat} {L : List PyData} (h : (L.all fun z => sm B z && decide (sz z ≤ n) && decide (z.depth ≤ k)) = true) : ∀ y ∈ L, Sm B n k y := fun y hy => by
  have := List.all_eq_true.mp h y hy
  rw [Bool.and_eq_true, Bool.and_eq_true] at this
  exact ⟨this.1.1, of_decide_eq_true this.1.2, of_decide_eq_true this.2⟩
end Lo

namespace Lo
open PySem PySem.Spec PyProof.Rows L2
def top (i : Nat) : Stmt := PySem.Challenge.pw_lotback_k01_kinds_told.main.body.getD i (.Pass ⟨0, 0, 0, 0⟩)
abbrev s_row_form : Stmt := top 2
abbrev s_is_whole : Stmt := top 3
abbrev s_is_number : Stmt := top 4
abbrev s_is_name : Stmt := top 5
abbrev s_is_kind : Stmt := top 6
abbrev s_is_place : Stmt := top 7
abbrev s_is_finding_word : Stmt := top 8
abbrev s_fits : Stmt := top 9
abbrev s_begins_with_word : Stmt := top 10
abbrev s_matches : Stmt := top 11
abbrev s_is_row : Stmt := top 12
abbrev s_is_finding : Stmt := top 13
abbrev s__law_feed : Stmt := top 15
abbrev s__law_draw : Stmt := top 16
abbrev s__law_count : Stmt := top 17
abbrev s__law_named : Stmt := top 18
abbrev s__law_placed : Stmt := top 19
abbrev s__law_formed : Stmt := top 20
abbrev s__law_found : Stmt := top 21
abbrev s__law_book : Stmt := top 22
abbrev s__law_notes : Stmt := top 23
abbrev s__law_case : Stmt := top 24
abbrev s__law_odd : Stmt := top 25
abbrev s__law_bent : Stmt := top 26
abbrev s__law_right : Stmt := top 27
abbrev s__law_values : Stmt := top 28
abbrev s_law : Stmt := top 29
theorem sc_row_form : FnScope ["word"] ["word"] (defScope s_row_form) := ⟨rfl, rfl, rfl, by decide +kernel, rfl, by decide +kernel, by decide +kernel⟩
theorem sc_is_whole : FnScope ["thing"] ["thing"] (defScope s_is_whole) := ⟨rfl, rfl, rfl, by decide +kernel, rfl, by decide +kernel, by decide +kernel⟩
theorem sc_is_number : FnScope ["thing"] ["thing"] (defScope s_is_number) := ⟨rfl, rfl, rfl, by decide +kernel, rfl, by decide +kernel, by decide +kernel⟩
theorem sc_is_name : FnScope ["thing", "letter"] ["thing"] (defScope s_is_name) := ⟨rfl, rfl, rfl, by decide +kernel, rfl, by decide +kernel, by decide +kernel⟩
theorem sc_is_kind : FnScope ["thing"] ["thing"] (defScope s_is_kind) := ⟨rfl, rfl, rfl, by decide +kernel, rfl, by decide +kernel, by decide +kernel⟩
theorem sc_is_place : FnScope ["thing"] ["thing"] (defScope s_is_place) := ⟨rfl, rfl, rfl, by decide +kernel, rfl, by decide +kernel, by decide +kernel⟩
theorem sc_is_finding_word : FnScope ["thing"] ["thing"] (defScope s_is_finding_word) := ⟨rfl, rfl, rfl, by decide +kernel, rfl, by decide +kernel, by decide +kernel⟩
theorem sc_fits : FnScope ["kind", "thing"] ["kind", "thing"] (defScope s_fits) := ⟨rfl, rfl, rfl, by decide +kernel, rfl, by decide +kernel, by decide +kernel⟩
theorem sc_begins_with_word : FnScope ["thing"] ["thing"] (defScope s_begins_with_word) := ⟨rfl, rfl, rfl, by decide +kernel, rfl, by decide +kernel, by decide +kernel⟩
theorem sc_matches : FnScope ["form", "thing", "kind", "part"] ["form", "thing"] (defScope s_matches) := ⟨rfl, rfl, rfl, by decide +kernel, rfl, by decide +kernel, by decide +kernel⟩
theorem sc_is_row : FnScope ["thing"] ["thing"] (defScope s_is_row) := ⟨rfl, rfl, rfl, by decide +kernel, rfl, by decide +kernel, by decide +kernel⟩
theorem sc_is_finding : FnScope ["thing"] ["thing"] (defScope s_is_finding) := ⟨rfl, rfl, rfl, by decide +kernel, rfl, by decide +kernel, by decide +kernel⟩
theorem sc__law_feed : FnScope ["_law_script"] ["_law_script"] (defScope s__law_feed) := ⟨rfl, rfl, rfl, by decide +kernel, rfl, by decide +kernel, by decide +kernel⟩
theorem sc__law_draw : FnScope ["_law_feed_here", "_law_many", "_law_digit", "_law_at", "_law_cell", "_law_mixed"] ["_law_feed_here", "_law_many"] (defScope s__law_draw) := ⟨rfl, rfl, rfl, by decide +kernel, rfl, by decide +kernel, by decide +kernel⟩
theorem sc__law_count : FnScope ["_law_item"] ["_law_item"] (defScope s__law_count) := ⟨rfl, rfl, rfl, by decide +kernel, rfl, by decide +kernel, by decide +kernel⟩
theorem sc__law_named : FnScope ["_law_item", "_law_sign"] ["_law_item"] (defScope s__law_named) := ⟨rfl, rfl, rfl, by decide +kernel, rfl, by decide +kernel, by decide +kernel⟩
theorem sc__law_placed : FnScope ["_law_item"] ["_law_item"] (defScope s__law_placed) := ⟨rfl, rfl, rfl, by decide +kernel, rfl, by decide +kernel, by decide +kernel⟩
theorem sc__law_formed : FnScope ["_law_item", "_law_plan", "_law_k", "_law_good"] ["_law_item"] (defScope s__law_formed) := ⟨rfl, rfl, rfl, by decide +kernel, rfl, by decide +kernel, by decide +kernel⟩
theorem sc__law_found : FnScope ["_law_item"] ["_law_item"] (defScope s__law_found) := ⟨rfl, rfl, rfl, by decide +kernel, rfl, by decide +kernel, by decide +kernel⟩
theorem sc__law_book : FnScope ["_law_feed_here", "_law_size", "_law_menus", "_law_spots", "_law_names", "_law_one", "_law_stock", "_law_found_here", "_law_sold", "_law_name", "_law_k", "_law_way", "_law_pool", "_law_source", "_law_n", "_law_goal", "_law_s"] ["_law_feed_here", "_law_size"] (defScope s__law_book) := ⟨rfl, rfl, rfl, by decide +kernel, rfl, by decide +kernel, by decide +kernel⟩
theorem sc__law_notes : FnScope ["_law_feed_here", "_law_sheet", "_law_pool", "_law_found_here", "_law_k"] ["_law_feed_here", "_law_sheet"] (defScope s__law_notes) := ⟨rfl, rfl, rfl, by decide +kernel, rfl, by decide +kernel, by decide +kernel⟩
theorem sc__law_case : FnScope ["_law_feed_here", "_law_size", "_law_sheet", "_law_some"] ["_law_feed_here", "_law_size"] (defScope s__law_case) := ⟨rfl, rfl, rfl, by decide +kernel, rfl, by decide +kernel, by decide +kernel⟩
theorem sc__law_odd : FnScope ["_law_feed_here", "_law_odd_here"] ["_law_feed_here"] (defScope s__law_odd) := ⟨rfl, rfl, rfl, by decide +kernel, rfl, by decide +kernel, by decide +kernel⟩
theorem sc__law_bent : FnScope ["_law_feed_here", "_law_item", "_law_at", "_law_way", "_law_some"] ["_law_feed_here", "_law_item"] (defScope s__law_bent) := ⟨rfl, rfl, rfl, by decide +kernel, rfl, by decide +kernel, by decide +kernel⟩
theorem sc__law_right : FnScope ["_law_item", "_law_told", "_law_due_in"] ["_law_item"] (defScope s__law_right) := ⟨rfl, rfl, rfl, by decide +kernel, rfl, by decide +kernel, by decide +kernel⟩
theorem sc__law_values : FnScope ["_law_far", "_law_found_here", "_law_rows_in", "_law_item", "_law_late"] [] (defScope s__law_values) := ⟨rfl, rfl, rfl, by decide +kernel, rfl, by decide +kernel, by decide +kernel⟩
theorem sc_law : FnScope ["_law_script", "_law_feed_here", "_law_items", "_law_page", "_law_item", "_law_once", "_law_kept", "_law_told"] ["_law_script"] (defScope s_law) := ⟨rfl, rfl, rfl, by decide +kernel, rfl, by decide +kernel, by decide +kernel⟩
def isNum : PyData → Bool
  | .int i => decide (0 ≤ i)
  | _ => false
def isNm : PyData → Bool
  | .str z => decide (1 ≤ z.length) && decide (z.length ≤ 8) && z.cps.toList.all fun c => decide (97 ≤ c) && decide (c ≤ 122)
  | _ => false
def isKd : PyData → Bool
  | .str z => z == "heap" || z == "pipe"
  | _ => false
def isPl : PyData → Bool
  | .tuple [x, y] => isNm x && isKd y
  | _ => false
/-- .. of its items, too -/
def ndT (x : PyData) : Prop := nd x ∧ ∀ xs, x = .tuple xs → xs.length ≤ 1000000 ∧ ∀ y ∈ xs, nd y
def isWh : PyData → Bool
  | .int _ => true
  | _ => false
def d_is_whole : DSp := dPure1 nd fun x => .bool (isWh x)
def d_is_number : DSp := dPure1 nd fun x => .bool (isNum x)
def d_is_name : DSp := dPure1 nd fun x => .bool (isNm x)
def d_is_kind : DSp := dPure1 nd fun x => .bool (isKd x)
def d_is_place : DSp := dPure1 ndT fun x => .bool (isPl x)
def d__law_count : DSp := dPure1 nd fun x => .bool (isNum x)
def d__law_named : DSp := dPure1 nd fun x => .bool (isNm x)
def tab_ROW_FORMS : Str → Option PyData := fun x => if x = "come" then some (.tuple [.str "name", .str "name", .str "units"]) else if x = "move" then some (.tuple [.str "name", .str "name", .str "units"]) else if x = "sell" then some (.tuple [.str "name", .str "units"]) else if x = "waste" then some (.tuple [.str "name", .str "units"]) else if x = "back" then some (.tuple [.str "number", .str "name"]) else none
def gt0 : PyData → Bool
  | .int i => decide (0 < i)
  | _ => false
def fit (k x : PyData) : Bool := match k with
  | .str z => if z = "name" then isNm x else if z = "units" then (isNum x && gt0 x) else isNum x
  | _ => false
def fitP : PyData → Bool
  | .tuple [k, v] => fit k v
  | _ => false
def isRow : PyData → Bool
  | .tuple (.str w :: r) => match tab_ROW_FORMS w with
    | some (.tuple ks) => decide (r.length = ks.length) && ((pairsD ks r).map fitP).all fun b => b
    | _ => false
  | _ => false
def isFind : PyData → Bool
  | .tuple [.str w, x] => (w == "bad" || w == "clean") && isNum x
  | _ => false
def d_row_form : DSp := dPure1 (fun x => ∃ z, x = .str z) fun x => match x with
  | .str z => (tab_ROW_FORMS z).getD .none
  | _ => .none
def d_fits : DSp := dPure2 (fun k x => (∃ z : Str, k = .str z ∧ z ≠ "word") ∧ nd x) fun k x => .bool (fit k x)
def isBeg : PyData → Bool
  | .tuple (.str _ :: _) => true
  | _ => false
def d_begins_with_word : DSp := dPure1 ndT fun x => .bool (isBeg x)
def d_matches : DSp := dPure2 (fun f x => ∃ w r, x = .tuple (.str w :: r) ∧ f = (tab_ROW_FORMS w).getD .none ∧ ndT x) fun _ x => .bool (isRow x)
def d_is_row : DSp := dPure1 ndT fun x => .bool (isRow x)
def d_is_finding : DSp := dPure1 ndT fun x => .bool (isFind x)
/-- .. that may be shown -/
def ndR (x : PyData) : Prop := ndT x ∧ ∀ xs, x = .tuple xs → ∀ y ∈ xs, rp y
theorem isKd_heap {y : PyData} (hc : y.canLay0 = true) : isKd y = ([PyData.str "'heap'", PyData.str "'pipe'"].any fun z => eqF z (PyData.str y.shown)) := by
  rw [Bool.eq_iff_iff]
  simp only [List.any_cons, List.any_nil, Bool.or_false, Bool.or_eq_true]
  rw [shown_heap hc, shown_pipe hc]
  cases y <;> simp [isKd]
def isFw : PyData → Bool
  | .str w => w == "bad" || w == "clean"
  | _ => false
def d_is_finding_word : DSp := dPure1 nd fun x => .bool (isFw x)
theorem isFind_pair (x y : PyData) : isFind (.tuple [x, y]) = (isFw x && isNum y) := by cases x <;> rfl
theorem isFw_bad {y : PyData} (hc : y.canLay0 = true) : isFw y = ([PyData.str "'bad'", PyData.str "'clean'"].any fun z => eqF z (PyData.str y.shown)) := by
  rw [Bool.eq_iff_iff]
  simp only [List.any_cons, List.any_nil, Bool.or_false, Bool.or_eq_true]
  rw [shown_bad hc, shown_clean hc]
  cases y <;> simp [isFw]
def d__law_placed : DSp := dPure1 ndR fun x => .bool (isPl x)
def d__law_formed : DSp := dPure1 ndT fun x => .bool (isRow x)
def d__law_found : DSp := dPure1 ndR fun x => .bool (isFind x)
theorem tab_some {w : Str} {d : PyData} (h : tab_ROW_FORMS w = some d) : ∃ ks, d = .tuple ks ∧ ks.length ≤ 3 ∧ ∀ k ∈ ks, ∃ z : Str, k = .str z ∧ z ≠ "word" := by
  have kinds_ok : ∀ {ks : List PyData}, (ks.all fun k => match k with | .str z => decide (z ≠ "word") | _ => false) = true → ∀ k ∈ ks, ∃ z : Str, k = .str z ∧ z ≠ "word" := fun h k hk => by
    have := List.all_eq_true.mp h k hk
    split at this
    · exact ⟨_, rfl, of_decide_eq_true this⟩
    · cases this
  unfold tab_ROW_FORMS at h
  repeat' split at h
  all_goals first | (cases h; exact ⟨_, rfl, by decide, kinds_ok (by decide +kernel)⟩) | cases h
def planS (w : Str) : Option Str := if w = "come" then some "ssn" else if w = "move" then some "ssn" else if w = "sell" then some "sn" else if w = "waste" then some "sn" else if w = "back" then some "cs" else none
def cv (c : Nat) : PyData := if c = 115 then .str "name" else if c = 110 then .str "units" else .str "number"
def planKv : List (Key × PyData) := mergeD [] [(.inr "come", .str "ssn"), (.inr "move", .str "ssn"), (.inr "sell", .str "sn"), (.inr "waste", .str "sn"), (.inr "back", .str "cs")]
theorem planKv_eq : planKv = [(.inr "come", .str "ssn"), (.inr "move", .str "ssn"), (.inr "sell", .str "sn"), (.inr "waste", .str "sn"), (.inr "back", .str "cs")] := by kernel_rfl
theorem plan_val (w : Str) : valD planKv (.inr w) = (planS w).map .str := by
  rw [planKv_eq]
  unfold valD planS
  simp only [List.find?_cons, List.find?_nil, Sum.inr.injEq]
  by_cases h1 : w = "come"
  · subst h1; simp
  rw [decide_eq_false (Ne.symm h1), if_neg h1]
  by_cases h2 : w = "move"
  · subst h2; simp
  rw [decide_eq_false (Ne.symm h2), if_neg h2]
  by_cases h3 : w = "sell"
  · subst h3; simp
  rw [decide_eq_false (Ne.symm h3), if_neg h3]
  by_cases h4 : w = "waste"
  · subst h4; simp
  rw [decide_eq_false (Ne.symm h4), if_neg h4]
  by_cases h5 : w = "back"
  · subst h5; simp
  rw [decide_eq_false (Ne.symm h5), if_neg h5]
  rfl
theorem plan_tab (w : Str) : tab_ROW_FORMS w = (planS w).map fun pl => .tuple (pl.cps.toList.map cv) := by
  unfold tab_ROW_FORMS planS
  by_cases h1 : w = "come"
  · rw [if_pos h1, if_pos h1]; rfl
  rw [if_neg h1, if_neg h1]
  by_cases h2 : w = "move"
  · rw [if_pos h2, if_pos h2]; rfl
  rw [if_neg h2, if_neg h2]
  by_cases h3 : w = "sell"
  · rw [if_pos h3, if_pos h3]; rfl
  rw [if_neg h3, if_neg h3]
  by_cases h4 : w = "waste"
  · rw [if_pos h4, if_pos h4]; rfl
  rw [if_neg h4, if_neg h4]
  by_cases h5 : w = "back"
  · rw [if_pos h5, if_pos h5]; rfl
  rw [if_neg h5, if_neg h5]
  rfl
theorem plan_len {w pl : Str} (h : planS w = some pl) : pl.length ≤ 3 := by
  unfold planS at h
  repeat' split at h
  all_goals first | (cases h; decide) | cases h
theorem pairs_all : ∀ (ks r : List PyData), ks.length = r.length → (((pairsD ks r).map fitP).all (fun b => b) = true ↔ ∀ (i : Nat) (k x : PyData), ks[i]? = some k → r[i]? = some x → fit k x = true)
  | [], [], _ => by simp [pairsD]
  | k :: ks, x :: r, h => by
    have ih := pairs_all ks r (by simpa using h)
    simp only [pairsD, List.map_cons, List.all_cons, Bool.and_eq_true]
    rw [ih]
    constructor
    · rintro ⟨h1, h2⟩ i k' x' e1 e2
      cases i with
      | zero => simp at e1 e2; subst e1; subst e2; exact h1
      | succ i => exact h2 i k' x' (by simpa using e1) (by simpa using e2)
    · intro h
      exact ⟨h 0 k x rfl rfl, fun i k' x' e1 e2 => h (i + 1) k' x' (by simpa using e1) (by simpa using e2)⟩
theorem sg_eq (c d : Nat) : decide ((⟨#[c]⟩ : Str) = ⟨#[d]⟩) = decide (c = d) := by
  refine decide_eq_decide.mpr ⟨fun h => ?_, fun h => by rw [h]⟩
  injection h with h
  injection h with h
  injection h
def d__law_right : DSp := dPure1 ndR fun _ => .bool true
def cellsD (cs : List Int) : PyData := .list (cs.map .int)
/-- the feed: cells, at, left, count -/
def feedKv (cs : List Int) (i l c : Int) : List (Key × PyData) := [(.inr "cells", cellsD cs), (.inr "at", .int i), (.inr "left", .int l), (.inr "count", .int c)]
/-- a feed stands at a: drawn from at most n times -/
def Feed (S : Sto) (a : Addr) (n : Nat) : Prop := ∃ (cs : List Int) (i l c : Int), S a = some (.dct (feedKv cs i l c)) ∧ cs.length ≤ 63 ∧ 0 ≤ i ∧ i ≤ n ∧ 0 ≤ c ∧ c ≤ n
/-- all else stands -/
def KpB (a : Addr) (S S' : Sto) : Prop := ∀ b c, b ≠ a → S b = some c → S' b = some c
theorem dictIn_e {S : Sto} {a : Addr} {kvs : List (Key × PyData)} {k : Key} {P : Option PyData → Prop} (e : S a = some (.dct kvs)) : dictIn S (.loc a) k P = P (valD kvs k) := by
  show (match S a with | some (.dct xs) => P (valD xs k) | _ => False) = _
  rw [e]
theorem v_cells {cs i l c} : valD (feedKv cs i l c) (.inr "cells") = some (cellsD cs) := by kernel_rfl
theorem v_at {cs i l c} : valD (feedKv cs i l c) (.inr "at") = some (.int i) := by kernel_rfl
theorem v_left {cs i l c} : valD (feedKv cs i l c) (.inr "left") = some (.int l) := by kernel_rfl
theorem v_count {cs i l c} : valD (feedKv cs i l c) (.inr "count") = some (.int c) := by kernel_rfl
theorem p_at {cs i l c j} : putD (feedKv cs i l c) (.inr "at") (.int j) = feedKv cs j l c := by kernel_rfl
theorem p_left {cs i l c j} : putD (feedKv cs i l c) (.inr "left") (.int j) = feedKv cs i j c := by kernel_rfl
theorem p_count {cs i l c j} : putD (feedKv cs i l c) (.inr "count") (.int j) = feedKv cs i l j := by kernel_rfl
theorem feed_len {cs i l c} : (feedKv cs i l c).length < 1000000 := by show 4 < 1000000; decide
theorem feed_new {cs : List Int} : mergeD [] [(.inr "cells", cellsD cs), (.inr "at", .int 0), (.inr "left", .int 0), (.inr "count", .int 0)] = feedKv cs 0 0 0 := by kernel_rfl
theorem lay_ints (cs : List Int) : PyData.canLayAll0 (cs.map .int) = true := lay_of fun x hx => by
  obtain ⟨i, _, rfl⟩ := List.mem_map.mp hx
  rfl
theorem at_ints {cs : List Int} {i : Int} (h0 : 0 ≤ i) (h1 : i < (cs.length : Int)) : ∃ x : Int, atI (cs.map PyData.int) i = some (.int x) := by
  have := atN (xs := cs.map PyData.int) h0 (by rw [List.length_map]; exact h1)
  rw [List.getElem_map] at this
  exact ⟨_, this⟩
theorem kpB_put {S : Sto} {a : Addr} {c : Cell} : KpB a S (put S a c) := fun b d hb e => by rw [put_ne hb]; exact e
theorem KpB.trans {S T U : Sto} {a : Addr} (h : KpB a S T) (k : KpB a T U) : KpB a S U := fun b c hb e => k b c hb (h b c hb e)
theorem KpB.of {S T : Sto} {a : Addr} (k : Kp S T) : KpB a S T := fun b c _ e => k b c e
theorem Feed.mono {S : Sto} {a : Addr} {n n' : Nat} (h : Feed S a n) (hn : n ≤ n') : Feed S a n' := by
  obtain ⟨cs, i, l, c, e, h1, h2, h3, h4, h5⟩ := h
  exact ⟨cs, i, l, c, e, h1, h2, by omega, h4, by omega⟩
theorem Feed.some {S : Sto} {a : Addr} {n : Nat} (h : Feed S a n) : ∃ c, S a = Option.some c := by
  obtain ⟨cs, i, l, c, e, _⟩ := h
  exact ⟨_, e⟩
theorem Feed.kp {S S' : Sto} {a : Addr} {n : Nat} (h : Feed S a n) (k : Kp S S') : Feed S' a n := by
  obtain ⟨cs, i, l, c, e, h1⟩ := h
  exact ⟨cs, i, l, c, k _ _ e, h1⟩
theorem at_mem {α : Type} {xs : List α} {i : Int} {x : α} (h : atI xs i = some x) : x ∈ xs := by
  unfold atI at h
  cases e : ixN xs.length i with
  | none => rw [e] at h; cases h
  | some j => rw [e] at h; exact List.mem_of_getElem? h
/-- bounds of what is drawn: ints up to 10^60 and a little, size, depth -/
def BB : Nat := 10 ^ 60 + 10
def d__law_odd : DSp := fun rs S P => ∃ (a : Addr) (n : Nat), rs = [.loc a] ∧ Feed S a n ∧ n ≤ 90000 ∧ ∀ (y : PyData) (S' : Sto), Sm 5 1000 1 y → KpB a S S' → Feed S' a (n + 1) → P (.dat y) S'
def r__law_bent : Nat → DSp
  | 0 => fun _ _ _ => False
  | k + 1 => fun rs S P => ∃ (a : Addr) (x : PyData) (n B w : Nat), rs = [.loc a, .dat x] ∧ Feed S a n ∧ n + 3 * (k + 1) ≤ 90000 ∧ Sm B w k x ∧ B < 10 ^ 90 ∧ w ≤ 100000 ∧ k ≤ 20 ∧
    ∀ (y : PyData) (S' : Sto), Sm (B + 10) (3 * w + 1200) (k + 2) y → KpB a S S' → Feed S' a (n + 3 * (k + 1)) → P (.dat y) S'
def d__law_bent : DSp := fun rs S P => ∃ j, j < 6 ∧ r__law_bent (j + 1) rs S P
def d__law_values : DSp := fun rs S P => rs = [] ∧ ∀ (L : List PyData) (S' : Sto), Kp S S' → L.length ≤ 400 → (∀ y ∈ L, Sm BB 10000 3 y) → P (.dat (.list L)) S'
def pl (x k : Str) : PyData := .tuple [.str x, .str k]
def menus3 : List PyData := [.tuple [pl "line" "pipe", pl "tank" "heap"], .tuple [pl "a" "pipe", pl "few" "heap", pl "move" "pipe"], .tuple [pl "b" "heap"]]
def menus2 : List PyData := [.tuple [pl "p" "pipe", pl "q" "pipe"], .tuple [pl "a" "heap", pl "b" "pipe", pl "c" "heap", pl "d" "pipe"]]
def item0 : PyData → PyData
  | .tuple (x :: _) => x
  | x => x
/-- places, and their names -/
structure Menu (sp : List PyData) (nm : List Str) : Prop where
  tup : ∀ x ∈ sp, ∃ y r, x = .tuple (y :: r)
  names : sp.map item0 = nm.map .str
  ne : nm ≠ []
  len : sp.length ≤ 4
  nlen : nm.length ≤ 4
  sm : ∀ x ∈ sp, Sm 1000 500 1 x
  asc : ∀ x ∈ nm, x.length ≤ 8 ∧ ∀ c ∈ x.cps.toList, c < 128
theorem menu_at {v : Int} (h0 : 0 ≤ v) (h1 : v < 5) : ∃ sp nm, atI (menus3 ++ menus2) v = some (.tuple sp) ∧ Menu sp nm := by
  have hv : v = 0 ∨ v = 1 ∨ v = 2 ∨ v = 3 ∨ v = 4 := by omega
  have mk : ∀ (sp : List PyData) (nm : List Str), (sp.all fun x => match x with | .tuple (_ :: _) => true | _ => false) = true → sp.map item0 = nm.map .str → nm ≠ [] → sp.length ≤ 4 →
      (sp.all fun z => sm 1000 z && decide (sz z ≤ 500) && decide (z.depth ≤ 1)) = true → (nm.all fun x => decide (x.length ≤ 8) && x.cps.toList.all fun c => decide (c < 128)) = true → Menu sp nm := by
    intro sp nm a1 a2 a3 a4 a5 a6
    refine ⟨fun x hx => ?_, a2, a3, a4, by have := congrArg List.length a2; simp at this; omega, okL_sm a5, fun x hx => ?_⟩
    · have := List.all_eq_true.mp a1 x hx
      split at this
      · exact ⟨_, _, rfl⟩
      · cases this
    · have := List.all_eq_true.mp a6 x hx
      rw [Bool.and_eq_true] at this
      exact ⟨of_decide_eq_true this.1, fun c hc => of_decide_eq_true (List.all_eq_true.mp this.2 c hc)⟩
  rcases hv with rfl | rfl | rfl | rfl | rfl
  · exact ⟨_, ["line", "tank"], rfl, mk _ _ rfl rfl (by simp) (by decide) (by decide +kernel) (by decide +kernel)⟩
  · exact ⟨_, ["a", "few", "move"], rfl, mk _ _ rfl rfl (by simp) (by decide) (by decide +kernel) (by decide +kernel)⟩
  · exact ⟨_, ["b"], rfl, mk _ _ rfl rfl (by simp) (by decide) (by decide +kernel) (by decide +kernel)⟩
  · exact ⟨_, ["p", "q"], rfl, mk _ _ rfl rfl (by simp) (by decide) (by decide +kernel) (by decide +kernel)⟩
  · exact ⟨_, ["a", "b", "c", "d"], rfl, mk _ _ rfl rfl (by simp) (by decide) (by decide +kernel) (by decide +kernel)⟩
/-! a dict of ints by names -/
theorem valD_put {kvs : List (Key × PyData)} {k k' : Key} {v : PyData} : valD (putD kvs k v) k' = if k' = k then some v else valD kvs k' := by
  unfold putD
  by_cases hk : (kvs.any fun kv => decide (kv.1 = k)) = true
  · rw [if_pos hk]
    induction kvs with
    | nil => simp at hk
    | cons p kvs ih =>
      rw [List.map_cons]
      unfold valD
      rw [List.find?_cons, List.find?_cons]
      by_cases e : p.1 = k
      · rw [if_pos e]
        by_cases e2 : k' = k
        · subst e2
          simp [e]
        · have n1 : ¬ p.1 = k' := fun q => e2 (q.symm.trans e)
          simp only [n1, decide_false, e2, if_false]
          by_cases hk2 : (kvs.any fun kv => decide (kv.1 = k)) = true
          · have := ih hk2
            unfold valD at this
            rw [this, if_neg e2]
          · have he : kvs.map (fun kv => if kv.1 = k then (kv.1, v) else kv) = kvs := by
              have hn : ∀ q ∈ kvs, ¬ q.1 = k := fun q hq hqk => hk2 (List.any_eq_true.mpr ⟨q, hq, decide_eq_true hqk⟩)
              conv => rhs; rw [← List.map_id kvs]
              exact List.map_congr_left fun q hq => by rw [if_neg (hn q hq)]; rfl
            rw [he]
      · rw [if_neg e]
        rw [List.any_cons, decide_eq_false e, Bool.false_or] at hk
        have := ih hk
        unfold valD at this
        by_cases e2 : p.1 = k'
        · have : ¬ k' = k := fun q => e (e2.trans q)
          simp [e2, this]
        · simp only [e2, decide_false]
          exact this
  · rw [if_neg hk]
    have hn : ∀ q ∈ kvs, ¬ q.1 = k := fun q hq hqk => hk (List.any_eq_true.mpr ⟨q, hq, decide_eq_true hqk⟩)
    unfold valD
    rw [List.find?_append]
    by_cases e2 : k' = k
    · subst e2
      have : kvs.find? (fun kv => decide (kv.1 = k')) = none := List.find?_eq_none.mpr fun q hq => by simp [hn q hq]
      rw [this]
      simp
    · have n1 : ¬ k = k' := fun q => e2 q.symm
      simp [e2, n1]
theorem putD_len {kvs : List (Key × PyData)} {k : Key} {v : PyData} : (putD kvs k v).length ≤ kvs.length + 1 := by
  unfold putD
  split
  · rw [List.length_map]; omega
  · rw [List.length_append, List.length_singleton]; omega
/-- names with ints from 0 to B -/
structure Stk (kvs : List (Key × PyData)) (nm : List Str) (B : Int) (L : Nat) : Prop where
  len : kvs.length ≤ L
  val : ∀ x ∈ nm, ∃ v : Int, valD kvs (.inr x) = some (.int v) ∧ 0 ≤ v ∧ v ≤ B
theorem Stk.put {kvs : List (Key × PyData)} {nm : List Str} {B B' : Int} {L L' : Nat} (h : Stk kvs nm B L) {x : Str} {w : Int} (h0 : 0 ≤ w) (h1 : w ≤ B') (hB : B ≤ B') (hL : L < L') : Stk (putD kvs (.inr x) (.int w)) nm B' L' := by
  refine ⟨Nat.le_trans putD_len (by have := h.len; omega), fun y hy => ?_⟩
  rw [valD_put]
  split
  · exact ⟨w, rfl, h0, h1⟩
  · obtain ⟨v, e, g0, g1⟩ := h.val y hy
    exact ⟨v, e, g0, by omega⟩
theorem Stk.mono {kvs : List (Key × PyData)} {nm : List Str} {B B' : Int} {L L' : Nat} (h : Stk kvs nm B L) (hB : B ≤ B') (hL : L ≤ L') : Stk kvs nm B' L' :=
  ⟨Nat.le_trans h.len hL, fun y hy => by obtain ⟨v, e, g0, g1⟩ := h.val y hy; exact ⟨v, e, g0, by omega⟩⟩
theorem merge_zero : ∀ (nm : List Str) (acc : List (Key × PyData)) (L : Nat), acc.length ≤ L → (∀ x, (∃ v, valD acc (.inr x) = some v) → valD acc (.inr x) = some (.int 0)) → ∀ (all : List Str), (∀ x ∈ all, x ∈ nm ∨ valD acc (.inr x) = some (.int 0)) →
    Stk (mergeD acc (nm.map fun x => (.inr x, .int 0))) all 0 (L + nm.length)
  | [], acc, L, hl, hz, all, h => ⟨hl, fun x hx => by
      rcases h x hx with q | q
      · simp at q
      · exact ⟨0, q, by omega, by omega⟩⟩
  | y :: nm, acc, L, hl, hz, all, h => by
    have := merge_zero nm (putD acc (.inr y) (.int 0)) (L + 1) (Nat.le_trans putD_len (by omega)) (fun x hx => by
      rw [valD_put] at hx ⊢
      split
      · rfl
      · rename_i n1
        rw [if_neg n1] at hx
        exact hz x hx) all (fun x hx => by
      rw [valD_put]
      by_cases e : x = y
      · subst e; exact Or.inr (if_pos rfl)
      · rcases h x hx with q | q
        · rcases List.mem_cons.mp q with q | q
          · exact absurd q e
          · exact Or.inl q
        · refine Or.inr ?_
          rw [if_neg (fun q => e (by injection q))]
          exact q)
    exact this.mono (Int.le_refl _) (by rw [List.length_cons]; omega)
theorem asPairs_zero (nm : List Str) : asPairs (nm.map fun x => .tuple [.str x, .int 0]) = some (nm.map fun x => (.inr x, .int 0)) := by
  induction nm with
  | nil => rfl
  | cons x nm ih =>
    rw [List.map_cons]
    unfold asPairs
    rw [ih]
    rfl
theorem seq_parA {da : DA} {gs : DGs} {n : Nat} {rest : DS} {D : DEnds} {ρ : Vrs} {S : Sto} (Post : List Res → Sto → Prop) (hda : ∀ K : List Res → Sto → Prop, (∀ rs S1, Post rs S1 → K rs S1) → da ρ S K)
    (next : ∀ rs S1, Post rs S1 → rs.length = n ∧ n ≤ 10000 ∧ gs rs ρ S1 fun ρ' S' => rest D ρ' S') : dSeq (dParA da gs n) rest D ρ S :=
  hda _ fun rs S1 p => next rs S1 p
theorem seq_par2 {i j : Nat} {da : DA} {rest : DS} {D : DEnds} {ρ : Vrs} {S : Sto} (Post : List Res → Sto → Prop) (hda : ∀ K : List Res → Sto → Prop, (∀ rs S1, Post rs S1 → K rs S1) → da ρ S K)
    (next : ∀ rs S1, Post rs S1 → ∃ r q, rs = [r, q] ∧ rest D ((ρ.set i (some r)).set j (some q)) S1) : dSeq (dPar i j da) rest D ρ S :=
  hda _ fun rs S1 p => by
    obtain ⟨r, q, rfl, h⟩ := next rs S1 p
    exact h
def posK (kvs : List (Key × PyData)) : PyData → Bool
  | .str z => match valD kvs (.inr z) with
    | some (.int v) => decide (0 < v)
    | _ => false
  | _ => false
theorem flt_names {q : PyData → Bool} : ∀ nm : List Str, ∃ ys : List Str, (nm.map PyData.str).filter q = ys.map .str ∧ (∀ y ∈ ys, y ∈ nm) ∧ ys.length ≤ nm.length
  | [] => ⟨[], rfl, by simp, by simp⟩
  | x :: nm => by
    obtain ⟨ys, e, h, l⟩ := flt_names nm
    rw [List.map_cons]
    by_cases hq : q (.str x) = true
    · rw [List.filter_cons_of_pos hq, e]
      exact ⟨x :: ys, rfl, fun y hy => by
        rcases List.mem_cons.mp hy with rfl | hy
        · exact List.mem_cons_self ..
        · exact List.mem_cons_of_mem _ (h y hy), by simp; omega⟩
    · rw [List.filter_cons_of_neg hq, e]
      exact ⟨ys, rfl, fun y hy => List.mem_cons_of_mem _ (h y hy), by simp; omega⟩
theorem shaped_names {ys : List Str} (h : ∀ y ∈ ys, y.length ≤ 8 ∧ ∀ c ∈ y.cps.toList, c < 128) : SeqAt.shaped (.list (ys.map .str)) = true := by
  refine shaped_lst_of (fun x hx => ?_) fun x hx => ?_
  · obtain ⟨y, hy, rfl⟩ := List.mem_map.mp hx
    exact sm_lay (B := 0) _ (sm_str.mpr (h y hy).2)
  · obtain ⟨y, hy, rfl⟩ := List.mem_map.mp hx
    exact Nat.zero_le _
theorem find_name {nm : List Str} {x : Str} (h : x ∈ nm) : ∃ j, (nm.map PyData.str).findIdx? (fun z => eqF z (.str x)) = some j := by
  cases e : (nm.map PyData.str).findIdx? (fun z => eqF z (.str x)) with
  | some j => exact ⟨j, rfl⟩
  | none =>
    rw [List.findIdx?_eq_none_iff] at e
    have := e (.str x) (List.mem_map.mpr ⟨x, h, rfl⟩)
    simp [eqF] at this
theorem all_flat (nm : List Str) : (nm.map PyData.str).all flatD = true := by
  rw [List.all_map]
  exact List.all_eq_true.mpr fun x _ => rfl
theorem ifS_post {t : DT} {u w : DS} {D : DEnds} {ρ : Vrs} {S : Sto} (Post : Bool → Sto → Prop) (ht : ∀ K : Bool → Sto → Prop, (∀ b S1, Post b S1 → K b S1) → t ρ S K) (hu : ∀ S1, Post true S1 → u D ρ S1) (hw : ∀ S1, Post false S1 → w D ρ S1) : dIfS t u w D ρ S :=
  ht _ fun b S1 p => by
    cases b with
    | true => exact hu S1 p
    | false => exact hw S1 p
/-- xs.append(e) -/
theorem seq_app {i : Nat} {de : DE} {rest : DS} {D : DEnds} {ρ : Vrs} {S : Sto} {l : Addr} {acc : List PyData} (Post : PyData → Prop) (hρ : ρ[i]? = some (some (.loc l))) (hS : S l = some (.lst acc)) (hde : ∀ K : PK, (∀ d, Post d → K (.dat d) S) → de ρ S K) (hz : acc.length < 1000000)
    (next : ∀ d, Post d → rest D ρ (put S l (.lst (acc ++ [d])))) : dSeq (dDrop (dM "list" mAppend (dVar i) (dCons de dNil))) rest D ρ S := by
  unfold dSeq dDrop dM dVar
  rw [hρ]
  dsimp only
  refine ⟨?_, ?_⟩
  · show (match S l with | some (.lst _) => "list" = "list" | some (.dct _) => "list" = "dict" | none => False)
    rw [hS]
  · refine hde _ fun d hd => ?_
    show (match S l with
      | some (.lst xs) => xs.length < 1000000 ∧ _
      | _ => False)
    rw [hS]
    exact ⟨hz, next d hd⟩
theorem at_last {α : Type} (xs : List α) (x : α) : atI (xs ++ [x]) (-1) = some x := by
  unfold atI ixN
  have h : (1 : Int) ≤ (xs.length : Int) + 1 := by omega
  have e : (-1 + ((xs.length : Int) + 1)).toNat = xs.length := by omega
  simp [h, e]
def d__law_book : DSp := fun rs S P => ∃ (a : Addr) (n : Nat), rs = [.loc a, .dat (.int 4)] ∧ Feed S a n ∧ n ≤ 2000 ∧ ∀ (sp rows : List PyData) (S' : Sto), (∀ y ∈ sp ++ rows, Sm 1000 500 1 y) → sp.length ≤ 4 → rows.length ≤ 4 → KpB a S S' → Feed S' a (n + 100) → P (.dat (.tuple [.tuple sp, .tuple rows])) S'
def d__law_notes : DSp := fun rs S P => ∃ (a : Addr) (sp rows : List PyData) (n : Nat), rs = [.loc a, .dat (.tuple [.tuple sp, .tuple rows])] ∧ rows.length ≤ 4 ∧ Feed S a n ∧ n ≤ 2000 ∧ ∀ (nts : List PyData) (S' : Sto), (∀ y ∈ nts, Sm 1000 500 1 y) → nts.length ≤ 4 → KpB a S S' → Feed S' a (n + 20) → P (.dat (.tuple nts)) S'
def d__law_case : DSp := fun rs S P => ∃ (a : Addr) (n : Nat), rs = [.loc a, .dat (.int 4)] ∧ Feed S a n ∧ n ≤ 1000 ∧ ∀ (sp rows nts : List PyData) (x3 x4 : PyData) (S' : Sto), (∀ y ∈ sp ++ rows ++ nts, Sm 1000 1000 2 y) → (sp ++ rows ++ nts).length ≤ 12 → KpB a S S' → Feed S' a (n + 500) → P (.dat (.tuple [.tuple [.tuple sp, .tuple rows], .tuple nts, x3, x4])) S'
theorem shaped_ints (cs : List Int) : SeqAt.shaped (cellsD cs) = true := shaped_lst_of (lay_mem (lay_ints cs)) fun x hx => by
  obtain ⟨i, _, rfl⟩ := List.mem_map.mp hx
  exact Nat.zero_le _
def d__law_draw : DSp := fun rs S P => ∃ (a : Addr) (m : Int) (n : Nat), rs = [.loc a, .dat (.int m)] ∧ Feed S a n ∧ n ≤ 100000 ∧ 1 ≤ m ∧ m ≤ 1000000 ∧ ∀ (v : Int) (S' : Sto), 0 ≤ v → v < m → KpB a S S' → Feed S' a (n + 1) → P (.dat (.int v)) S'
def d__law_feed : DSp := fun rs S P => ∃ ns : List Int, rs = [.dat (scrD ns)] ∧ ns.length ≤ 63 ∧ ∀ (a : Addr) (S' : Sto), S a = none → Kp S S' → Feed S' a 0 → P (.loc a) S'
theorem kits (T : String) : isT T (.none) = ((kitB "NoneType" T).getD false) := rfl
def sgn : PyData → Bool
  | .str z => !ltS z "a" && !ltS "z" z
  | _ => false
theorem sgn_at (c : Nat) : sgn (.str ⟨#[c]⟩) = (decide (97 ≤ c) && decide (c ≤ 122)) := by
  have h1 : ltS ⟨#[c]⟩ "a" = decide (c < 97) := lt1 c 97
  have h2 : ltS "z" ⟨#[c]⟩ = decide (122 < c) := lt1 122 c
  show (!ltS ⟨#[c]⟩ "a" && !ltS "z" ⟨#[c]⟩) = _
  rw [h1, h2]
  congr 1 <;> (rw [← decide_not]; exact decide_eq_decide.mpr (by omega))
theorem signs_all (z : Str) (q : PyData → Bool) : ((signs z).map q).all (fun b => b) = z.cps.toList.all fun c => q (.str ⟨#[c]⟩) := by
  unfold signs
  rw [List.all_map, List.all_map]
  rfl
theorem isNm_str (z : Str) : isNm (.str z) = (decide ((1 : Int) ≤ (z.length : Int)) && decide ((z.length : Int) ≤ 8) && ((signs z).map sgn).all fun b => b) := by
  rw [signs_all]
  simp only [sgn_at]
  unfold isNm
  rw [show decide ((1 : Int) ≤ (z.length : Int)) = decide (1 ≤ z.length) from decide_eq_decide.mpr (by omega), show decide ((z.length : Int) ≤ 8) = decide (z.length ≤ 8) from decide_eq_decide.mpr (by omega)]

def d_law : DSp := fun rs S P => ∃ ns : List Int, rs = [.dat (scrD ns)] ∧ ns.length ≤ 63 ∧ ∀ S', P (.dat (.bool true)) S'

structure Ad where
  f_row_form : Addr
  fd_row_form : FuncData
  f_is_whole : Addr
  fd_is_whole : FuncData
  f_is_number : Addr
  fd_is_number : FuncData
  f_is_name : Addr
  fd_is_name : FuncData
  f_is_kind : Addr
  fd_is_kind : FuncData
  f_is_place : Addr
  fd_is_place : FuncData
  f_is_finding_word : Addr
  fd_is_finding_word : FuncData
  f_fits : Addr
  fd_fits : FuncData
  f_begins_with_word : Addr
  fd_begins_with_word : FuncData
  f_matches : Addr
  fd_matches : FuncData
  f_is_row : Addr
  fd_is_row : FuncData
  f_is_finding : Addr
  fd_is_finding : FuncData
  f__law_feed : Addr
  fd__law_feed : FuncData
  f__law_draw : Addr
  fd__law_draw : FuncData
  f__law_count : Addr
  fd__law_count : FuncData
  f__law_named : Addr
  fd__law_named : FuncData
  f__law_placed : Addr
  fd__law_placed : FuncData
  f__law_formed : Addr
  fd__law_formed : FuncData
  f__law_found : Addr
  fd__law_found : FuncData
  f__law_book : Addr
  fd__law_book : FuncData
  f__law_notes : Addr
  fd__law_notes : FuncData
  f__law_case : Addr
  fd__law_case : FuncData
  f__law_odd : Addr
  fd__law_odd : FuncData
  f__law_bent : Addr
  fd__law_bent : FuncData
  f__law_right : Addr
  fd__law_right : FuncData
  f__law_values : Addr
  fd__law_values : FuncData
  f_law : Addr
  fd_law : FuncData
  a_ROW_FORMS : Addr
structure Tx (K : PySem.W.Frag) (mg : Str → Option Value) (w : World) (a : Ad) : Prop where
  h_row_form : Has K mg "row_form" s_row_form ["word"] a.f_row_form a.fd_row_form
  h_is_whole : Has K mg "is_whole" s_is_whole ["thing"] a.f_is_whole a.fd_is_whole
  h_is_number : Has K mg "is_number" s_is_number ["thing"] a.f_is_number a.fd_is_number
  h_is_name : Has K mg "is_name" s_is_name ["thing"] a.f_is_name a.fd_is_name
  h_is_kind : Has K mg "is_kind" s_is_kind ["thing"] a.f_is_kind a.fd_is_kind
  h_is_place : Has K mg "is_place" s_is_place ["thing"] a.f_is_place a.fd_is_place
  h_is_finding_word : Has K mg "is_finding_word" s_is_finding_word ["thing"] a.f_is_finding_word a.fd_is_finding_word
  h_fits : Has K mg "fits" s_fits ["kind", "thing"] a.f_fits a.fd_fits
  h_begins_with_word : Has K mg "begins_with_word" s_begins_with_word ["thing"] a.f_begins_with_word a.fd_begins_with_word
  h_matches : Has K mg "matches" s_matches ["form", "thing"] a.f_matches a.fd_matches
  h_is_row : Has K mg "is_row" s_is_row ["thing"] a.f_is_row a.fd_is_row
  h_is_finding : Has K mg "is_finding" s_is_finding ["thing"] a.f_is_finding a.fd_is_finding
  h__law_feed : Has K mg "_law_feed" s__law_feed ["_law_script"] a.f__law_feed a.fd__law_feed
  h__law_draw : Has K mg "_law_draw" s__law_draw ["_law_feed_here", "_law_many"] a.f__law_draw a.fd__law_draw
  h__law_count : Has K mg "_law_count" s__law_count ["_law_item"] a.f__law_count a.fd__law_count
  h__law_named : Has K mg "_law_named" s__law_named ["_law_item"] a.f__law_named a.fd__law_named
  h__law_placed : Has K mg "_law_placed" s__law_placed ["_law_item"] a.f__law_placed a.fd__law_placed
  h__law_formed : Has K mg "_law_formed" s__law_formed ["_law_item"] a.f__law_formed a.fd__law_formed
  h__law_found : Has K mg "_law_found" s__law_found ["_law_item"] a.f__law_found a.fd__law_found
  h__law_book : Has K mg "_law_book" s__law_book ["_law_feed_here", "_law_size"] a.f__law_book a.fd__law_book
  h__law_notes : Has K mg "_law_notes" s__law_notes ["_law_feed_here", "_law_sheet"] a.f__law_notes a.fd__law_notes
  h__law_case : Has K mg "_law_case" s__law_case ["_law_feed_here", "_law_size"] a.f__law_case a.fd__law_case
  h__law_odd : Has K mg "_law_odd" s__law_odd ["_law_feed_here"] a.f__law_odd a.fd__law_odd
  h__law_bent : Has K mg "_law_bent" s__law_bent ["_law_feed_here", "_law_item"] a.f__law_bent a.fd__law_bent
  h__law_right : Has K mg "_law_right" s__law_right ["_law_item"] a.f__law_right a.fd__law_right
  h__law_values : Has K mg "_law_values" s__law_values [] a.f__law_values a.fd__law_values
  h_law : Has K mg "law" s_law ["_law_script"] a.f_law a.fd_law
  z_all : mg "all" = none
  z_bool : mg "bool" = none
  z_dict : mg "dict" = none
  z_int : mg "int" = none
  z_isinstance : mg "isinstance" = none
  z_len : mg "len" = none
  z_list : mg "list" = none
  z_max : mg "max" = none
  z_min : mg "min" = none
  z_ord : mg "ord" = none
  z_range : mg "range" = none
  z_repr : mg "repr" = none
  z_sorted : mg "sorted" = none
  z_str : mg "str" = none
  z_tuple : mg "tuple" = none
  z_zip : mg "zip" = none
  k_is_number_thing : KwOk a.fd_is_number ["thing"] ["thing"] [0]
  k_is_name_thing : KwOk a.fd_is_name ["thing"] ["thing"] [0]
  k_is_place_thing : KwOk a.fd_is_place ["thing"] ["thing"] [0]
  k_is_row_thing : KwOk a.fd_is_row ["thing"] ["thing"] [0]
  k_is_finding_thing : KwOk a.fd_is_finding ["thing"] ["thing"] [0]
  m_ROW_FORMS : mg "ROW_FORMS" = some (.ref a.a_ROW_FORMS)
  t_ROW_FORMS : KTab K w a.a_ROW_FORMS tab_ROW_FORMS
section
variable {P : Program} {w : World} {K : PySem.W.Frag} {mg : Str → Option Value} {base : Heap} {a : Ad}
theorem ok_row_form (T : Tx K mg w a)  : FnG P w K mg base 1 a.f_row_form a.fd_row_form ["word"] (lift K 1 d_row_form) := by
  refine def_ok T.h_row_form.fn sc_row_form (fun cdv A outer s H hr hG => ⟨_, (sb_one (ss_ret (se_kget2 T.t_ROW_FORMS T.m_ROW_FORMS (se_var 0) se_non)))⟩) (fun rs S P hl h => ?_)
  obtain ⟨x, rfl, ⟨z, rfl⟩, h⟩ := h
  infer_instance
  have h := h S (Kp.refl S)
  simp only at h
  cases e : tab_ROW_FORMS z with
  | none => rw [e] at h; exact h
  | some d => rw [e] at h; exact h

theorem ok_is_whole (T : Tx K mg w a)  : FnG P w K mg base 1 a.f_is_whole a.fd_is_whole ["thing"] (lift K 1 d_is_whole) := by
  refine def_ok T.h_is_whole.fn sc_is_whole (fun cdv A outer s H hr hG => ⟨_, (sb_one (ss_ret (se_and (se_isi (T := "int") (se_var 0) T.z_isinstance T.z_int) (se_one (se_not (se_isi (T := "bool") (se_var 0) T.z_isinstance T.z_bool))))))⟩) (fun rs S P hl h => ?_)
  obtain ⟨x, rfl, okn, h⟩ := h
  have ok := okn.no
  infer_instance
  refine ⟨ok, ?_⟩
  try rw [isT_int, isT_bool]
  cases x <;> infer_instance
  all_goals first | exact h S (Kp.refl S) | exact ⟨ok, h S (Kp.refl S)⟩

theorem ok_is_number (T : Tx K mg w a) (G_is_whole : FnG P w K mg base 1 a.f_is_whole a.fd_is_whole ["thing"] (lift K 1 d_is_whole)) : FnG P w K mg base 2 a.f_is_number a.fd_is_number ["thing"] (lift K 1 d_is_number) := by
  refine def_ok T.h_is_number.fn sc_is_number (fun cdv A outer s H hr hG => ⟨_, (sb_one (ss_ret (se_and (se_cl G_is_whole T.h_is_whole (hr.mono (by omega)) hG (sa_cons (se_var 0) sa_nil) (by intro ρ S P h; simp only [dCons, dNil, List.length_cons, List.length_nil, Nat.zero_add, Nat.reduceAdd, true_and] at h ⊢; exact h)) (se_one (se_cmp so_ge (se_var 0) se_int)))))⟩) (fun rs S P hl h => ?_)
  obtain ⟨x, rfl, okn, h⟩ := h
  infer_instance
  refine ⟨x, rfl, okn, fun S1 k1 => ?_⟩
  have h1 := h S1 k1
  infer_instance
  cases x <;> exact h1

theorem ok_is_name (T : Tx K mg w a)  : FnG P w K mg base 1 a.f_is_name a.fd_is_name ["thing"] (lift K 1 d_is_name) := by
  refine def_ok T.h_is_name.fn sc_is_name (fun cdv A outer s H hr hG => ⟨_, (sb_cons (ss_if (sw_or (st_not (st_val (se_isi (T := "str") (se_var 0) T.z_isinstance T.z_str))) (sw_or1 (st_not (st_chain so_le so_le se_int (se_cb sc_len T.z_len (by decide +kernel) (sa_cons (se_var 0) sa_nil)) se_int)))).st (sb_one (ss_ret se_bl)) sb_nil)
    (sb_one (ss_ret (se_cb (sc_all rfl) T.z_all (by decide +kernel) (sa_cons (se_lc (own := [("letter", 1)]) rfl sc_is_name.nd (si_str (se_var 0)) (show BlkOk ["thing", "letter"] (defScope s_is_name) _ [("letter", 1)] from ⟨rfl, by decide +kernel, by decide +kernel, by decide +kernel, by decide +kernel⟩) (fun _ _ _ _ _ => (sgc_name (i := 1) sc_is_name.nd)) (fun _ _ _ _ _ => sts_nil) (fun _ _ _ _ _ => (se_chain so_le so_le se_str (se_var 1) se_str))) sa_nil)))))⟩) (fun rs S P hl h => ?_)
  obtain ⟨x, rfl, okn, h⟩ := h
  have ok := okn.no
  have ok2 := okn.2
  infer_instance
  refine ⟨ok, ?_⟩
  try rw [isT_str]
  cases x <;> infer_instance
  all_goals first | exact h S (Kp.refl S) | skip
  rename_i z
  have hz := ok2 z rfl
  refine ⟨hz, ?_⟩
  have h0 := h S (Kp.refl S)
  simp only [isNm_str] at h h0
  by_cases h1 : (1 : Int) ≤ (z.length : Int)
  · by_cases h2 : (z.length : Int) ≤ 8
    · rw [if_pos (decide_eq_true h1), if_neg (by rw [decide_eq_true h2]; decide)]
      refine lc_fn (f := fun x => .bool (sgn x)) (by rw [signs_length]; omega) (fun x hx S1 R k => ?_) fun S2 k => ?_
      · obtain ⟨c, _, rfl⟩ := List.mem_map.mp hx
        have k := k S1 (Kp.refl S1)
        simp only [sgn] at k
        infer_instance
        split
        · rename_i e; rw [e] at k; exact k
        · rename_i e; rw [Bool.not_eq_true] at e; rw [e] at k; exact k
      · rw [boolsOf_map]
        rw [decide_eq_true h1, decide_eq_true h2] at h
        exact h S2 k
    · rw [if_pos (decide_eq_true h1), if_pos (by rw [decide_eq_false h2]; rfl)]
      rw [decide_eq_false h2, Bool.and_false, Bool.false_and] at h0
      exact h0
  · rw [if_neg (by rw [decide_eq_false h1]; decide)]
    rw [decide_eq_false h1, Bool.false_and, Bool.false_and] at h0
    exact h0

theorem ok_is_kind (T : Tx K mg w a)  : FnG P w K mg base 1 a.f_is_kind a.fd_is_kind ["thing"] (lift K 1 d_is_kind) := by
  refine def_ok T.h_is_kind.fn sc_is_kind (fun cdv A outer s H hr hG => ⟨_, (sb_one (ss_ret (se_and (se_isi (T := "str") (se_var 0) T.z_isinstance T.z_str) (se_one (se_cmp so_in (se_var 0) (se_tup (sa_cons se_str (sa_cons se_str sa_nil))))))))⟩) (fun rs S P hl h => ?_)
  obtain ⟨x, rfl, okn, h⟩ := h
  have ok := okn.no
  infer_instance
  refine ⟨ok, ?_⟩
  try rw [isT_str]
  cases x <;> infer_instance
  all_goals first | exact h S (Kp.refl S) | skip
  rename_i z
  have h := h S (Kp.refl S)
  refine ⟨by omega, trivial, rfl, ?_⟩
  have e : ([PyData.str "heap", PyData.str "pipe"].any fun y => eqF y (PyData.str z)) = isKd (.str z) := by
    unfold isKd
    simp only [List.any_cons, List.any_nil, eqF, Bool.or_false]
    rw [Bool.beq_comm, Bool.beq_comm (a := z) (b := "pipe")]
  rw [e]
  exact h

theorem ok_is_place (T : Tx K mg w a) (G_is_kind : FnG P w K mg base 1 a.f_is_kind a.fd_is_kind ["thing"] (lift K 1 d_is_kind)) (G_is_name : FnG P w K mg base 1 a.f_is_name a.fd_is_name ["thing"] (lift K 1 d_is_name)) : FnG P w K mg base 2 a.f_is_place a.fd_is_place ["thing"] (lift K 1 d_is_place) := by
  refine def_ok T.h_is_place.fn sc_is_place (fun cdv A outer s H hr hG => ⟨_, (sb_cons (ss_if (sw_or (st_not (st_val (se_isi (T := "tuple") (se_var 0) T.z_isinstance T.z_tuple))) (sw_or1 (st_cmp (so_ne (u64_of hr)) (se_cb sc_len T.z_len (by decide +kernel) (sa_cons (se_var 0) sa_nil)) se_int))).st (sb_one (ss_ret se_bl)) sb_nil)
    (sb_one (ss_ret (se_and (se_cl G_is_name T.h_is_name (hr.mono (by omega)) hG (sa_cons (se_ix sx_seq (se_var 0) se_int) sa_nil) (by intro ρ S P h; simp only [dCons, dNil, List.length_cons, List.length_nil, Nat.zero_add, Nat.reduceAdd, true_and] at h ⊢; exact h)) (se_one (se_cl G_is_kind T.h_is_kind (hr.mono (by omega)) hG (sa_cons (se_ix sx_seq (se_var 0) se_int) sa_nil) (by intro ρ S P h; simp only [dCons, dNil, List.length_cons, List.length_nil, Nat.zero_add, Nat.reduceAdd, true_and] at h ⊢; exact h)))))))⟩) (fun rs S P hl h => ?_)
  obtain ⟨x, rfl, ⟨okn, ok3⟩, h⟩ := h
  have ok := okn.no
  infer_instance
  refine ⟨ok, ?_⟩
  try rw [isT_tuple]
  cases x <;> infer_instance
  all_goals first | exact h S (Kp.refl S) | skip
  rename_i xs
  obtain ⟨hx, hy⟩ := ok3 xs rfl
  match xs, h, hy with
  | [], h, hy => exact h S (Kp.refl S)
  | [x], h, hy => exact h S (Kp.refl S)
  | x :: y :: z :: r, h, hy =>
    have e : (!decide (((r.length + 1 + 1 + 1 : Nat) : Int) = 2)) = true := by simp; omega
    infer_instance
    rw [if_pos e]
    exact h S (Kp.refl S)
  | [x, y], h, hy =>
    show d_is_name [Res.dat x] S _
    refine ⟨x, rfl, hy x (by simp), fun S1 k1 => ?_⟩
    infer_instance
    by_cases e : isNm x = true
    · rw [if_pos e]
      show d_is_kind [Res.dat y] S1 P
      refine ⟨y, rfl, hy y (by simp), fun S2 k2 => ?_⟩
      have h := h S2 (k1.trans k2)
      simpa [isPl, e] using h
    · rw [if_neg e]
      have h := h S1 k1
      simpa [isPl, e] using h

theorem ok_is_finding_word (T : Tx K mg w a)  : FnG P w K mg base 1 a.f_is_finding_word a.fd_is_finding_word ["thing"] (lift K 1 d_is_finding_word) := by
  refine def_ok T.h_is_finding_word.fn sc_is_finding_word (fun cdv A outer s H hr hG => ⟨_, (sb_one (ss_ret (se_and (se_isi (T := "str") (se_var 0) T.z_isinstance T.z_str) (se_one (se_cmp so_in (se_var 0) (se_tup (sa_cons se_str (sa_cons se_str sa_nil))))))))⟩) (fun rs S P hl h => ?_)
  obtain ⟨x, rfl, okn, h⟩ := h
  have ok := okn.no
  infer_instance
  refine ⟨ok, ?_⟩
  try rw [isT_str]
  cases x <;> infer_instance
  all_goals first | exact h S (Kp.refl S) | skip
  rename_i z
  have h := h S (Kp.refl S)
  refine ⟨by omega, trivial, rfl, ?_⟩
  have e : ([PyData.str "bad", PyData.str "clean"].any fun y => eqF y (PyData.str z)) = isFw (.str z) := by
    unfold isFw
    simp only [List.any_cons, List.any_nil, eqF, Bool.or_false]
    rw [Bool.beq_comm, Bool.beq_comm (a := z) (b := "clean")]
  rw [e]
  exact h

theorem ok_fits (T : Tx K mg w a) (G_is_finding_word : FnG P w K mg base 1 a.f_is_finding_word a.fd_is_finding_word ["thing"] (lift K 1 d_is_finding_word)) (G_is_name : FnG P w K mg base 1 a.f_is_name a.fd_is_name ["thing"] (lift K 1 d_is_name)) (G_is_number : FnG P w K mg base 2 a.f_is_number a.fd_is_number ["thing"] (lift K 1 d_is_number)) : FnG P w K mg base 3 a.f_fits a.fd_fits ["kind", "thing"] (lift K 2 d_fits) := by
  refine def_ok T.h_fits.fn sc_fits (fun cdv A outer s H hr hG => ⟨_, (sb_cons (ss_if (st_cmp (so_eq (u64_of hr)) (se_var 0) se_str) (sb_one (ss_ret (se_cl G_is_name T.h_is_name (hr.mono (by omega)) hG (sa_cons (se_var 1) sa_nil) (by intro ρ S P h; simp only [dCons, dNil, List.length_cons, List.length_nil, Nat.zero_add, Nat.reduceAdd, true_and] at h ⊢; exact h)))) sb_nil)
    (sb_cons (ss_if (st_cmp (so_eq (u64_of hr)) (se_var 0) se_str) (sb_one (ss_ret (se_cl G_is_finding_word T.h_is_finding_word (hr.mono (by omega)) hG (sa_cons (se_var 1) sa_nil) (by intro ρ S P h; simp only [dCons, dNil, List.length_cons, List.length_nil, Nat.zero_add, Nat.reduceAdd, true_and] at h ⊢; exact h)))) sb_nil)
    (sb_cons (ss_if (st_cmp (so_eq (u64_of hr)) (se_var 0) se_str) (sb_one (ss_ret (se_and (se_cl G_is_number T.h_is_number (hr.mono (by omega)) hG (sa_cons (se_var 1) sa_nil) (by intro ρ S P h; simp only [dCons, dNil, List.length_cons, List.length_nil, Nat.zero_add, Nat.reduceAdd, true_and] at h ⊢; exact h)) (se_one (se_cmp so_gt (se_var 1) se_int))))) sb_nil)
    (sb_one (ss_ret (se_cl G_is_number T.h_is_number (hr.mono (by omega)) hG (sa_cons (se_var 1) sa_nil) (by intro ρ S P h; simp only [dCons, dNil, List.length_cons, List.length_nil, Nat.zero_add, Nat.reduceAdd, true_and] at h ⊢; exact h)))))))⟩) (fun rs S P hl h => ?_)
  obtain ⟨k, x, rfl, ⟨⟨z, rfl, hw⟩, ok⟩, h⟩ := h
  infer_instance
  by_cases e1 : z = "name"
  · rw [if_pos (decide_eq_true e1)]
    refine ⟨x, rfl, ok, fun S1 k1 => ?_⟩
    have h := h S1 k1
    simp only [fit] at h
    rw [if_pos e1] at h
    exact h
  · rw [if_neg (by rw [decide_eq_false e1]; decide)]
    try infer_instance
    rw [if_neg (by rw [decide_eq_false hw]; decide)]
    try infer_instance
    by_cases e2 : z = "units"
    · rw [if_pos (decide_eq_true e2)]
      refine ⟨x, rfl, ok, fun S1 k1 => ?_⟩
      have h := h S1 k1
      simp only [fit] at h
      rw [if_neg e1, if_pos e2] at h
      infer_instance
      by_cases e3 : isNum x = true
      · rw [if_pos e3]
        rw [e3, Bool.true_and] at h
        cases x <;> first | (cases e3; done) | skip
        infer_instance
        exact h
      · rw [if_neg e3]
        rw [Bool.not_eq_true] at e3
        rw [e3, Bool.false_and] at h
        exact h
    · rw [if_neg (by rw [decide_eq_false e2]; decide)]
      refine ⟨x, rfl, ok, fun S1 k1 => ?_⟩
      have h := h S1 k1
      simp only [fit] at h
      rw [if_neg e1, if_neg e2] at h
      exact h

theorem ok_begins_with_word (T : Tx K mg w a)  : FnG P w K mg base 1 a.f_begins_with_word a.fd_begins_with_word ["thing"] (lift K 1 d_begins_with_word) := by
  refine def_ok T.h_begins_with_word.fn sc_begins_with_word (fun cdv A outer s H hr hG => ⟨_, (sb_one (ss_ret (se_and (se_isi (T := "tuple") (se_var 0) T.z_isinstance T.z_tuple) (se_and (se_cmp so_gt (se_cb sc_len T.z_len (by decide +kernel) (sa_cons (se_var 0) sa_nil)) se_int) (se_one (se_isi (T := "str") (se_ix sx_seq (se_var 0) se_int) T.z_isinstance T.z_str))))))⟩) (fun rs S P hl h => ?_)
  obtain ⟨x, rfl, ⟨okn, ok3⟩, h⟩ := h
  have ok := okn.no
  infer_instance
  refine ⟨ok, ?_⟩
  try rw [isT_tuple]
  cases x <;> infer_instance
  all_goals first | exact h S (Kp.refl S) | skip
  rename_i xs
  obtain ⟨hx, hy⟩ := ok3 xs rfl
  match xs, h, hy with
  | [], h, hy => exact h S (Kp.refl S)
  | x :: r, h, hy =>
    infer_instance
    have e0 : decide ((0 : Int) < ((r.length + 1 : Nat) : Int)) = true := by first | (simp; done) | (simp; omega)
    rw [if_pos e0]
    refine ⟨(hy x (by simp)).no, ?_⟩
    try rw [isT_str]
    have h := h S (Kp.refl S)
    cases x <;> exact h

theorem ok_matches (T : Tx K mg w a) (G_fits : FnG P w K mg base 3 a.f_fits a.fd_fits ["kind", "thing"] (lift K 2 d_fits)) : FnG P w K mg base 4 a.f_matches a.fd_matches ["form", "thing"] (lift K 2 d_matches) := by
  refine def_ok T.h_matches.fn sc_matches (fun cdv A outer s H hr hG => ⟨_, (sb_cons (ss_if (sw_or (st_cmp so_is (se_var 0) se_non) (sw_or1 (st_cmp (so_ne (u64_of hr)) (se_cb sc_len T.z_len (by decide +kernel) (sa_cons (se_var 1) sa_nil)) (se_op so_add (se_cb sc_len T.z_len (by decide +kernel) (sa_cons (se_var 0) sa_nil)) se_int)))).st (sb_one (ss_ret se_bl)) sb_nil)
    (sb_one (ss_ret (se_cb (sc_all rfl) T.z_all (by decide +kernel) (sa_cons (se_lc (own := [("kind", 2), ("part", 3)]) rfl sc_matches.nd (si_zipT T.z_zip (sa_cons (se_var 0) (sa_cons (se_sl (se_var 1) (sp_some se_int) sp_none) sa_nil))) (show BlkOk ["form", "thing", "kind", "part"] (defScope s_matches) _ [("kind", 2), ("part", 3)] from ⟨rfl, by decide +kernel, by decide +kernel, by decide +kernel, by decide +kernel⟩) (fun _ _ _ _ _ => (sgc_tup (n := 2) rfl (sgcs_cons (sgc_name (i := 2) sc_matches.nd) (sgcs_cons (sgc_name (i := 3) sc_matches.nd) sgcs_nil)))) (fun _ _ _ _ _ => sts_nil) (fun _ _ _ _ _ => (se_cl G_fits T.h_fits (hr.mono (by omega)) hG (sa_cons (se_var 2) (sa_cons (se_var 3) sa_nil)) (by intro ρ S P h; simp only [dCons, dNil, List.length_cons, List.length_nil, Nat.zero_add, Nat.reduceAdd, true_and] at h ⊢; exact h)))) sa_nil)))))⟩) (fun rs S P hl h => ?_)
  obtain ⟨f, x, rfl, ⟨w, r, rfl, rfl, okn, ok3⟩, h⟩ := h
  have ok := okn.no
  obtain ⟨hx, hy⟩ := ok3 _ rfl
  infer_instance
  have h0 := h S (Kp.refl S)
  cases e : tab_ROW_FORMS w with
  | none =>
    simp only [isRow, e] at h0
    exact h0
  | some d =>
    obtain ⟨ks, rfl, hk, hz⟩ := tab_some e
    simp only [isRow, e] at h0
    simp only [Option.getD_some]
    infer_instance
    by_cases el : r.length = ks.length
    · have e1 : ¬ (!decide (((r.length + 1 : Nat) : Int) = (ks.length : Int) + 1)) = true := by simp; omega
      rw [if_neg e1]
      rw [cut_tail]
      refine lc_fn (f := fun p => .bool (fitP p)) (by rw [pairsD_length]; omega) (fun p hp S2 R k2 => ?_) fun S2 k2 => ?_
      · obtain ⟨i, hi, e2⟩ := List.getElem_of_mem hp
        obtain ⟨k, v, ek, ev, rfl⟩ := pairsD_get (List.getElem?_eq_some_iff.mpr ⟨hi, e2⟩)
        obtain ⟨z, rfl, hw⟩ := hz k (List.mem_of_getElem? ek)
        infer_instance
        exact ⟨trivial, trivial, _, v, rfl, ⟨⟨z, rfl, hw⟩, hy v (List.mem_cons_of_mem _ (List.mem_of_getElem? ev))⟩, k2⟩
      · rw [boolsOf_map]
        have h1 := h S2 k2
        simp only [isRow, e] at h1
        rw [decide_eq_true el, Bool.true_and] at h1
        exact h1
    · have e1 : (!decide (((r.length + 1 : Nat) : Int) = (ks.length : Int) + 1)) = true := by simp; omega
      rw [if_pos e1]
      rw [decide_eq_false el, Bool.false_and] at h0
      exact h0

theorem ok_is_row (T : Tx K mg w a) (G_begins_with_word : FnG P w K mg base 1 a.f_begins_with_word a.fd_begins_with_word ["thing"] (lift K 1 d_begins_with_word)) (G_matches : FnG P w K mg base 4 a.f_matches a.fd_matches ["form", "thing"] (lift K 2 d_matches)) (G_row_form : FnG P w K mg base 1 a.f_row_form a.fd_row_form ["word"] (lift K 1 d_row_form)) : FnG P w K mg base 5 a.f_is_row a.fd_is_row ["thing"] (lift K 1 d_is_row) := by
  refine def_ok T.h_is_row.fn sc_is_row (fun cdv A outer s H hr hG => ⟨_, (sb_one (ss_ret (se_and (se_cl G_begins_with_word T.h_begins_with_word (hr.mono (by omega)) hG (sa_cons (se_var 0) sa_nil) (by intro ρ S P h; simp only [dCons, dNil, List.length_cons, List.length_nil, Nat.zero_add, Nat.reduceAdd, true_and] at h ⊢; exact h)) (se_one (se_cl G_matches T.h_matches (hr.mono (by omega)) hG (sa_cons (se_cl G_row_form T.h_row_form (hr.mono (by omega)) hG (sa_cons (se_ix sx_seq (se_var 0) se_int) sa_nil) (by intro ρ S P h; simp only [dCons, dNil, List.length_cons, List.length_nil, Nat.zero_add, Nat.reduceAdd, true_and] at h ⊢; exact h)) (sa_cons (se_var 0) sa_nil)) (by intro ρ S P h; simp only [dCons, dNil, List.length_cons, List.length_nil, Nat.zero_add, Nat.reduceAdd, true_and] at h ⊢; exact h))))))⟩) (fun rs S P hl h => ?_)
  obtain ⟨x, rfl, ⟨okn, ok3⟩, h⟩ := h
  have ok := okn.no
  infer_instance
  refine ⟨x, rfl, ⟨okn, ok3⟩, fun S1 k1 => ?_⟩
  dsimp only
  cases hq : isBeg x with
  | false =>
    have k3 : isRow x = false := by
      unfold isBeg at hq
      split at hq
      · cases hq
      · rename_i hn
        unfold isRow
        split
        · exact absurd rfl (hn _ _)
        · rfl
    have h : P (.dat (.bool (isRow x))) S1 := h S1 k1
    rw [k3] at h
    infer_instance
    exact h
  | true =>
    obtain ⟨w, r, rfl⟩ : ∃ w r, x = .tuple (.str w :: r) := by
      unfold isBeg at hq
      split at hq
      · exact ⟨_, _, rfl⟩
      · cases hq
    infer_instance
    refine ⟨.str w, rfl, ⟨w, rfl⟩, fun S2 k2 => ?_⟩
    exact ⟨_, _, rfl, ⟨w, r, rfl, rfl, okn, ok3⟩, fun S3 k3 => h S3 ((k1.trans k2).trans k3)⟩

theorem ok_is_finding (T : Tx K mg w a) (G_is_finding_word : FnG P w K mg base 1 a.f_is_finding_word a.fd_is_finding_word ["thing"] (lift K 1 d_is_finding_word)) (G_is_number : FnG P w K mg base 2 a.f_is_number a.fd_is_number ["thing"] (lift K 1 d_is_number)) : FnG P w K mg base 3 a.f_is_finding a.fd_is_finding ["thing"] (lift K 1 d_is_finding) := by
  refine def_ok T.h_is_finding.fn sc_is_finding (fun cdv A outer s H hr hG => ⟨_, (sb_cons (ss_if (sw_or (st_not (st_val (se_isi (T := "tuple") (se_var 0) T.z_isinstance T.z_tuple))) (sw_or1 (st_cmp (so_ne (u64_of hr)) (se_cb sc_len T.z_len (by decide +kernel) (sa_cons (se_var 0) sa_nil)) se_int))).st (sb_one (ss_ret se_bl)) sb_nil)
    (sb_one (ss_ret (se_and (se_cl G_is_finding_word T.h_is_finding_word (hr.mono (by omega)) hG (sa_cons (se_ix sx_seq (se_var 0) se_int) sa_nil) (by intro ρ S P h; simp only [dCons, dNil, List.length_cons, List.length_nil, Nat.zero_add, Nat.reduceAdd, true_and] at h ⊢; exact h)) (se_one (se_cl G_is_number T.h_is_number (hr.mono (by omega)) hG (sa_cons (se_ix sx_seq (se_var 0) se_int) sa_nil) (by intro ρ S P h; simp only [dCons, dNil, List.length_cons, List.length_nil, Nat.zero_add, Nat.reduceAdd, true_and] at h ⊢; exact h)))))))⟩) (fun rs S P hl h => ?_)
  obtain ⟨x, rfl, ⟨okn, ok3⟩, h⟩ := h
  have ok := okn.no
  infer_instance
  refine ⟨ok, ?_⟩
  try rw [isT_tuple]
  cases x <;> infer_instance
  all_goals first | exact h S (Kp.refl S) | skip
  rename_i xs
  obtain ⟨hx, hy⟩ := ok3 xs rfl
  match xs, h, hy with
  | [], h, hy => exact h S (Kp.refl S)
  | [x], h, hy =>
    have h := h S (Kp.refl S)
    cases x <;> exact h
  | x :: y :: z :: r, h, hy =>
    have e : (!decide (((r.length + 1 + 1 + 1 : Nat) : Int) = 2)) = true := by simp; omega
    infer_instance
    rw [if_pos e]
    have h := h S (Kp.refl S)
    cases x <;> exact h
  | [x, y], h, hy =>
    refine ⟨x, rfl, hy x (by simp), fun S1 k1 => ?_⟩
    dsimp only
    cases q : isFw x with
    | false =>
      have h : P (.dat (.bool (isFind (.tuple [x, y])))) S1 := h S1 k1
      rw [isFind_pair, q, Bool.false_and] at h
      infer_instance
      exact h
    | true =>
      infer_instance
      refine ⟨y, rfl, hy y (by simp), fun S2 k2 => ?_⟩
      have h : P (.dat (.bool (isFind (.tuple [x, y])))) S2 := h S2 (k1.trans k2)
      rw [isFind_pair, q, Bool.true_and] at h
      exact h

theorem ok__law_feed (T : Tx K mg w a)  : FnG P w K mg base 1 a.f__law_feed a.fd__law_feed ["_law_script"] (lift K 1 d__law_feed) := by
  refine def_ok T.h__law_feed.fn sc__law_feed (fun cdv A outer s H hr hG => ⟨_, (sb_one (ss_ret (se_disp (sps_cons se_str (se_frz (se_ct sc_list T.z_list (by decide +kernel) (sa_cons (se_sl (se_var 0) sp_none (sp_some se_int)) sa_nil))) (sps_cons se_str se_int (sps_cons se_str se_int (sps_cons se_str se_int sps_nil)))))))⟩) (fun rs S P hl h => ?_)
  obtain ⟨ns, rfl, hl, h⟩ := h
  infer_instance
  intro p hp
  show ∀ q, _ → _
  intro q hq
  have hcut : cutD (ns.map PyData.int) none (some 63) = (ns.take 63).map PyData.int := by
    have := cutD_to (ns.map PyData.int) 63
    rw [List.map_take]
    exact this
  rw [hcut]
  dsimp only
  rw [put_same]
  dsimp only [Option.bind, itemsOf]
  intro q2 hq2
  rw [put_same]
  dsimp only
  rw [gone_put hq2]
  refine ⟨put_old hq put_same, by omega, ?_⟩
  have hf := feed_new (cs := ns.take 63)
  unfold cellsD at hf
  rw [hf]
  have k1 : Kp S (put (put S p (.dct [])) q (.lst ((ns.take 63).map .int))) := (Kp.put hp).trans (Kp.put hq)
  exact h p _ hp (k1.put' hp) ⟨ns.take 63, 0, 0, 0, put_same, by rw [List.length_take]; omega, by omega, by omega, by omega, by omega⟩

theorem ok__law_draw (T : Tx K mg w a)  : FnG P w K mg base 1 a.f__law_draw a.fd__law_draw ["_law_feed_here", "_law_many"] (lift K 2 d__law_draw) := by
  refine def_ok T.h__law_draw.fn sc__law_draw (fun cdv A outer s H hr hG => ⟨_, (sb_cons (ss_asg (se_op so_add (se_dget (u1_of hr) (se_var 0) se_str) se_int) (sg_sub (u1_of hr) (se_var 0) se_str))
    (sb_cons (ss_if (st_cmp so_gt (se_dget (u1_of hr) (se_var 0) se_str) se_int) (sb_cons (ss_set (i := 2) sc__law_draw.nd (se_op so_mod (se_ct sc_int T.z_int (by decide +kernel) (sa_cons (se_dget (u1_of hr) (se_var 0) se_str) sa_nil)) (se_var 1)))
    (sb_cons (ss_asg (se_op so_div (se_dget (u1_of hr) (se_var 0) se_str) (se_var 1)) (sg_sub (u1_of hr) (se_var 0) se_str))
    (sb_one (ss_ret (se_var 2))))) sb_nil)
    (sb_cons (ss_set (i := 3) sc__law_draw.nd (se_dget (u1_of hr) (se_var 0) se_str))
    (sb_cons (ss_asg (se_op so_add (se_var 3) se_int) (sg_sub (u1_of hr) (se_var 0) se_str))
    (sb_cons (ss_set (i := 4) sc__law_draw.nd (se_if (st_cmp (so_ne (u64_of hr)) (se_dget (u1_of hr) (se_var 0) se_str) (se_lstS sa_nil)) (se_ix sx_seq (se_dget (u1_of hr) (se_var 0) se_str) (se_op so_mod (se_ct sc_int T.z_int (by decide +kernel) (sa_cons (se_var 3) sa_nil)) (se_cb sc_len T.z_len (by decide +kernel) (sa_cons (se_dget (u1_of hr) (se_var 0) se_str) sa_nil)))) se_int))
    (sb_cons (ss_if (sw_and (st_cmp so_ge (se_var 4) (se_op so_pow se_int se_int)) (sw_and1 (st_cmp so_lt (se_var 3) (se_cb sc_len T.z_len (by decide +kernel) (sa_cons (se_dget (u1_of hr) (se_var 0) se_str) sa_nil))))).st (sb_cons (ss_asg (se_op so_div (se_var 4) (se_var 1)) (sg_sub (u1_of hr) (se_var 0) se_str))
    (sb_one (ss_ret (se_op so_mod (se_ct sc_int T.z_int (by decide +kernel) (sa_cons (se_var 4) sa_nil)) (se_var 1))))) sb_nil)
    (sb_cons (ss_set (i := 5) sc__law_draw.nd (se_op so_mod (se_ct sc_int T.z_int (by decide +kernel) (sa_cons (se_op so_add (se_op so_add (se_op so_mod (se_ct sc_int T.z_int (by decide +kernel) (sa_cons (se_var 4) sa_nil)) se_int) (se_op so_mulA se_int (se_dget (u1_of hr) (se_var 0) se_str))) se_int) sa_nil)) se_int))
    (sb_cons (ss_set (i := 5) sc__law_draw.nd (se_op so_mod (se_ct sc_int T.z_int (by decide +kernel) (sa_cons (se_op so_add (se_op so_add (se_op so_mulA (se_var 5) (se_var 5)) (se_op so_mulA se_int (se_dget (u1_of hr) (se_var 0) se_str))) se_int) sa_nil)) se_int))
    (sb_one (ss_ret (se_op so_mod (se_ct sc_int T.z_int (by decide +kernel) (sa_cons (se_op so_div (se_op so_mod (se_ct sc_int T.z_int (by decide +kernel) (sa_cons (se_op so_add (se_op so_mulA (se_var 5) (se_var 5)) (se_op so_mulA se_int (se_var 5))) sa_nil)) se_int) se_int) sa_nil)) (se_var 1))))))))))))⟩) (fun rs S P hl h => ?_)
  obtain ⟨a, m, n, rfl, ⟨cs, i, l, c, e, hcs, hi0, hi1, hc0, hc1⟩, hn, hm0, hm1, h⟩ := h
  infer_instance
  simp only [dictIn_e e, e, v_count]
  try infer_instance
  simp only [e]
  simp only [dictIn_put, put_same, p_count, v_left, feed_len, true_and]
  by_cases h1 : 0 < l
  · rw [if_pos (decide_eq_true h1)]
    simp only [put_put, p_left]
    refine ⟨by omega, ⟨by omega, by omega⟩, h _ _ (Int.emod_nonneg _ (by omega)) (Int.emod_lt_of_pos _ (by omega)) kpB_put ⟨cs, i, _, _, put_same, hcs, hi0, by omega, by omega, by omega⟩⟩
  · rw [if_neg (by rw [decide_eq_false h1]; decide)]
    simp only [put_put, v_at, p_at, v_cells, put_same, dictIn_put]
    iterate 3 ((try infer_instance); (try simp only [put_put, v_at, p_at, v_cells, put_same, dictIn_put, feed_len, true_and]))
    refine ⟨by omega, fun p hp => oEq_deep rfl peek_put rfl (shaped_ints cs) shaped_nil ?_⟩
    have ea : put (put S a (.dct (feedKv cs (i + 1) l (c + 1)))) p (.lst []) a = some (.dct (feedKv cs (i + 1) l (c + 1))) := put_old hp put_same
    have kS : KpB a S (put (put S a (.dct (feedKv cs (i + 1) l (c + 1)))) p (.lst [])) := kpB_put.trans (KpB.of (Kp.put hp))
    generalize put (put S a (.dct (feedKv cs (i + 1) l (c + 1)))) p (.lst []) = S2 at ea kS ⊢
    have eq1 : PyData.eqv (cellsD cs) (.list []) = cs.isEmpty := by
      show PyData.eqvAll _ _ = _
      rw [eqvAll_nil]
      cases cs <;> rfl
    rw [eq1]
    simp only [dictIn_e ea, v_cells, cellsD]
    infer_instance
    simp only [dictIn_e ea, ea, v_cells, v_count, p_left, feed_len, true_and, cellsD]
    iterate 3 ((try infer_instance); (try simp only [dictIn_e ea, ea, v_cells, v_count, p_left, feed_len, true_and, cellsD]))
    have hfin : ∀ (v l' : Int) (S3 : Sto), 0 ≤ v → v < m → KpB a S S3 → S3 a = some (.dct (feedKv cs (i + 1) l' (c + 1))) → P (.dat (.int v)) S3 := fun v l' S3 h0 h2 k e3 =>
      h v S3 h0 h2 k ⟨cs, _, l', _, e3, hcs, by omega, by omega, by omega, by omega⟩
    have hmix : ∀ x : Int, CMul (x % 2147483477) (x % 2147483477) ∧ CMul (x % 2147483423) (x % 2147483423) := fun x =>
      ⟨Or.inl ⟨by have := Int.emod_nonneg x (by decide : (2147483477 : Int) ≠ 0); omega, by have := Int.emod_lt_of_pos x (by decide : (0 : Int) < 2147483477); omega⟩,
       Or.inl ⟨by have := Int.emod_nonneg x (by decide : (2147483423 : Int) ≠ 0); omega, by have := Int.emod_lt_of_pos x (by decide : (0 : Int) < 2147483423); omega⟩⟩
    have cp : CPow 10 18 := ⟨by decide, by decide, by decide⟩
    have cm : ∀ (k x : Int), -(2 ^ 64) < k ∧ k < 2 ^ 64 → CMul k x := fun k x hk => Or.inl hk
    have fm : ∀ x : Int, P (.dat (.int (x % m))) S2 := fun x => hfin _ l S2 (Int.emod_nonneg _ (by omega)) (Int.emod_lt_of_pos _ (by omega)) kS ea
    have fl : ∀ x y : Int, P (.dat (.int (x % m))) (put S2 a (.dct (feedKv cs (i + 1) y (c + 1)))) := fun x y => hfin _ y _ (Int.emod_nonneg _ (by omega)) (Int.emod_lt_of_pos _ (by omega)) (kS.trans kpB_put) put_same
    cases cs with
    | nil =>
      simp only [List.isEmpty_nil]
      infer_instance
      iterate 3 ((try infer_instance); (try simp only [dictIn_e ea, ea, v_cells, v_count, p_left, feed_len, true_and, cellsD]))
      refine ⟨cp, ?_⟩
      split
      · split
        · exact ⟨⟨by omega, by omega⟩, by omega, fl _ _⟩
        · exact ⟨by decide, cm _ _ (by decide), by decide, (hmix _).1, cm _ _ (by decide), by decide, (hmix _).2, cm _ _ (by decide), by decide, ⟨by decide, by decide⟩, by omega, fm _⟩
      · exact ⟨by decide, cm _ _ (by decide), by decide, (hmix _).1, cm _ _ (by decide), by decide, (hmix _).2, cm _ _ (by decide), by decide, ⟨by decide, by decide⟩, by omega, fm _⟩
    | cons x0 cs0 =>
      simp only [List.isEmpty_cons]
      infer_instance
      iterate 3 ((try infer_instance); (try simp only [dictIn_e ea, ea, v_cells, v_count, p_left, feed_len, true_and, cellsD]))
      have hlen : (0 : Int) < ((List.map PyData.int cs0).length + 1 : Nat) := by omega
      obtain ⟨x, hx⟩ := at_ints (cs := x0 :: cs0) (i := i % (((List.map PyData.int cs0).length + 1 : Nat) : Int)) (Int.emod_nonneg _ (by omega)) (by
        have := Int.emod_lt_of_pos i hlen
        rw [List.length_map] at this ⊢
        exact this)
      rw [List.map_cons] at hx
      simp only [hx]
      iterate 3 ((try infer_instance); (try simp only [dictIn_e ea, ea, v_cells, v_count, p_left, feed_len, true_and, cellsD, hx]))
      refine ⟨hlen, cp, ?_⟩
      split
      · split
        · exact ⟨⟨by omega, by omega⟩, by omega, fl _ _⟩
        · exact ⟨by decide, cm _ _ (by decide), by decide, (hmix _).1, cm _ _ (by decide), by decide, (hmix _).2, cm _ _ (by decide), by decide, ⟨by decide, by decide⟩, by omega, fm _⟩
      · exact ⟨by decide, cm _ _ (by decide), by decide, (hmix _).1, cm _ _ (by decide), by decide, (hmix _).2, cm _ _ (by decide), by decide, ⟨by decide, by decide⟩, by omega, fm _⟩

theorem ok__law_count (T : Tx K mg w a)  : FnG P w K mg base 1 a.f__law_count a.fd__law_count ["_law_item"] (lift K 1 d__law_count) := by
  refine def_ok T.h__law_count.fn sc__law_count (fun cdv A outer s H hr hG => ⟨_, (sb_one (ss_ret (se_and (se_isi (T := "int") (se_var 0) T.z_isinstance T.z_int) (se_and (se_not (se_isi (T := "bool") (se_var 0) T.z_isinstance T.z_bool)) (se_one (se_cmp so_ge (se_var 0) se_int))))))⟩) (fun rs S P hl h => ?_)
  obtain ⟨x, rfl, okn, h⟩ := h
  have ok := okn.no
  infer_instance
  refine ⟨ok, ?_⟩
  try rw [isT_int, isT_bool]
  cases x <;> infer_instance
  all_goals first | exact h S (Kp.refl S) | exact ⟨ok, h S (Kp.refl S)⟩

theorem ok__law_named (T : Tx K mg w a)  : FnG P w K mg base 1 a.f__law_named a.fd__law_named ["_law_item"] (lift K 1 d__law_named) := by
  refine def_ok T.h__law_named.fn sc__law_named (fun cdv A outer s H hr hG => ⟨_, (sb_cons (ss_if (sw_or (st_not (st_val (se_isi (T := "str") (se_var 0) T.z_isinstance T.z_str))) (sw_or1 (st_not (st_chain so_lt so_lt se_int (se_cb sc_len T.z_len (by decide +kernel) (sa_cons (se_var 0) sa_nil)) se_int)))).st (sb_one (ss_ret se_bl)) sb_nil)
    (sb_one (ss_ret (se_cmp (so_eq (u64_of hr)) (se_lc (own := [("_law_sign", 1)]) rfl sc__law_named.nd (si_str (se_var 0)) (show BlkOk ["_law_item", "_law_sign"] (defScope s__law_named) _ [("_law_sign", 1)] from ⟨rfl, by decide +kernel, by decide +kernel, by decide +kernel, by decide +kernel⟩) (fun _ _ _ _ _ => (sgc_name (i := 1) sc__law_named.nd)) (fun _ _ _ _ _ => (sts_one (st_not (st_chain so_le so_le se_int (se_cb sc_ord T.z_ord (by decide +kernel) (sa_cons (se_var 1) sa_nil)) se_int)))) (fun _ _ _ _ _ => (se_var 1))) (se_lstS sa_nil)))))⟩) (fun rs S P hl h => ?_)
  obtain ⟨x, rfl, okn, h⟩ := h
  have ok := okn.no
  have ok2 := okn.2
  infer_instance
  refine ⟨ok, ?_⟩
  try rw [isT_str]
  cases x <;> infer_instance
  all_goals first | exact h S (Kp.refl S) | skip
  rename_i z
  have hz := ok2 z rfl
  refine ⟨hz, ?_⟩
  have h0 := h S (Kp.refl S)
  simp only [isNm_str] at h h0
  by_cases h1 : (0 : Int) < (z.length : Int)
  · by_cases h2 : (z.length : Int) < 9
    · rw [if_pos (decide_eq_true h1), if_neg (by rw [decide_eq_true h2]; decide)]
      refine lc_flt (q := fun x => !sgn x) (f := id) (by rw [signs_length]; omega) (fun x hx S1 R k0 k => ?_) (fun x hx hq S1 R k0 k => ?_) fun S2 k => ?_
      · obtain ⟨c, _, rfl⟩ := List.mem_map.mp hx
        have k := k S1 (Kp.refl S1)
        rw [sgn_at] at k
        infer_instance
        refine ⟨rfl, ?_⟩
        show if decide (97 ≤ (c : Int)) = true then R (!decide ((c : Int) ≤ 122)) S1 else R true S1
        by_cases e1 : 97 ≤ c
        · rw [if_pos (decide_eq_true (by omega))]
          rw [decide_eq_true e1, Bool.true_and] at k
          rw [show decide ((c : Int) ≤ 122) = decide (c ≤ 122) from decide_eq_decide.mpr (by omega)]
          exact k
        · rw [if_neg (by rw [decide_eq_false (by omega)]; decide)]
          rw [decide_eq_false e1, Bool.false_and] at k
          exact k
      · exact k S1 (Kp.refl S1)
      · refine ⟨by omega, fun p hp => ?_⟩
        rw [List.map_id]
        have hm : ∀ x ∈ (signs z).filter (fun x => !sgn x), x ∈ signs z := fun x hx => (List.mem_filter.mp hx).1
        refine oEq_deep rfl peek_put rfl (shaped_lst_of (fun x hx => signs_lay (shaped_lay okn.1) x (hm x hx)) fun x hx => signs_depth x (hm x hx)) shaped_nil ?_
        have e : PyData.eqv (.list ((signs z).filter fun x => !sgn x)) (.list []) = ((signs z).map sgn).all fun b => b := by
          show PyData.eqvAll _ [] = _
          rw [eqvAll_nil, List.all_map]
          generalize signs z = l
          induction l with
          | nil => rfl
          | cons x l ih =>
            by_cases q : sgn x = true
            · rw [List.filter_cons_of_neg (by simp [q]), ih, List.all_cons]; simp [q]
            · rw [List.filter_cons_of_pos (by simp [q]), List.all_cons]; simp [q]
        have h := h _ (k.put' (c := .lst []) (p := p) (by
          cases es : S p with
          | none => rfl
          | some c => rw [k p c es] at hp; cases hp))
        rw [decide_eq_true (by omega : (1 : Int) ≤ (z.length : Int)), decide_eq_true (by omega : (z.length : Int) ≤ 8)] at h
        rw [e]
        exact h
    · rw [if_pos (decide_eq_true h1), if_pos (by rw [decide_eq_false h2]; rfl)]
      rw [decide_eq_false (by omega : ¬ (z.length : Int) ≤ 8), Bool.and_false, Bool.false_and] at h0
      exact h0
  · rw [if_neg (by rw [decide_eq_false h1]; decide)]
    rw [decide_eq_false (by omega : ¬ (1 : Int) ≤ (z.length : Int)), Bool.false_and, Bool.false_and] at h0
    exact h0

theorem ok__law_placed (T : Tx K mg w a) (G__law_named : FnG P w K mg base 1 a.f__law_named a.fd__law_named ["_law_item"] (lift K 1 d__law_named)) : FnG P w K mg base 2 a.f__law_placed a.fd__law_placed ["_law_item"] (lift K 1 d__law_placed) := by
  refine def_ok T.h__law_placed.fn sc__law_placed (fun cdv A outer s H hr hG => ⟨_, (sb_one (ss_ret (se_and (se_isi (T := "tuple") (se_var 0) T.z_isinstance T.z_tuple) (se_and (se_cmp (so_eq (u64_of hr)) (se_cb sc_len T.z_len (by decide +kernel) (sa_cons (se_var 0) sa_nil)) se_int) (se_and (se_cl G__law_named T.h__law_named (hr.mono (by omega)) hG (sa_cons (se_ix sx_seq (se_var 0) se_int) sa_nil) (by intro ρ S P h; simp only [dCons, dNil, List.length_cons, List.length_nil, Nat.zero_add, Nat.reduceAdd, true_and] at h ⊢; exact h)) (se_one (se_cmp so_in (se_cb (sc_repr hG (un_of hr)) T.z_repr (by decide +kernel) (sa_cons (se_ix sx_seq (se_var 0) se_int) sa_nil)) (se_tup (sa_cons se_str (sa_cons se_str sa_nil))))))))))⟩) (fun rs S P hl h => ?_)
  obtain ⟨x, rfl, ⟨⟨okn, ok3⟩, ok4⟩, h⟩ := h
  have ok := okn.no
  infer_instance
  refine ⟨ok, ?_⟩
  try rw [isT_tuple]
  cases x <;> infer_instance
  all_goals first | exact h S (Kp.refl S) | skip
  rename_i xs
  obtain ⟨hx, hy⟩ := ok3 xs rfl
  have hz := ok4 xs rfl
  match xs, h, hy, hz with
  | [], h, hy, hz => exact h S (Kp.refl S)
  | [x], h, hy, hz => exact h S (Kp.refl S)
  | x :: y :: z :: r, h, hy, hz =>
    have e : ¬ decide (((r.length + 1 + 1 + 1 : Nat) : Int) = 2) = true := by simp; omega
    infer_instance
    rw [if_neg e]
    exact h S (Kp.refl S)
  | [x, y], h, hy, hz =>
    show d__law_named [Res.dat x] S _
    refine ⟨x, rfl, hy x (by simp), fun S1 k1 => ?_⟩
    have h := h S1 k1
    infer_instance
    have hc := shaped_lay (hy y (by simp)).1
    by_cases e : isNm x = true
    · rw [if_pos e]
      refine ⟨hc, (hz y (by simp)).1, (hz y (by simp)).2, Nat.le_trans (SeqAt.depth_of_shaped (hy y (by simp)).1) (by decide), by omega, trivial, rfl, ?_⟩
      rw [← isKd_heap hc]
      simpa [isPl, e] using h
    · rw [if_neg e]
      simpa [isPl, e] using h

theorem ok__law_formed (T : Tx K mg w a) (G__law_count : FnG P w K mg base 1 a.f__law_count a.fd__law_count ["_law_item"] (lift K 1 d__law_count)) (G__law_named : FnG P w K mg base 1 a.f__law_named a.fd__law_named ["_law_item"] (lift K 1 d__law_named)) : FnG P w K mg base 2 a.f__law_formed a.fd__law_formed ["_law_item"] (lift K 1 d__law_formed) := by
  refine def_ok T.h__law_formed.fn sc__law_formed (fun cdv A outer s H hr hG => ⟨_, (sb_cons (ss_if (sw_or (st_not (st_val (se_isi (T := "tuple") (se_var 0) T.z_isinstance T.z_tuple))) (sw_or (st_cmp (so_eq (u64_of hr)) (se_var 0) (se_tup sa_nil)) (sw_or1 (st_not (st_val (se_isi (T := "str") (se_ix sx_seq (se_var 0) se_int) T.z_isinstance T.z_str)))))).st (sb_one (ss_ret se_bl)) sb_nil)
    (sb_cons (ss_set (i := 1) sc__law_formed.nd (se_get1 (u1_of hr) (se_disp (sps_cons se_str se_str (sps_cons se_str se_str (sps_cons se_str se_str (sps_cons se_str se_str (sps_cons se_str se_str sps_nil)))))) (se_ix sx_seq (se_var 0) se_int)))
    (sb_cons (ss_if (sw_or (st_cmp so_is (se_var 1) se_non) (sw_or1 (st_cmp (so_ne (u64_of hr)) (se_cb sc_len T.z_len (by decide +kernel) (sa_cons (se_var 0) sa_nil)) (se_op so_add (se_cb sc_len T.z_len (by decide +kernel) (sa_cons (se_var 1) sa_nil)) se_int)))).st (sb_one (ss_ret se_bl)) sb_nil)
    (sb_cons (ss_for PassesOwn.never rfl (si_rng1 (by rfl) T.z_range (sa_cons (se_cb sc_len T.z_len (by decide +kernel) (sa_cons (se_var 1) sa_nil)) sa_nil)) (sg_name (i := 2) sc__law_formed.nd)
    (sb_cons (ss_set (i := 3) sc__law_formed.nd (se_if (st_cmp (so_eq (u64_of hr)) (se_ix sx_seq (se_var 1) (se_var 2)) se_str) (se_cl G__law_named T.h__law_named (hr.mono (by omega)) hG (sa_cons (se_ix sx_seq (se_var 0) (se_op so_add (se_var 2) se_int)) sa_nil) (by intro ρ S P h; simp only [dCons, dNil, List.length_cons, List.length_nil, Nat.zero_add, Nat.reduceAdd, true_and] at h ⊢; exact h)) (se_cl G__law_count T.h__law_count (hr.mono (by omega)) hG (sa_cons (se_ix sx_seq (se_var 0) (se_op so_add (se_var 2) se_int)) sa_nil) (by intro ρ S P h; simp only [dCons, dNil, List.length_cons, List.length_nil, Nat.zero_add, Nat.reduceAdd, true_and] at h ⊢; exact h))))
    (sb_one (ss_if (sw_or (st_not (st_val (se_var 3))) (sw_or1 (sw_and (st_cmp (so_eq (u64_of hr)) (se_ix sx_seq (se_var 1) (se_var 2)) se_str) (sw_and1 (st_cmp so_lt (se_ix sx_seq (se_var 0) (se_op so_add (se_var 2) se_int)) se_int))).st)).st (sb_one (ss_ret se_bl)) sb_nil))))
    (sb_one (ss_ret se_bl))))))⟩) (fun rs S P hl h => ?_)
  obtain ⟨x, rfl, ⟨okn, ok3⟩, h⟩ := h
  have ok := okn.no
  infer_instance
  refine ⟨ok, ?_⟩
  try rw [isT_tuple]
  cases x <;> infer_instance
  all_goals first | exact h S (Kp.refl S) | skip
  rename_i xs
  obtain ⟨hx, hy⟩ := ok3 xs rfl
  match xs, h, hy with
  | [], h, hy =>
    refine ⟨by omega, oEq_deep rfl rfl rfl shaped_tnil shaped_tnil ?_⟩
    exact h S (Kp.refl S)
  | x :: r, h, hy =>
    refine ⟨by omega, oEq_deep rfl rfl rfl okn.1 shaped_tnil ?_⟩
    infer_instance
    show if false = true then _ else _
    rw [if_neg (by decide)]
    refine ⟨(hy x (by simp)).no, ?_⟩
    try rw [isT_str]
    cases x <;> infer_instance
    all_goals first | exact h S (Kp.refl S) | skip
    rename_i w
    intro p hp
    refine ⟨put_same, by omega, by rw [dictIn_put]; trivial, ?_⟩
    rw [dictIn_put]
    have ev := plan_val w
    unfold planKv at ev
    rw [ev]
    generalize hS : put (put S p (Cell.dct [])) p _ = S1
    have kS : Kp S S1 := by rw [← hS]; exact ((Kp.refl S).put' hp).put' hp
    clear hS
    have et := plan_tab w
    cases ep : planS w with
    | none =>
      rw [ep] at et
      have h := h S1 kS
      simp only [isRow, et] at h
      exact h
    | some pl =>
      rw [ep] at et
      have hpl := plan_len ep
      infer_instance
      simp only [Option.getD_some]
      refine ⟨by omega, ?_⟩
      by_cases el : r.length = pl.length
      · have e1 : ¬ (!decide (((r.length + 1 : Nat) : Int) = (pl.length : Int) + 1)) = true := by simp; omega
        rw [if_neg e1]
        refine ⟨by omega, by omega, by omega, ?_⟩
        have hall := pairs_all (pl.cps.toList.map cv) r (by rw [List.length_map]; exact el.symm)
        have hrow : ∀ b : Bool, (b = true ↔ ∀ (i : Nat) (k x : PyData), (pl.cps.toList.map cv)[i]? = some k → r[i]? = some x → fit k x = true) → isRow (.tuple (.str w :: r)) = b := by
          intro b hb
          simp only [isRow, et, Option.map_some]
          rw [decide_eq_true (by rw [List.length_map]; exact el), Bool.true_and, Bool.eq_iff_iff, hall]
          exact hb.symm
        refine loop_upto (fun k ρ S' => ∃ u v : Option Res, ρ = [some (.dat (.tuple (.str w :: r))), some (.dat (.str pl)), u, v] ∧ Kp S1 S' ∧
          ∀ (i : Nat) (q x : PyData), i < k → (pl.cps.toList.map cv)[i]? = some q → r[i]? = some x → fit q x = true) ?_ ?_ ⟨_, _, rfl, Kp.refl _, fun i _ _ hi => absurd hi (by omega)⟩
        · rintro k ρ S' nx hk ⟨u, v, rfl, k1, hq⟩ hn
          have hk' : k < pl.length := by omega
          have hkr : k < r.length := by omega
          have hkc : k < pl.cps.toList.length := by simpa [Str.length] using hk'
          have hc : atI pl.cps.toList (0 + (k : Int)) = some pl.cps.toList[k] := by
            rw [Int.zero_add]; exact atI_nat (List.getElem?_eq_getElem _)
          have hi : atI (PyData.str w :: r) (0 + (k : Int) + 1) = some r[k] := by
            have := atI_nat (xs := PyData.str w :: r) (j := k + 1) (v := r[k]) (by simp)
            rw [Int.zero_add]
            exact this
          infer_instance
          simp only [hc, hi]
          have ndx : nd r[k] := hy _ (List.mem_cons_of_mem _ (List.getElem_mem hkr))
          have eS : ∀ c : Nat, decide ((⟨#[c]⟩ : Str) = "s") = decide (c = 115) := fun c => sg_eq c 115
          have eN : ∀ c : Nat, decide ((⟨#[c]⟩ : Str) = "n") = decide (c = 110) := fun c => sg_eq c 110
          simp only [eS, eN]
          have ecv : (pl.cps.toList.map cv)[k]? = some (cv pl.cps.toList[k]) := by rw [List.getElem?_map, List.getElem?_eq_getElem hkc]; rfl
          have exr : r[k]? = some r[k] := List.getElem?_eq_getElem hkr
          have hnext : fit (cv pl.cps.toList[k]) r[k] = true → ∀ S3 (b c : Res), Kp S' S3 → nx [some (.dat (.tuple (.str w :: r))), some (.dat (.str pl)), some b, some c] S3 := by
            intro hf S3 b c k3
            refine hn _ _ ⟨_, _, rfl, k1.trans k3, fun i q x hi e1 e2 => ?_⟩
            rcases Nat.lt_or_ge i k with h3 | h3
            · exact hq i q x h3 e1 e2
            · obtain rfl : i = k := by omega
              rw [ecv] at e1; rw [exr] at e2
              cases e1; cases e2
              exact hf
          have hfail : fit (cv pl.cps.toList[k]) r[k] = false → ∀ S3, Kp S' S3 → P (.dat (.bool false)) S3 := by
            intro hf S3 k3
            have h := h S3 (kS.trans (k1.trans k3))
            simp only at h
            rw [hrow false ⟨(fun e => Bool.noConfusion e), fun h3 => by rw [h3 k _ _ ecv exr] at hf; cases hf⟩] at h
            exact h
          generalize pl.cps.toList[k] = c at hnext hfail
          generalize r[k] = x at hnext hfail ndx
          clear hq hn hi hc ecv exr hrow hall
          refine ⟨by omega, ?_⟩
          by_cases e1 : c = 115
          · subst e1
            rw [if_pos (decide_eq_true rfl)]
            refine ⟨x, rfl, ndx, fun S3 k3 => ?_⟩
            dsimp only
            have ef : fit (cv 115) x = isNm x := rfl
            rw [ef] at hnext hfail
            cases eb : isNm x with
            | false => exact hfail eb S3 k3
            | true => exact ⟨by omega, hnext eb S3 _ _ k3⟩
          · rw [if_neg (by rw [decide_eq_false e1]; decide)]
            refine ⟨x, rfl, ndx, fun S3 k3 => ?_⟩
            dsimp only
            by_cases e2 : c = 110
            · subst e2
              have ef : fit (cv 110) x = (isNum x && gt0 x) := rfl
              rw [ef] at hnext hfail
              cases eb : isNum x with
              | false =>
                rw [eb, Bool.false_and] at hfail
                exact hfail rfl S3 k3
              | true =>
                rw [eb, Bool.true_and] at hnext hfail
                refine ⟨by omega, ?_⟩
                rw [if_pos (decide_eq_true rfl)]
                cases x <;> first | (cases eb; done) | skip
                rename_i i
                simp only [gt0] at hnext hfail
                dsimp only
                by_cases e3 : i < 1
                · rw [if_pos (decide_eq_true e3)]
                  exact hfail (decide_eq_false (by omega)) S3 k3
                · rw [if_neg (by rw [decide_eq_false e3]; decide)]
                  exact hnext (decide_eq_true (by omega)) S3 _ _ k3
            · have ec : cv c = .str "number" := by unfold cv; rw [if_neg e1, if_neg e2]
              have ef : fit (cv c) x = isNum x := by rw [ec]; rfl
              rw [ef] at hnext hfail
              cases eb : isNum x with
              | false => exact hfail eb S3 k3
              | true =>
                refine ⟨by omega, ?_⟩
                rw [if_neg (by rw [decide_eq_false e2]; decide)]
                exact hnext eb S3 _ _ k3
        · rintro ρ S' ⟨u, v, rfl, k1, hq⟩
          infer_instance
          have h := h S' (kS.trans k1)
          simp only at h
          rw [hrow true ⟨fun _ i q x e1 e2 => hq i q x (by have := (List.getElem?_eq_some_iff.mp e2).1; omega) e1 e2, fun _ => rfl⟩] at h
          exact h
      · have e1 : (!decide (((r.length + 1 : Nat) : Int) = (pl.length : Int) + 1)) = true := by simp; omega
        rw [if_pos e1]
        have h := h S1 kS
        simp only [isRow, et, Option.map_some] at h
        rw [decide_eq_false (by rw [List.length_map]; exact el), Bool.false_and] at h
        exact h

theorem ok__law_found (T : Tx K mg w a) (G__law_count : FnG P w K mg base 1 a.f__law_count a.fd__law_count ["_law_item"] (lift K 1 d__law_count)) : FnG P w K mg base 2 a.f__law_found a.fd__law_found ["_law_item"] (lift K 1 d__law_found) := by
  refine def_ok T.h__law_found.fn sc__law_found (fun cdv A outer s H hr hG => ⟨_, (sb_one (ss_ret (se_and (se_isi (T := "tuple") (se_var 0) T.z_isinstance T.z_tuple) (se_and (se_cmp (so_eq (u64_of hr)) (se_cb sc_len T.z_len (by decide +kernel) (sa_cons (se_var 0) sa_nil)) se_int) (se_and (se_cmp so_in (se_cb (sc_repr hG (un_of hr)) T.z_repr (by decide +kernel) (sa_cons (se_ix sx_seq (se_var 0) se_int) sa_nil)) (se_tup (sa_cons se_str (sa_cons se_str sa_nil)))) (se_one (se_cl G__law_count T.h__law_count (hr.mono (by omega)) hG (sa_cons (se_ix sx_seq (se_var 0) se_int) sa_nil) (by intro ρ S P h; simp only [dCons, dNil, List.length_cons, List.length_nil, Nat.zero_add, Nat.reduceAdd, true_and] at h ⊢; exact h))))))))⟩) (fun rs S P hl h => ?_)
  obtain ⟨x, rfl, ⟨⟨okn, ok3⟩, ok4⟩, h⟩ := h
  have ok := okn.no
  infer_instance
  refine ⟨ok, ?_⟩
  try rw [isT_tuple]
  cases x <;> infer_instance
  all_goals first | exact h S (Kp.refl S) | skip
  rename_i xs
  obtain ⟨hx, hy⟩ := ok3 xs rfl
  have hz := ok4 xs rfl
  match xs, h, hy, hz with
  | [], h, hy, hz => exact h S (Kp.refl S)
  | [x], h, hy, hz =>
    have h := h S (Kp.refl S)
    cases x <;> exact h
  | x :: y :: z :: r, h, hy, hz =>
    have e : ¬ decide (((r.length + 1 + 1 + 1 : Nat) : Int) = 2) = true := by simp; omega
    infer_instance
    rw [if_neg e]
    have h := h S (Kp.refl S)
    cases x <;> exact h
  | [x, y], h, hy, hz =>
    have hc := shaped_lay (hy x (by simp)).1
    show x.canLay0 = true ∧ _
    refine ⟨hc, (hz x (by simp)).1, (hz x (by simp)).2, Nat.le_trans (SeqAt.depth_of_shaped (hy x (by simp)).1) (by decide), ?_⟩
    infer_instance
    refine ⟨by omega, trivial, rfl, ?_⟩
    rw [← isFw_bad hc]
    simp only [isFind_pair] at h
    generalize isFw x = q at h ⊢
    cases q with
    | true =>
      rw [if_pos rfl]
      exact ⟨y, rfl, hy y (by simp), fun S1 k1 => h S1 k1⟩
    | false =>
      rw [if_neg (by decide)]
      exact h S (Kp.refl S)

theorem ok__law_book (T : Tx K mg w a) (G__law_draw : FnG P w K mg base 1 a.f__law_draw a.fd__law_draw ["_law_feed_here", "_law_many"] (lift K 2 d__law_draw)) : FnG P w K mg base 2 a.f__law_book a.fd__law_book ["_law_feed_here", "_law_size"] (lift K 2 d__law_book) := by
  refine def_ok T.h__law_book.fn sc__law_book (fun cdv A outer s H hr hG => ⟨_, (sb_cons (ss_set (i := 2) sc__law_book.nd (se_lstS (sa_cons (se_tup (sa_cons (se_tup (sa_cons se_str (sa_cons se_str sa_nil))) (sa_cons (se_tup (sa_cons se_str (sa_cons se_str sa_nil))) sa_nil))) (sa_cons (se_tup (sa_cons (se_tup (sa_cons se_str (sa_cons se_str sa_nil))) (sa_cons (se_tup (sa_cons se_str (sa_cons se_str sa_nil))) (sa_cons (se_tup (sa_cons se_str (sa_cons se_str sa_nil))) sa_nil)))) (sa_cons (se_tup (sa_cons (se_tup (sa_cons se_str (sa_cons se_str sa_nil))) sa_nil)) sa_nil)))))
    (sb_cons (ss_expr (se_m PySem.F.plainAttrs_list PySem.F.slot_list_extend PySem.F.type_list_extend sm_extend (se_var 2) (sa_cons (se_lstS (sa_cons (se_tup (sa_cons (se_tup (sa_cons se_str (sa_cons se_str sa_nil))) (sa_cons (se_tup (sa_cons se_str (sa_cons se_str sa_nil))) sa_nil))) (sa_cons (se_tup (sa_cons (se_tup (sa_cons se_str (sa_cons se_str sa_nil))) (sa_cons (se_tup (sa_cons se_str (sa_cons se_str sa_nil))) (sa_cons (se_tup (sa_cons se_str (sa_cons se_str sa_nil))) (sa_cons (se_tup (sa_cons se_str (sa_cons se_str sa_nil))) sa_nil))))) sa_nil))) sa_nil)))
    (sb_cons (ss_set (i := 3) sc__law_book.nd (se_ix sx_seq (se_var 2) (se_cl G__law_draw T.h__law_draw (hr.mono (by omega)) hG (sa_cons (se_var 0) (sa_cons se_int sa_nil)) (by intro ρ S P h; simp only [dCons, dNil, List.length_cons, List.length_nil, Nat.zero_add, Nat.reduceAdd, true_and] at h ⊢; exact h))))
    (sb_cons (ss_setLc (i := 4) (own := [("_law_one", 5)]) rfl sc__law_book.nd (si_tup (se_var 3)) (show BlkOk ["_law_feed_here", "_law_size", "_law_menus", "_law_spots", "_law_names", "_law_one", "_law_stock", "_law_found_here", "_law_sold", "_law_name", "_law_k", "_law_way", "_law_pool", "_law_source", "_law_n", "_law_goal", "_law_s"] (defScope s__law_book) _ [("_law_one", 5)] from ⟨rfl, by decide +kernel, by decide +kernel, by decide +kernel, by decide +kernel⟩) (fun _ _ _ _ _ => (sgc_name (i := 5) sc__law_book.nd)) (fun _ _ _ _ _ => sts_nil) (fun _ _ _ _ _ => (se_ix sx_seq (se_var 5) se_int)))
    (sb_cons (ss_parA (n := 3) rfl (sa_cons (se_ct (sc_dict rfl) T.z_dict (by decide +kernel) (sa_cons (se_lc (own := [("_law_name", 9)]) rfl sc__law_book.nd (si_list (se_var 4)) (show BlkOk ["_law_feed_here", "_law_size", "_law_menus", "_law_spots", "_law_names", "_law_one", "_law_stock", "_law_found_here", "_law_sold", "_law_name", "_law_k", "_law_way", "_law_pool", "_law_source", "_law_n", "_law_goal", "_law_s"] (defScope s__law_book) _ [("_law_name", 9)] from ⟨rfl, by decide +kernel, by decide +kernel, by decide +kernel, by decide +kernel⟩) (fun _ _ _ _ _ => (sgc_name (i := 9) sc__law_book.nd)) (fun _ _ _ _ _ => sts_nil) (fun _ _ _ _ _ => (se_tup (sa_cons (se_var 9) (sa_cons se_int sa_nil))))) sa_nil)) (sa_cons (se_lstS sa_nil) (sa_cons (se_lstS sa_nil) sa_nil))) (sgs_cons (sg_name (i := 6) sc__law_book.nd) (sgs_cons (sg_name (i := 7) sc__law_book.nd) (sgs_cons (sg_name (i := 8) sc__law_book.nd) sgs_nil))))
    (sb_cons (ss_for PassesOwn.never rfl (si_rng1 (by rfl) T.z_range (sa_cons (se_var 1) sa_nil)) (sg_name (i := 10) sc__law_book.nd)
    (sb_cons (ss_set (i := 11) sc__law_book.nd (se_cl G__law_draw T.h__law_draw (hr.mono (by omega)) hG (sa_cons (se_var 0) (sa_cons se_int sa_nil)) (by intro ρ S P h; simp only [dCons, dNil, List.length_cons, List.length_nil, Nat.zero_add, Nat.reduceAdd, true_and] at h ⊢; exact h)))
    (sb_cons (ss_set (i := 12) sc__law_book.nd (se_if (st_chain so_lt so_lt se_int (se_var 11) se_int) (se_lc (own := [("_law_name", 9)]) rfl sc__law_book.nd (si_list (se_var 4)) (show BlkOk ["_law_feed_here", "_law_size", "_law_menus", "_law_spots", "_law_names", "_law_one", "_law_stock", "_law_found_here", "_law_sold", "_law_name", "_law_k", "_law_way", "_law_pool", "_law_source", "_law_n", "_law_goal", "_law_s"] (defScope s__law_book) _ [("_law_name", 9)] from ⟨rfl, by decide +kernel, by decide +kernel, by decide +kernel, by decide +kernel⟩) (fun _ _ _ _ _ => (sgc_name (i := 9) sc__law_book.nd)) (fun _ _ _ _ _ => (sts_one (st_cmp so_gt (se_dget (u1_of hr) (se_var 6) (se_var 9)) se_int))) (fun _ _ _ _ _ => (se_var 9))) (se_lst sa_nil)))
    (sb_cons (ss_set (i := 12) sc__law_book.nd (se_if (st_cmp (so_ne (u64_of hr)) (se_var 12) (se_lstS sa_nil)) (se_var 12) (se_var 4)))
    (sb_cons (ss_par (i := 13) (j := 14) rfl sc__law_book.nd (sa_cons (se_ix sx_seq (se_var 12) (se_cl G__law_draw T.h__law_draw (hr.mono (by omega)) hG (sa_cons (se_var 0) (sa_cons (se_cb sc_len T.z_len (by decide +kernel) (sa_cons (se_var 12) sa_nil)) sa_nil)) (by intro ρ S P h; simp only [dCons, dNil, List.length_cons, List.length_nil, Nat.zero_add, Nat.reduceAdd, true_and] at h ⊢; exact h))) (sa_cons (se_op so_add se_int (se_cl G__law_draw T.h__law_draw (hr.mono (by omega)) hG (sa_cons (se_var 0) (sa_cons se_int sa_nil)) (by intro ρ S P h; simp only [dCons, dNil, List.length_cons, List.length_nil, Nat.zero_add, Nat.reduceAdd, true_and] at h ⊢; exact h))) sa_nil)))
    (sb_cons (ss_set (i := 15) sc__law_book.nd (se_ix sx_seq (se_var 4) (se_op so_mod (se_ct sc_int T.z_int (by decide +kernel) (sa_cons (se_op so_add (se_op so_add (se_m PySem.F.plainAttrs_list PySem.F.slot_list_index PySem.F.type_list_index sm_index (se_var 4) (sa_cons (se_var 13) sa_nil)) se_int) (se_cl G__law_draw T.h__law_draw (hr.mono (by omega)) hG (sa_cons (se_var 0) (sa_cons (se_cb (sc_max rfl) T.z_max (by decide +kernel) (sa_cons se_int (sa_cons (se_op so_subB (se_cb sc_len T.z_len (by decide +kernel) (sa_cons (se_var 4) sa_nil)) se_int) sa_nil))) sa_nil)) (by intro ρ S P h; simp only [dCons, dNil, List.length_cons, List.length_nil, Nat.zero_add, Nat.reduceAdd, true_and] at h ⊢; exact h))) sa_nil)) (se_cb sc_len T.z_len (by decide +kernel) (sa_cons (se_var 4) sa_nil)))))
    (sb_cons (ss_set (i := 14) sc__law_book.nd (se_if (st_cmp so_gt (se_var 11) se_int) (se_cb (sc_min rfl) T.z_min (by decide +kernel) (sa_cons (se_var 14) (sa_cons (se_dget (u1_of hr) (se_var 6) (se_var 13)) sa_nil))) (se_var 14)))
    (sb_one (ss_if (sw_and (st_cmp (so_eq (u64_of hr)) (se_var 11) se_int) (sw_and1 (st_cmp (so_ne (u64_of hr)) (se_var 8) (se_lstS sa_nil)))).st (sb_cons (ss_asg (se_m PySem.F.plainAttrs_list PySem.F.slot_list_pop PySem.F.type_list_pop sm_popAt (se_var 8) (sa_cons (se_cl G__law_draw T.h__law_draw (hr.mono (by omega)) hG (sa_cons (se_var 0) (sa_cons (se_cb sc_len T.z_len (by decide +kernel) (sa_cons (se_var 8) sa_nil)) sa_nil)) (by intro ρ S P h; simp only [dCons, dNil, List.length_cons, List.length_nil, Nat.zero_add, Nat.reduceAdd, true_and] at h ⊢; exact h)) sa_nil)) (sg_tup (n := 2) rfl (sgs_cons (sg_name (i := 16) sc__law_book.nd) (sgs_cons (sg_name (i := 14) sc__law_book.nd) sgs_nil))))
    (sb_cons (ss_expr (se_m PySem.F.plainAttrs_list PySem.F.slot_list_append PySem.F.type_list_append sm_append (se_var 7) (sa_cons (se_tup (sa_cons se_str (sa_cons (se_var 16) (sa_cons (se_var 13) sa_nil)))) sa_nil)))
    (sb_one (ss_asg (se_op so_add (se_dget (u1_of hr) (se_var 6) (se_var 13)) (se_var 14)) (sg_sub (u1_of hr) (se_var 6) (se_var 13)))))) (sb_one (ss_if (sw_and (st_cmp so_in (se_var 11) (se_tup (sa_cons se_int (sa_cons se_int (sa_cons se_int sa_nil))))) (sw_and (st_cmp so_gt (se_var 14) se_int) (sw_and1 (st_cmp (so_ne (u64_of hr)) (se_var 15) (se_var 13))))).st (sb_cons (ss_expr (se_m PySem.F.plainAttrs_list PySem.F.slot_list_append PySem.F.type_list_append sm_append (se_var 7) (sa_cons (se_tup (sa_cons se_str (sa_cons (se_var 13) (sa_cons (se_var 15) (sa_cons (se_var 14) sa_nil))))) sa_nil)))
    (sb_one (ss_parA (n := 2) rfl (sa_cons (se_op so_subB (se_dget (u1_of hr) (se_var 6) (se_var 13)) (se_var 14)) (sa_cons (se_op so_add (se_dget (u1_of hr) (se_var 6) (se_var 15)) (se_var 14)) sa_nil)) (sgs_cons (sg_sub (u1_of hr) (se_var 6) (se_var 13)) (sgs_cons (sg_sub (u1_of hr) (se_var 6) (se_var 15)) sgs_nil))))) (sb_one (ss_if (sw_and (st_cmp so_in (se_var 11) (se_tup (sa_cons se_int (sa_cons se_int sa_nil)))) (sw_and1 (st_cmp so_gt (se_var 14) se_int))).st (sb_cons (ss_expr (se_m PySem.F.plainAttrs_list PySem.F.slot_list_append PySem.F.type_list_append sm_append (se_var 7) (sa_cons (se_tup (sa_cons (se_if (sw_and (sw_or (st_cmp (so_eq (u64_of hr)) (se_var 11) se_int) (sw_or1 (st_cmp so_lt (se_var 10) se_int))).st (sw_and1 (st_cmp so_lt (se_cb sc_len T.z_len (by decide +kernel) (sa_cons (se_var 8) sa_nil)) se_int))).st se_str se_str) (sa_cons (se_var 13) (sa_cons (se_var 14) sa_nil)))) sa_nil)))
    (sb_cons (ss_expr (se_m PySem.F.plainAttrs_list PySem.F.slot_list_extend PySem.F.type_list_extend sm_extend (se_var 8) (sa_cons (se_if (st_cmp (so_eq (u64_of hr)) (se_ix sx_seq (se_ix sx_seq (se_var 7) (se_un su_neg se_int)) se_int) se_str) (se_lstS (sa_cons (se_tup (sa_cons (se_var 10) (sa_cons (se_var 14) sa_nil))) sa_nil)) (se_lstS sa_nil)) sa_nil)))
    (sb_one (ss_asg (se_op so_subB (se_dget (u1_of hr) (se_var 6) (se_var 13)) (se_var 14)) (sg_sub (u1_of hr) (se_var 6) (se_var 13)))))) (sb_cons (ss_set (i := 14) sc__law_book.nd (se_cb (sc_max rfl) T.z_max (by decide +kernel) (sa_cons se_int (sa_cons (se_var 14) sa_nil))))
    (sb_cons (ss_expr (se_m PySem.F.plainAttrs_list PySem.F.slot_list_append PySem.F.type_list_append sm_append (se_var 7) (sa_cons (se_tup (sa_cons se_str (sa_cons (se_var 13) (sa_cons (se_ix sx_seq (se_lstS (sa_cons se_str (sa_cons se_str (sa_cons se_str (sa_cons se_str sa_nil))))) (se_cl G__law_draw T.h__law_draw (hr.mono (by omega)) hG (sa_cons (se_var 0) (sa_cons se_int sa_nil)) (by intro ρ S P h; simp only [dCons, dNil, List.length_cons, List.length_nil, Nat.zero_add, Nat.reduceAdd, true_and] at h ⊢; exact h))) (sa_cons (se_var 14) sa_nil))))) sa_nil)))
    (sb_one (ss_asg (se_op so_add (se_dget (u1_of hr) (se_var 6) (se_var 13)) (se_var 14)) (sg_sub (u1_of hr) (se_var 6) (se_var 13)))))))))))))))))))
    (sb_one (ss_ret (se_tup (sa_cons (se_var 3) (sa_cons (se_ct sc_tuple T.z_tuple (by decide +kernel) (sa_cons (se_var 7) sa_nil)) sa_nil)))))))))))⟩) (fun rs S P hl h => ?_)
  obtain ⟨a, n, rfl, hf, hn, h⟩ := h
  simp only [startR, List.map_cons, List.map_nil, List.length_cons, List.length_nil, List.replicate, List.cons_append, List.nil_append, Nat.reduceAdd, Nat.reduceSub, Nat.zero_add]
  refine' newl (rs := menus3.map .dat) (L := menus3) ?a1 rfl (by decide) ?a2
  case a1 => (intro K hk; infer_instance; refine ⟨by omega, by omega, by omega, by omega, by omega, by omega, by omega, by omega, by omega, hk⟩)
  case a2 =>
  intro lm S1 hlm k1 e1
  have nlm : lm ≠ a := fun q => by obtain ⟨c, ec⟩ := hf.some; rw [q, ec] at hlm; cases hlm
  refine' grow (rs := menus2.map .dat) (L := menus2) rfl e1 ?b1 rfl (by decide) (by decide) ?b2
  case b1 => (intro K hk; infer_instance; refine ⟨by omega, by omega, by omega, by omega, by omega, by omega, by omega, by omega, hk⟩)
  case b2 =>
  intro S2 k2 e2
  have f2 : Feed S2 a n := by
    obtain ⟨cs, i, l, c, e, g⟩ := hf
    exact ⟨cs, i, l, c, k2 _ _ (Ne.symm nlm) (k1 _ _ e), g⟩
  refine' seq_post (fun r S' => ∃ (sp : List PyData) (nm : List Str), r = .dat (.tuple sp) ∧ Menu sp nm ∧ KpB a S S' ∧ Feed S' a (n + 1)) ?c1 ?c2
  case c1 =>
    intro K hk
    infer_instance
    refine ⟨a, 5, n, rfl, f2, by omega, by omega, by omega, fun v S3 h0 h1 k3 f3 => ?_⟩
    dsimp only
    have e3 := k3 lm _ nlm e2
    rw [e3]
    dsimp only
    obtain ⟨sp, nm, em, hm⟩ := menu_at h0 h1
    rw [em]
    refine hk _ _ ⟨sp, nm, rfl, hm, fun b c hb e => ?_, f3⟩
    have : b ≠ lm := fun q => by rw [q, hlm] at e; cases e
    exact k3 b c hb (k2 b c this (k1 b c e))
  case c2 =>
  rintro r S3 ⟨sp, nm, rfl, hm, k3, f3⟩
  refine' seq_post (fun r S' => r = .dat (.list (nm.map .str)) ∧ KpB a S S' ∧ Feed S' a (n + 1)) ?d1 ?d2
  case d1 =>
    intro K hk
    infer_instance
    refine lc_fn (f := item0) (by have := hm.len; omega) (fun x hx T R k0 => ?_) fun T kT => ?_
    · obtain ⟨y, r, rfl⟩ := hm.tup x hx
      infer_instance
      exact k0 T (Kp.refl T)
    · rw [hm.names]
      exact hk _ _ ⟨rfl, k3.trans (KpB.of kT), f3.kp kT⟩
  case d2 =>
  rintro r S4 ⟨rfl, k4, f4⟩
  refine' seq_parA (fun rs S' => ∃ (ls lf lo : Addr) (kvs : List (Key × PyData)), rs = [.loc ls, .loc lf, .loc lo] ∧ S ls = none ∧ S lf = none ∧ S lo = none ∧ ls ≠ a ∧ lf ≠ a ∧ lo ≠ a ∧ ls ≠ lf ∧ ls ≠ lo ∧ lf ≠ lo ∧
    KpB a S S' ∧ Feed S' a (n + 1) ∧ S' ls = some (.dct kvs) ∧ Stk kvs nm 0 4 ∧ S' lf = some (.lst []) ∧ S' lo = some (.lst [])) ?e1 ?e2
  case e1 =>
    intro K hk
    infer_instance
    refine lc_fn (f := fun x => .tuple [x, .int 0]) (by rw [List.length_map]; have := hm.nlen; omega) (fun x hx T R k0 => ?_) fun T kT => ?_
    · infer_instance
      exact ⟨by omega, k0 T (Kp.refl T)⟩
    · rw [List.map_map]
      have e0 := asPairs_zero nm
      rw [show (nm.map ((fun x => PyData.tuple [x, .int 0]) ∘ PyData.str)) = nm.map (fun x => .tuple [.str x, .int 0]) from rfl, e0]
      dsimp only
      intro ls hls
      refine ⟨by omega, fun lf hlf => ⟨by omega, fun lo hlo => ?_⟩⟩
      have f5 := f4.kp kT
      obtain ⟨c, ec⟩ := f5.some
      have n1 : ls ≠ a := fun q => by rw [q, ec] at hls; cases hls
      have n2 : lf ≠ a := fun q => by rw [q, put_old hls ec] at hlf; cases hlf
      have n3 : lo ≠ a := fun q => by rw [q, put_old hlf (put_old hls ec)] at hlo; cases hlo
      have n4 : ls ≠ lf := fun q => by rw [← q, put_same] at hlf; cases hlf
      have n5 : ls ≠ lo := fun q => by rw [← q, put_old hlf put_same] at hlo; cases hlo
      have n6 : lf ≠ lo := fun q => by rw [← q, put_same] at hlo; cases hlo
      have kk := ((Kp.put hls).trans (Kp.put hlf)).trans (Kp.put (c := .lst []) hlo)
      have z : ∀ q : Addr, q ≠ a → T q = none → S q = none := fun q hq hT => by
        cases e : S q with
        | none => rfl
        | some c => rw [kT _ _ (k4 _ _ hq e)] at hT; cases hT
      refine hk _ _ ⟨ls, lf, lo, _, rfl, z ls n1 hls, z lf n2 (old_none (Kp.put hls) hlf), z lo n3 (old_none ((Kp.put hls).trans (Kp.put hlf)) hlo), n1, n2, n3, n4, n5, n6, k4.trans (KpB.of (kT.trans kk)), f5.kp kk,
        put_old hlo (put_old hlf put_same), ?_, put_old hlo put_same, put_same⟩
      have := merge_zero nm [] 0 (Nat.le_refl _) (fun x hx => by obtain ⟨v, hv⟩ := hx; cases hv) nm (fun x hx => Or.inl hx)
      exact this.mono (Int.le_refl _) (by have := hm.nlen; omega)
  case e2 =>
  rintro rs S5 ⟨ls, lf, lo, kvs0, rfl, z1, z2, z3, n1, n2, n3, n4, n5, n6, k5, f5, es0, hs0, ef0, eo0⟩
  refine ⟨rfl, by omega, ?_⟩
  show dGCons _ _ _ _ S5 _
  infer_instance
  refine ⟨trivial, ?_⟩
  refine ⟨by omega, by omega, ?_⟩
  refine loop_upto (fun k ρ S' => ∃ (u10 u11 u12 u13 u14 u15 u16 : Option Res) (kvs : List (Key × PyData)) (found sold : List PyData),
    ρ = [some (.loc a), some (.dat (.int 4)), some (.loc lm), some (.dat (.tuple sp)), some (.dat (.list (nm.map .str))), none, some (.loc ls), some (.loc lf), some (.loc lo), none, u10, u11, u12, u13, u14, u15, u16] ∧
    (∀ b c, b ≠ a → S b = some c → S' b = some c) ∧ Feed S' a (n + 1 + 10 * k) ∧ S' ls = some (.dct kvs) ∧ Stk kvs nm (10 * k) (4 + 4 * k) ∧
    S' lf = some (.lst found) ∧ found.length ≤ k ∧ (∀ y ∈ found, Sm 1000 500 1 y) ∧ S' lo = some (.lst sold) ∧ sold.length ≤ k ∧
    ∀ y ∈ sold, ∃ s m : Int, y = .tuple [.int s, .int m] ∧ 0 ≤ s ∧ s < 4 ∧ 0 ≤ m ∧ m ≤ 5) ?h1 ?h2 ?h3
  case h3 => exact ⟨_, _, _, _, _, _, _, kvs0, [], [], rfl, k5, f5, es0, hs0, ef0, by simp, by simp, eo0, by simp, by simp⟩
  case h2 =>
    rintro ρ S6 ⟨u10, u11, u12, u13, u14, u15, u16, kvs, found, sold, rfl, k6, f6, es, hs, ef, hfl, hfs, eo, hol, hos⟩
    dsimp only
    infer_instance
    rw [ef]
    dsimp only
    refine ⟨by omega, h sp found S6 (fun y hy => ?_) hm.len (by simpa using hfl) k6 (f6.mono (by simp))⟩
    rcases List.mem_append.mp hy with q | q
    · exact hm.sm y q
    · exact hfs y q
  case h1 =>
    rintro k ρ S6 nx hk ⟨u10, u11, u12, u13, u14, u15, u16, kvs, found, sold, rfl, k6, f6, es, hs, ef, hfl, hfs, eo, hol, hos⟩ hn'
    have hk4 : k < 4 := by simpa using hk
    show dSeq _ _ _ _ S6
    refine' seq_post (fun r S' => ∃ v : Int, r = .dat (.int v) ∧ 0 ≤ v ∧ v < 9 ∧ KpB a S6 S' ∧ Feed S' a (n + 1 + 10 * k + 1)) ?i1 ?i2
    case i1 =>
      intro K hK
      infer_instance
      exact ⟨a, 9, _, rfl, f6, by omega, by omega, by omega, fun v S7 h0 h1 k7 f7 => hK _ _ ⟨v, rfl, h0, h1, k7, f7⟩⟩
    case i2 =>
    rintro r S7 ⟨v, rfl, v0, v1, k7, f7⟩
    have es7 := k7 _ _ n1 es
    refine' seq_post (fun r S' => ∃ ys : List Str, r = .dat (.list (ys.map .str)) ∧ (∀ y ∈ ys, y ∈ nm) ∧ ys.length ≤ 4 ∧ KpB a S6 S' ∧ Feed S' a (n + 1 + 10 * k + 1)) ?j1 ?j2
    case j1 =>
      intro K hK
      infer_instance
      have hcase : ∀ S8, KpB a S6 S8 → Feed S8 a (n + 1 + 10 * k + 1) → K (.dat (.list [])) S8 := fun S8 k8 f8 => hK _ _ ⟨[], rfl, by simp, by simp, k8, f8⟩
      by_cases w1 : 2 < v
      · rw [if_pos (decide_eq_true w1)]
        try infer_instance
        by_cases w2 : v < 8
        · rw [if_pos (decide_eq_true w2)]
          try infer_instance
          refine lc_flt (q := posK kvs) (f := id) (by rw [List.length_map]; have := hm.nlen; omega) (fun x hx T R kT kR => ?_) (fun x hx hq T R kT kR => ?_) fun T kT => ?_
          · obtain ⟨z, hz, rfl⟩ := List.mem_map.mp hx
            infer_instance
            have eT := kT _ _ es7
            obtain ⟨u, eu, _, _⟩ := hs.val z hz
            rw [dictIn_e eT, eu]
            infer_instance
            have := kR T (Kp.refl T)
            unfold posK at this
            dsimp only at this
            rw [eu] at this
            exact this
          · infer_instance
            exact kR T (Kp.refl T)
          · obtain ⟨ys, ey, hy, hl⟩ := flt_names (q := posK kvs) nm
            rw [List.map_id, ey]
            exact hK _ _ ⟨ys, rfl, hy, by have := hm.nlen; omega, k7.trans (KpB.of kT), f7.kp kT⟩
        · rw [if_neg (by rw [decide_eq_false w2]; decide)]
          try infer_instance
          exact ⟨by omega, hcase S7 k7 f7⟩
      · rw [if_neg (by rw [decide_eq_false w1]; decide)]
        try infer_instance
        exact ⟨by omega, hcase S7 k7 f7⟩
    case j2 =>
    rintro r S8 ⟨ys0, rfl, hys0, hyl0, k8, f8⟩
    refine' seq_post (fun r S' => ∃ ys : List Str, r = .dat (.list (ys.map .str)) ∧ (∀ y ∈ ys, y ∈ nm) ∧ ys.length ≤ 4 ∧ ys ≠ [] ∧ KpB a S6 S' ∧ Feed S' a (n + 1 + 10 * k + 1)) ?l1 ?l2
    case l1 =>
      intro K hK
      infer_instance
      refine ⟨by omega, fun q hq => ?_⟩
      refine oEq_deep rfl peek_put rfl (shaped_names fun y hy => hm.asc y (hys0 y hy)) shaped_nil ?_
      have e0 : PyData.eqv (.list (ys0.map .str)) (.list []) = ys0.isEmpty := by
        show PyData.eqvAll _ _ = _
        rw [eqvAll_nil]
        cases ys0 <;> rfl
      rw [e0]
      cases ys0 with
      | nil =>
        simp only [List.isEmpty_nil]
        infer_instance
        exact hK _ _ ⟨nm, rfl, fun y hy => hy, hm.nlen, hm.ne, k8.trans (KpB.of (Kp.put hq)), f8.kp (Kp.put hq)⟩
      | cons y0 ys0 =>
        simp only [List.isEmpty_cons]
        infer_instance
        exact hK _ _ ⟨y0 :: ys0, rfl, hys0, hyl0, by simp, k8.trans (KpB.of (Kp.put hq)), f8.kp (Kp.put hq)⟩
    case l2 =>
    rintro r S9 ⟨ys, rfl, hys, hyl, hyn, k9, f9⟩
    refine' seq_par2 (fun rs S' => ∃ (src : Str) (m : Int), rs = [.dat (.str src), .dat (.int m)] ∧ src ∈ nm ∧ 1 ≤ m ∧ m ≤ 5 ∧ KpB a S6 S' ∧ Feed S' a (n + 1 + 10 * k + 3)) ?m1 ?m2
    case m1 =>
      intro K hK
      infer_instance
      have hy0 : 0 < ys.length := List.length_pos_iff.mpr hyn
      refine ⟨a, ((ys.map PyData.str).length : Nat), _, rfl, f9, by omega, by rw [List.length_map]; omega, by rw [List.length_map]; omega, fun u1 S10 g0 g1 k10 f10 => ?_⟩
      dsimp only
      rw [atN g0 g1]
      rw [List.length_map] at g1
      refine ⟨a, 5, _, rfl, f10, by omega, by omega, by omega, fun u2 S11 g2 g3 k11 f11 => ?_⟩
      refine hK _ _ ⟨ys[u1.toNat]'(by omega), 1 + u2, ?_, hys _ (List.getElem_mem _), by omega, by omega, (k9.trans k10).trans k11, f11⟩
      rw [List.getElem_map]
    case m2 =>
    rintro rs S10 ⟨src, m, rfl, hsrc, m0, m1, k10, f10⟩
    refine ⟨_, _, rfl, ?_⟩
    refine' seq_post (fun r S' => ∃ g : Str, r = .dat (.str g) ∧ g ∈ nm ∧ KpB a S6 S' ∧ Feed S' a (n + 1 + 10 * k + 4)) ?o1 ?o2
    case o1 =>
      intro K hK
      infer_instance
      obtain ⟨j, ej⟩ := find_name hsrc
      have hnl : 0 < nm.length := List.length_pos_iff.mpr hm.ne
      refine ⟨trivial, trivial, all_flat nm, ?_⟩
      rw [ej]
      dsimp only
      refine ⟨a, _, _, rfl, f10, by omega, ?_, ?_, fun u S11 g0 g1 k11 f11 => ?_⟩
      · split <;> omega
      · split
        · have := hm.nlen; rw [List.length_map]; omega
        · omega
      · dsimp only
        have hp : (0 : Int) < ((nm.map PyData.str).length : Nat) := by rw [List.length_map]; omega
        refine ⟨hp, ?_⟩
        have q0 := Int.emod_nonneg ((j : Int) + 1 + u) (Int.ne_of_gt hp)
        have q1 := Int.emod_lt_of_pos ((j : Int) + 1 + u) hp
        rw [atN q0 q1]
        rw [List.length_map] at q1
        refine hK _ _ ⟨nm[(((j : Int) + 1 + u) % ((nm.map PyData.str).length : Nat)).toNat]'(by rw [List.length_map]; omega), ?_, List.getElem_mem _, k10.trans k11, f11⟩
        rw [List.getElem_map]
    case o2 =>
    rintro r S11 ⟨goal, rfl, hgoal, k11, f11⟩
    obtain ⟨w, ew, w0, w1⟩ := hs.val src hsrc
    have es11 := k11 _ _ n1 es
    refine' seq_post (fun r S' => ∃ m' : Int, r = .dat (.int m') ∧ 0 ≤ m' ∧ m' ≤ 5 ∧ (2 < v → m' ≤ w) ∧ KpB a S6 S' ∧ Feed S' a (n + 1 + 10 * k + 4)) ?q1 ?q2
    case q1 =>
      intro K hK
      infer_instance
      by_cases w2 : 2 < v
      · rw [if_pos (decide_eq_true w2)]
        rw [dictIn_e es11, ew]
        infer_instance
        split
        · exact hK _ _ ⟨w, rfl, w0, by omega, fun _ => by omega, k11, f11⟩
        · exact hK _ _ ⟨m, rfl, by omega, by omega, fun _ => by omega, k11, f11⟩
      · rw [if_neg (by rw [decide_eq_false w2]; decide)]
        exact hK _ _ ⟨m, rfl, by omega, by omega, fun h => absurd h w2, k11, f11⟩
    case q2 =>
    rintro r S12 ⟨m', rfl, m'0, m'1, mw, k12, f12⟩
    have es12 := k12 _ _ n1 es
    have ef12 := k12 _ _ n2 ef
    have eo12 := k12 _ _ n3 eo
    have fin : ∀ (S13 : Sto) (kvs' : List (Key × PyData)) (found' sold' : List PyData) (e11 e12 e13 e14 e15 e16 : Option Res), (∀ b c, b ≠ a → b ≠ ls → b ≠ lf → b ≠ lo → S12 b = some c → S13 b = some c) → Feed S13 a (n + 1 + 10 * k + 9) →
        S13 ls = some (.dct kvs') → Stk kvs' nm (10 * (k + 1 : Nat)) (4 + 4 * (k + 1)) → S13 lf = some (.lst found') → found'.length ≤ k + 1 → (∀ y ∈ found', Sm 1000 500 1 y) → S13 lo = some (.lst sold') → sold'.length ≤ k + 1 →
        (∀ y ∈ sold', ∃ s m : Int, y = .tuple [.int s, .int m] ∧ 0 ≤ s ∧ s < 4 ∧ 0 ≤ m ∧ m ≤ 5) →
        nx [some (.loc a), some (.dat (.int 4)), some (.loc lm), some (.dat (.tuple sp)), some (.dat (.list (nm.map .str))), none, some (.loc ls), some (.loc lf), some (.loc lo), none, some (.dat (.int (0 + (k : Int)))), e11, e12, e13, e14, e15, e16] S13 := by
      intro S13 kvs' found' sold' e11 e12 e13 e14 e15 e16 g1 g2 g3 g4 g5 g6 g7 g8 g9 g10
      refine hn' _ _ ⟨_, _, _, _, _, _, _, kvs', found', sold', rfl, fun b c hb e => ?_, g2.mono (by omega), g3, g4, g5, g6, g7, g8, g9, g10⟩
      have b1 : b ≠ ls := fun q => by rw [q, z1] at e; cases e
      have b2 : b ≠ lf := fun q => by rw [q, z2] at e; cases e
      have b3 : b ≠ lo := fun q => by rw [q, z3] at e; cases e
      exact g1 b c hb b1 b2 b3 (k12 b c hb (k6 b c hb e))
    have feed_up : ∀ (S13 : Sto) (j : Nat), Feed S12 a j → S13 a = S12 a → Feed S13 a j := fun S13 j f e => by
      obtain ⟨cs, i, l, c, ef, g⟩ := f
      exact ⟨cs, i, l, c, e.trans ef, g⟩
    have hsm : ∀ y ∈ nm, sm 1000 (.str y) = true ∧ sz (.str y) ≤ 82 := fun y hy => ⟨sm_str.mpr (hm.asc y hy).2, by have := (hm.asc y hy).1; simp only [sz]; omega⟩
    show dIfS _ _ _ _ _ _
    refine ifS_post (fun b S' => Kp S12 S' ∧ (b = true → sold ≠ [])) ?t1 ?t2 ?t3
    case t1 =>
      intro K hK
      infer_instance
      by_cases w8 : v = 8
      · rw [if_pos (decide_eq_true w8)]
        refine ⟨by omega, fun q hq => ?_⟩
        have hsh : SeqAt.shaped (.list sold) = true := shaped_lst_of (fun x hx => by
          obtain ⟨s, m, rfl, _⟩ := hos x hx
          rfl) fun x hx => by
          obtain ⟨s, m, rfl, _⟩ := hos x hx
          show 0 + 1 ≤ 60
          decide
        refine oEq_deep (peek_loc (put_old hq eo12)) peek_put rfl hsh shaped_nil ?_
        have e0 : PyData.eqv (.list sold) (.list []) = sold.isEmpty := by
          show PyData.eqvAll _ _ = _
          rw [eqvAll_nil]
        rw [e0]
        infer_instance
        exact hK _ _ ⟨Kp.put hq, fun h => by cases sold with
          | nil => cases h
          | cons _ _ => simp⟩
      · rw [if_neg (by rw [decide_eq_false w8]; decide)]
        exact hK _ _ ⟨Kp.refl _, fun h => by cases h⟩
    case t2 =>
      rintro S13 ⟨kp13, hso⟩
      have hso := hso rfl
      have hs0 : 0 < sold.length := List.length_pos_iff.mpr hso
      have es13 := kp13 _ _ es12
      have ef13 := kp13 _ _ ef12
      have eo13 := kp13 _ _ eo12
      infer_instance
      rw [eo13]
      dsimp only
      refine ⟨trivial, ?_⟩
      refine ⟨a, (sold.length : Nat), _, rfl, f12.kp kp13, by omega, by omega, by omega, fun u S14 g0 g1 k14 f14 => ?_⟩
      have es14 := k14 _ _ n1 es13
      have ef14 := k14 _ _ n2 ef13
      have eo14 := k14 _ _ n3 eo13
      dsimp only
      rw [eo14]
      dsimp only
      have hix : seqIndex? u sold.length = some u.toNat := by
        unfold seqIndex?
        have h1 : ¬ u < 0 := by omega
        simp only [if_neg h1]
        rw [if_pos (by simp; omega)]
      rw [hix]
      dsimp only
      rw [List.getElem?_eq_getElem (show u.toNat < sold.length by omega)]
      obtain ⟨t, mm, et, t0, t1, mm0, mm1⟩ := hos _ (List.getElem_mem (show u.toNat < sold.length by omega))
      dsimp only
      rw [et]
      refine ⟨by omega, by omega, ?_⟩
      infer_instance
      refine ⟨trivial, ?_⟩
      rw [put_ne (fun q => n6 q), ef14]
      dsimp only
      refine ⟨trivial, trivial, by omega, by omega, ?_⟩
      have e15 : put (put S14 lo (.lst (sold.eraseIdx u.toNat))) lf (.lst (found ++ [.tuple [.str "back", .int t, .str src]])) ls = some (.dct kvs) := by rw [put_ne n4, put_ne n5]; exact es14
      rw [dictIn_e e15, ew]
      dsimp only
      infer_instance
      rw [e15]
      dsimp only
      refine ⟨by have := hs.len; omega, fin _ _ _ _ _ _ _ _ _ _ (fun b c hb b1 b2 b3 e => ?_) ?_ put_same (hs.put (by omega) (by omega) (by omega) (by omega)) (by rw [put_ne (fun q => n4 q.symm), put_same]) (by simp; omega) (fun y hy => ?_) (by rw [put_ne (fun q => n5 q.symm), put_ne (fun q => n6 q.symm), put_same]) (by have := len_erase sold u.toNat; omega) (fun y hy => hos y (List.mem_of_mem_eraseIdx hy))⟩
      · rw [put_ne b1, put_ne b2, put_ne b3]
        exact k14 b c hb (kp13 b c e)
      · obtain ⟨cs, i, l, c, efe, g⟩ := f14
        exact ⟨cs, i, l, c, by rw [put_ne (Ne.symm n1), put_ne (Ne.symm n2), put_ne (Ne.symm n3)]; exact efe, g.1, g.2.1, by omega, g.2.2.2.1, by omega⟩
      · rcases List.mem_append.mp hy with q | q
        · exact hfs y q
        · rw [List.mem_singleton.mp q]
          obtain ⟨c1, c2⟩ := hsm src hsrc
          refine sm_tup (fun z hz => ?_) ?_ (fun z hz => ?_) (by omega)
          · simp only [List.mem_cons, List.not_mem_nil, or_false] at hz
            rcases hz with rfl | rfl | rfl
            · exact sm_str.mpr (by decide +kernel)
            · simp only [sm]; exact decide_eq_true (by omega)
            · exact c1
          · have hl : sz (.str "back") = 42 := by decide +kernel
            simp only [szAll, hl]
            simp only [sz] at c2 ⊢
            omega
          · simp only [List.mem_cons, List.not_mem_nil, or_false] at hz
            rcases hz with rfl | rfl | rfl <;> simp [PyData.depth]
    case t3 =>
      rintro S13 ⟨kp13, _⟩
      have es13 := kp13 _ _ es12
      have ef13 := kp13 _ _ ef12
      have eo13 := kp13 _ _ eo12
      have f13 := f12.kp kp13
      show dIfS _ _ _ _ _ _
      refine ifS_post (fun b S' => S' = S13 ∧ (b = true → 2 < v ∧ 0 < m' ∧ goal ≠ src)) ?s1 ?s2 ?s3
      case s1 =>
        intro K hK
        infer_instance
        refine ⟨by omega, trivial, rfl, ?_⟩
        by_cases w3 : v = 3 ∨ v = 4 ∨ v = 5
        · have ea : ([PyData.int 3, PyData.int 4, PyData.int 5].any fun z => eqF z (PyData.int v)) = true := by
            rcases w3 with rfl | rfl | rfl <;> rfl
          rw [if_pos ea]
          by_cases w4 : 0 < m'
          · rw [if_pos (decide_eq_true w4)]
            by_cases w5 : goal = src
            · rw [decide_eq_true w5]
              exact hK _ _ ⟨rfl, fun h => by cases h⟩
            · rw [decide_eq_false w5]
              exact hK _ _ ⟨rfl, fun _ => ⟨by omega, w4, w5⟩⟩
          · rw [if_neg (by rw [decide_eq_false w4]; decide)]
            exact hK _ _ ⟨rfl, fun h => by cases h⟩
        · have ea : ¬ ([PyData.int 3, PyData.int 4, PyData.int 5].any fun z => eqF z (PyData.int v)) = true := fun h => by
            simp only [List.any_cons, List.any_nil, eqF, Bool.or_false, Bool.or_eq_true, beq_iff_eq] at h
            omega
          rw [if_neg ea]
          exact hK _ _ ⟨rfl, fun h => by cases h⟩
      case s2 =>
        rintro S14 ⟨eS, hb⟩
        rw [eS]
        obtain ⟨w2, w4, w5⟩ := hb rfl
        have mw := mw w2
        obtain ⟨wg, ewg, wg0, wg1⟩ := hs.val goal hgoal
        infer_instance
        rw [ef13]
        dsimp only
        refine ⟨trivial, by omega, by omega, ?_⟩
        have e15 : put S13 lf (.lst (found ++ [.tuple [.str "move", .str src, .str goal, .int m']])) ls = some (.dct kvs) := by rw [put_ne n4]; exact es13
        generalize hS15 : put S13 lf (.lst (found ++ [.tuple [.str "move", .str src, .str goal, .int m']])) = S15 at e15 ⊢
        unfold dParA
        infer_instance
        rw [dictIn_e e15, ew]
        dsimp only
        infer_instance
        rw [dictIn_e e15, ewg]
        dsimp only
        infer_instance
        rw [e15]
        dsimp only
        refine ⟨trivial, by omega, by have := hs.len; omega, ?_⟩
        rw [put_same]
        dsimp only
        rw [put_put]
        have hs1 : Stk (putD kvs (.inr src) (.int (w - m'))) nm (10 * k) (5 + 4 * k) := hs.put (by omega) (by omega) (by omega) (by omega)
        refine ⟨by have := hs1.len; omega, trivial, fin _ _ _ _ _ _ _ _ _ _ (fun b c hb b1 b2 b3 e => ?_) ?_ put_same (hs1.put (by omega) (by omega) (by omega) (by omega)) (by rw [put_ne (fun q => n4 q.symm), ← hS15, put_same]) (by simp; omega) (fun y hy => ?_) (by rw [put_ne (fun q => n5 q.symm), ← hS15, put_ne (fun q => n6 q.symm)]; exact eo13) (by omega) hos⟩
        · rw [put_ne b1, ← hS15, put_ne b2]
          exact kp13 b c e
        · obtain ⟨cs, i, l, c, efe, g⟩ := f13
          exact ⟨cs, i, l, c, by rw [put_ne (Ne.symm n1), ← hS15, put_ne (Ne.symm n2)]; exact efe, g.1, g.2.1, by omega, g.2.2.2.1, by omega⟩
        · rcases List.mem_append.mp hy with q | q
          · exact hfs y q
          · rw [List.mem_singleton.mp q]
            obtain ⟨c1, c2⟩ := hsm src hsrc
            obtain ⟨c3, c4⟩ := hsm goal hgoal
            refine sm_tup (fun z hz => ?_) ?_ (fun z hz => ?_) (by omega)
            · simp only [List.mem_cons, List.not_mem_nil, or_false] at hz
              rcases hz with rfl | rfl | rfl | rfl
              · exact sm_str.mpr (by decide +kernel)
              · exact c1
              · exact c3
              · simp only [sm]; exact decide_eq_true (by omega)
            · have hl : sz (.str "move") = 42 := by decide +kernel
              simp only [szAll, hl]
              simp only [sz] at c2 c4 ⊢
              omega
            · simp only [List.mem_cons, List.not_mem_nil, or_false] at hz
              rcases hz with rfl | rfl | rfl | rfl <;> simp [PyData.depth]
      case s3 =>
        rintro S14 ⟨eS, _⟩
        rw [eS]
        show dIfS _ _ _ _ _ _
        refine ifS_post (fun b S' => S' = S13 ∧ (b = true → 2 < v ∧ 0 < m')) ?r1 ?r2 ?r3
        case r1 =>
          intro K hK
          infer_instance
          refine ⟨by omega, trivial, rfl, ?_⟩
          by_cases w3 : v = 6 ∨ v = 7
          · have ea : ([PyData.int 6, PyData.int 7].any fun z => eqF z (PyData.int v)) = true := by
              rcases w3 with rfl | rfl <;> rfl
            rw [if_pos ea]
            by_cases w4 : 0 < m'
            · rw [decide_eq_true w4]
              exact hK _ _ ⟨rfl, fun _ => ⟨by omega, w4⟩⟩
            · rw [decide_eq_false w4]
              exact hK _ _ ⟨rfl, fun h => by cases h⟩
          · have ea : ¬ ([PyData.int 6, PyData.int 7].any fun z => eqF z (PyData.int v)) = true := fun h => by
              simp only [List.any_cons, List.any_nil, eqF, Bool.or_false, Bool.or_eq_true, beq_iff_eq] at h
              omega
            rw [if_neg ea]
            exact hK _ _ ⟨rfl, fun h => by cases h⟩
        case r2 =>
          rintro S14 ⟨eS, hb⟩
          rw [eS]
          obtain ⟨w2, w4⟩ := hb rfl
          have mw := mw w2
          refine seq_app (l := lf) (acc := found) (fun d => ∃ s : Str, d = .tuple [.str s, .str src, .int m'] ∧ (s = "sell" ∨ s = "waste")) rfl ef13 ?x1 (by omega) ?x2
          case x1 =>
            intro K hK
            infer_instance
            simp only [eo13]
            try infer_instance
            have hz : ∀ s : Str, datas [.dat (.str s), .dat (.str src), .dat (.int m')] = some [.str s, .str src, .int m'] := fun s => rfl
            repeat' split
            all_goals first
              | exact ⟨by omega, hK _ ⟨_, rfl, Or.inl rfl⟩⟩
              | exact ⟨by omega, hK _ ⟨_, rfl, Or.inr rfl⟩⟩
              | skip
          case x2 =>
            rintro _ ⟨s, rfl, hsw⟩
            have hrow : Sm 1000 500 1 (.tuple [.str s, .str src, .int m']) := by
              obtain ⟨c1, c2⟩ := hsm src hsrc
              have c3 : sm 1000 (.str s) = true ∧ sz (.str s) ≤ 52 := by
                rcases hsw with rfl | rfl <;> exact ⟨sm_str.mpr (by decide +kernel), by decide +kernel⟩
              refine sm_tup (fun z hz => ?_) ?_ (fun z hz => ?_) (by omega)
              · simp only [List.mem_cons, List.not_mem_nil, or_false] at hz
                rcases hz with rfl | rfl | rfl
                · exact c3.1
                · exact c1
                · simp only [sm]; exact decide_eq_true (by omega)
              · have c4 := c3.2
                simp only [szAll]
                simp only [sz] at c2 c4 ⊢
                omega
              · simp only [List.mem_cons, List.not_mem_nil, or_false] at hz
                rcases hz with rfl | rfl | rfl <;> simp [PyData.depth]
            generalize hS15 : put S13 lf (.lst (found ++ [.tuple [.str s, .str src, .int m']])) = S15
            have es15 : S15 ls = some (.dct kvs) := by rw [← hS15, put_ne n4]; exact es13
            have eo15 : S15 lo = some (.lst sold) := by rw [← hS15, put_ne (Ne.symm n6)]; exact eo13
            have ef15 : S15 lf = some (.lst (found ++ [.tuple [.str s, .str src, .int m']])) := by rw [← hS15, put_same]
            have k15 : ∀ b c, b ≠ lf → S13 b = some c → S15 b = some c := fun b c hb e => by rw [← hS15, put_ne hb]; exact e
            have f15 : Feed S15 a (n + 1 + 10 * k + 4) := by
              obtain ⟨cs, i, l, c, efe, g⟩ := f13
              exact ⟨cs, i, l, c, k15 _ _ (Ne.symm n2) efe, g⟩
            have close : ∀ (p : Addr) (L : List PyData), S15 p = none → L.length ≤ 1 → (∀ y ∈ L, ∃ s m : Int, y = .tuple [.int s, .int m] ∧ 0 ≤ s ∧ s < 4 ∧ 0 ≤ m ∧ m ≤ 5) → ∀ e11 e12 e13 e14 e15 e16 : Option Res,
                nx [some (.loc a), some (.dat (.int 4)), some (.loc lm), some (.dat (.tuple sp)), some (.dat (.list (nm.map .str))), none, some (.loc ls), some (.loc lf), some (.loc lo), none, some (.dat (.int (0 + (k : Int)))), e11, e12, e13, e14, e15, e16]
                  (put (put (put S15 p (.lst L)) lo (.lst (sold ++ L))) ls (.dct (putD kvs (.inr src) (.int (w - m'))))) := by
              intro p L hp hL1 hL e11 e12 e13 e14 e15 e16
              refine fin _ _ _ _ _ _ _ _ _ _ (fun b c hb b1 b2 b3 e => ?_) ?_ put_same (hs.put (by omega) (by omega) (by omega) (by omega)) (by rw [put_ne (Ne.symm n4), put_ne n6]; exact put_old hp ef15) (by simp; omega) (fun y hy => ?_) (by rw [put_ne (Ne.symm n5), put_same]) (by rw [List.length_append]; omega) (fun y hy => ?_)
              · rw [put_ne b1, put_ne b3]
                exact put_old hp (k15 b c b2 (kp13 b c e))
              · obtain ⟨cs, i, l, c, efe, g⟩ := f15
                exact ⟨cs, i, l, c, by rw [put_ne (Ne.symm n1), put_ne (Ne.symm n3)]; exact put_old hp efe, g.1, g.2.1, by omega, g.2.2.2.1, by omega⟩
              · rcases List.mem_append.mp hy with q | q
                · exact hfs y q
                · rw [List.mem_singleton.mp q]; exact hrow
              · rcases List.mem_append.mp hy with q | q
                · exact hos y q
                · exact hL y q
            infer_instance
            simp only [eo15, ef15]
            rw [at_last]
            infer_instance
            refine ⟨trivial, ?_⟩
            rcases hsw with rfl | rfl
            · rw [if_pos (by decide +kernel)]
              refine ⟨by omega, by omega, fun p hp => ?_⟩
              simp only [put_old hp eo15, put_same]
              refine ⟨by simp; omega, ?_⟩
              have e16 : put (put S15 p (.lst [.tuple [.int (0 + (k : Int)), .int m']])) lo (.lst (sold ++ [.tuple [.int (0 + (k : Int)), .int m']])) ls = some (.dct kvs) := by rw [put_ne n5]; exact put_old hp es15
              rw [dictIn_e e16, ew]
              infer_instance
              rw [e16]
              dsimp only
              exact ⟨by have := hs.len; omega, close p [.tuple [.int (0 + (k : Int)), .int m']] hp (by simp) (fun y hy => by rw [List.mem_singleton.mp hy]; exact ⟨_, _, rfl, by omega, by omega, by omega, by omega⟩) _ _ _ _ _ _⟩
            · rw [if_neg (by decide +kernel)]
              refine ⟨by omega, fun p hp => ?_⟩
              simp only [put_old hp eo15, put_same]
              refine ⟨by simp; omega, ?_⟩
              have e16 : put (put S15 p (.lst [])) lo (.lst (sold ++ [])) ls = some (.dct kvs) := by rw [put_ne n5]; exact put_old hp es15
              rw [dictIn_e e16, ew]
              have hc := close p [] hp (by simp) (by simp)
              rw [List.append_nil] at e16 hc
              infer_instance
              rw [e16]
              dsimp only
              exact ⟨by have := hs.len; omega, hc _ _ _ _ _ _⟩
        case r3 =>
          rintro S14 ⟨eS, _⟩
          rw [eS]
          infer_instance
          have hmax : ∃ m2 : Int, (if m' > 1 then m' else 1) = m2 ∧ 1 ≤ m2 ∧ m2 ≤ 5 := by
            by_cases h1 : m' > 1
            · exact ⟨m', if_pos h1, by omega, by omega⟩
            · exact ⟨1, if_neg h1, by omega, by omega⟩
          obtain ⟨m2, em2, m20, m21⟩ := hmax
          rw [em2]
          rw [ef13]
          dsimp only
          refine ⟨trivial, by omega, fun p hp => ?_⟩
          have k14 : Kp S13 (put S13 p (.lst [.str "ash", .str "b", .str "come", .str "zz"])) := Kp.put hp
          have e14 : put S13 p (.lst [.str "ash", .str "b", .str "come", .str "zz"]) p = some (.lst [.str "ash", .str "b", .str "come", .str "zz"]) := put_same
          have hpa : p ≠ a := fun q => by
            obtain ⟨c, ec⟩ := f13.some
            rw [q, ec] at hp; cases hp
          refine ⟨a, 4, _, rfl, f13.kp k14, by omega, by omega, by omega, fun u S15 g0 g1 k15 f15 => ?_⟩
          have ep15 := k15 p _ hpa e14
          have es15 := k15 _ _ n1 (k14 _ _ es13)
          have ef15 := k15 _ _ n2 (k14 _ _ ef13)
          have eo15 := k15 _ _ n3 (k14 _ _ eo13)
          dsimp only
          rw [ep15]
          dsimp only
          obtain ⟨y, hy⟩ : ∃ y, atI [PyData.str "ash", .str "b", .str "come", .str "zz"] u = some y := ⟨_, atN g0 (by exact g1)⟩
          have hym : sm 1000 y = true ∧ sz y ≤ 42 ∧ y.depth = 0 := by
            have := at_mem hy
            simp only [List.mem_cons, List.not_mem_nil, or_false] at this
            rcases this with rfl | rfl | rfl | rfl <;> exact ⟨by decide +kernel, by decide +kernel, rfl⟩
          rw [hy]
          dsimp only
          rw [ef15]
          dsimp only
          refine ⟨by omega, by omega, ?_⟩
          have e16 : put S15 lf (.lst (found ++ [.tuple [.str "come", .str src, y, .int m2]])) ls = some (.dct kvs) := by rw [put_ne n4]; exact es15
          rw [dictIn_e e16, ew]
          infer_instance
          rw [e16]
          dsimp only
          refine ⟨by have := hs.len; omega, fin _ _ _ _ _ _ _ _ _ _ (fun b c hb b1 b2 b3 e => ?_) ?_ put_same (hs.put (by omega) (by omega) (by omega) (by omega)) (by rw [put_ne (Ne.symm n4), put_same]) (by simp; omega) (fun z hz => ?_) (by rw [put_ne (Ne.symm n5), put_ne (Ne.symm n6)]; exact eo15) (by omega) hos⟩
          · rw [put_ne b1, put_ne b2]
            exact k15 b c hb (k14 b c (kp13 b c e))
          · obtain ⟨cs, i, l, c, efe, g⟩ := f15
            exact ⟨cs, i, l, c, by rw [put_ne (Ne.symm n1), put_ne (Ne.symm n2)]; exact efe, g.1, g.2.1, by omega, g.2.2.2.1, by omega⟩
          · rcases List.mem_append.mp hz with q | q
            · exact hfs z q
            · rw [List.mem_singleton.mp q]
              obtain ⟨c1, c2⟩ := hsm src hsrc
              refine sm_tup (fun z hz => ?_) ?_ (fun z hz => ?_) (by omega)
              · simp only [List.mem_cons, List.not_mem_nil, or_false] at hz
                rcases hz with rfl | rfl | rfl | rfl
                · exact sm_str.mpr (by decide +kernel)
                · exact c1
                · exact hym.1
                · simp only [sm]; exact decide_eq_true (by omega)
              · have hl : sz (.str "come") = 42 := by decide +kernel
                have hy2 := hym.2.1
                simp only [szAll, hl]
                simp only [sz] at c2 ⊢
                omega
              · simp only [List.mem_cons, List.not_mem_nil, or_false] at hz
                rcases hz with rfl | rfl | rfl | rfl
                · simp [PyData.depth]
                · simp [PyData.depth]
                · rw [hym.2.2]; decide
                · simp [PyData.depth]

theorem ok__law_notes (T : Tx K mg w a) (G__law_draw : FnG P w K mg base 1 a.f__law_draw a.fd__law_draw ["_law_feed_here", "_law_many"] (lift K 2 d__law_draw)) : FnG P w K mg base 2 a.f__law_notes a.fd__law_notes ["_law_feed_here", "_law_sheet"] (lift K 2 d__law_notes) := by
  refine def_ok T.h__law_notes.fn sc__law_notes (fun cdv A outer s H hr hG => ⟨_, (sb_cons (ss_par (i := 2) (j := 3) rfl sc__law_notes.nd (sa_cons (se_lrange rfl T.z_list T.z_range (se_cb sc_len T.z_len (by decide +kernel) (sa_cons (se_ix sx_seq (se_var 1) se_int) sa_nil))) (sa_cons (se_lstS sa_nil) sa_nil)))
    (sb_cons (ss_for PassesOwn.never rfl (si_rng1 (by rfl) T.z_range (sa_cons (se_cl G__law_draw T.h__law_draw (hr.mono (by omega)) hG (sa_cons (se_var 0) (sa_cons se_int sa_nil)) (by intro ρ S P h; simp only [dCons, dNil, List.length_cons, List.length_nil, Nat.zero_add, Nat.reduceAdd, true_and] at h ⊢; exact h)) sa_nil)) (sg_name (i := 4) sc__law_notes.nd)
    (sb_one (ss_if (st_cmp (so_ne (u64_of hr)) (se_var 2) (se_lstS sa_nil)) (sb_one (ss_expr (se_m PySem.F.plainAttrs_list PySem.F.slot_list_append PySem.F.type_list_append sm_append (se_var 3) (sa_cons (se_tup (sa_cons (se_ix sx_seq (se_lstS (sa_cons se_str (sa_cons se_str sa_nil))) (se_cl G__law_draw T.h__law_draw (hr.mono (by omega)) hG (sa_cons (se_var 0) (sa_cons se_int sa_nil)) (by intro ρ S P h; simp only [dCons, dNil, List.length_cons, List.length_nil, Nat.zero_add, Nat.reduceAdd, true_and] at h ⊢; exact h))) (sa_cons (se_m PySem.F.plainAttrs_list PySem.F.slot_list_pop PySem.F.type_list_pop sm_popAt (se_var 2) (sa_cons (se_cl G__law_draw T.h__law_draw (hr.mono (by omega)) hG (sa_cons (se_var 0) (sa_cons (se_cb sc_len T.z_len (by decide +kernel) (sa_cons (se_var 2) sa_nil)) sa_nil)) (by intro ρ S P h; simp only [dCons, dNil, List.length_cons, List.length_nil, Nat.zero_add, Nat.reduceAdd, true_and] at h ⊢; exact h)) sa_nil)) sa_nil))) sa_nil)))) sb_nil)))
    (sb_one (ss_ret (se_ct sc_tuple T.z_tuple (by decide +kernel) (sa_cons (se_cb (sc_sorted (un_of hr)) T.z_sorted (by decide +kernel) (sa_cons (se_var 3) sa_nil)) sa_nil))))))⟩) (fun rs S P hl h => ?_)
  obtain ⟨a, sp, rows, n, rfl, hr, hf, hn, h⟩ := h
  have hpar : ∀ (D : DEnds) (ρ : Vrs), ρ = [some (.loc a), some (.dat (.tuple [.tuple sp, .tuple rows])), none, none, none] → (∀ l1 l2 S1, S l1 = none → S l2 = none → l1 ≠ a → l2 ≠ a → l1 ≠ l2 → KpB a S S1 → Feed S1 a n → S1 l1 = some (.lst (rngD 0 (rows.length : Int))) → S1 l2 = some (.lst []) → D.nx [some (.loc a), some (.dat (.tuple [.tuple sp, .tuple rows])), some (.loc l1), some (.loc l2), none] S1) →
      dPar 2 3 (dCons (dLRange (dCons (dCB cLen (dCons (dOp oIx (dVar 1) (dC (.int 1))) dNil)) dNil)) (dCons (dLstS dNil) dNil)) D ρ S := by
    rintro D ρ rfl hD
    infer_instance
    simp only [dLRange]
    infer_instance
    refine ⟨by omega, by omega, fun l1 h1 => ⟨by omega, fun l2 h2 => ?_⟩⟩
    obtain ⟨c, ec⟩ := hf.some
    have n1 : l1 ≠ a := fun q => by rw [q, ec] at h1; cases h1
    have n2 : l2 ≠ a := fun q => by rw [q, put_old h1 ec] at h2; cases h2
    have n3 : l1 ≠ l2 := fun q => by rw [← q, put_same] at h2; cases h2
    exact hD l1 l2 _ h1 (old_none (Kp.put h1) h2) n1 n2 n3 (KpB.of ((Kp.put h1).trans (Kp.put h2))) (hf.kp ((Kp.put h1).trans (Kp.put h2))) (put_old h2 put_same) put_same
  refine hpar _ _ rfl fun l1 l2 S1 z1 z2 n1 n2 n3 k1 f1 e1 e2 => ?_
  dsimp only
  infer_instance
  refine ⟨a, 4, n, rfl, f1, by omega, by omega, by omega, fun v S2 h0 h1 k2 f2 => ?_⟩
  dsimp only
  refine ⟨by omega, by omega, ?_⟩
  refine loop_upto (fun k ρ S' => ∃ (u : Option Res) (pool : List Int) (found : List PyData), ρ = [some (.loc a), some (.dat (.tuple [.tuple sp, .tuple rows])), some (.loc l1), some (.loc l2), u] ∧ (∀ b c, b ≠ a → S b = some c → S' b = some c) ∧ Feed S' a (n + 1 + 2 * k) ∧
    S' l1 = some (.lst (pool.map .int)) ∧ pool.length ≤ 4 ∧ (∀ i ∈ pool, 0 ≤ i ∧ i < 4) ∧ S' l2 = some (.lst found) ∧ found.length ≤ k ∧ ∀ y ∈ found, ∃ (w : Str) (i : Int), y = .tuple [.str w, .int i] ∧ (w = "bad" ∨ w = "clean") ∧ 0 ≤ i ∧ i < 4) ?g1 ?g2 ?g3
  case g3 =>
    refine ⟨_, (List.range rows.length).map (fun i : Nat => (i : Int)), [], rfl, fun b c hb e => k2 b c hb (k1 b c hb e), f2, ?_, by simpa using hr, ?_, k2 _ _ n2 e2, Nat.le_refl _, by simp⟩
    · rw [k2 _ _ n1 e1]
      congr 2
      simp [rngD]
    · intro i hi
      obtain ⟨j, hj, rfl⟩ := List.mem_map.mp hi
      have := List.mem_range.mp hj
      omega
  case g2 =>
    rintro ρ S3 ⟨u, pool, found, rfl, k3, f3, e3, _, _, e4, hl4, hf4⟩
    dsimp only
    infer_instance
    simp only [e4]
    have hlen : found.length ≤ 4 := by
      rename_i hlf _
      have : found.length ≤ v.toNat := by assumption
      omega
    refine ⟨lay_of fun y hy => ?_, fun d hd d' hd' => ?_, Or.inl fun d hd => ?_, fun d hd => ?_, fun p hp => ?_⟩
    · obtain ⟨w, i, rfl, hw, _⟩ := hf4 y hy
      rcases hw with rfl | rfl
      · simp only [PyData.canLay0, PyData.canLayAll0, Bool.and_true]; decide +kernel
      · simp only [PyData.canLay0, PyData.canLayAll0, Bool.and_true]; decide +kernel
    · obtain ⟨w, i, rfl, _⟩ := hf4 d hd
      obtain ⟨w', i', rfl, _⟩ := hf4 d' hd'
      rfl
    · obtain ⟨w, i, rfl, _⟩ := hf4 d hd
      exact ⟨_, _, rfl⟩
    · obtain ⟨w, i, rfl, _⟩ := hf4 d hd
      show 0 + 1 ≤ 100
      decide
    · rw [put_same]
      dsimp only [Option.bind, itemsOf]
      have hperm : (sortD found).Perm found := List.mergeSort_perm _ _
      refine h _ _ (fun y hy => ?_) (by rw [hperm.length_eq]; exact hlen) (fun b c hb e => Kp.put hp _ _ (k3 b c hb e)) ((f3.kp (Kp.put hp)).mono (by omega))
      obtain ⟨w, i, rfl, hw, hi0, hi1⟩ := hf4 y (hperm.mem_iff.mp hy)
      refine sm_tup (fun z hz => ?_) ?_ (fun z hz => ?_) (by omega)
      · simp only [List.mem_cons, List.not_mem_nil, or_false] at hz
        rcases hz with rfl | rfl
        · rcases hw with rfl | rfl <;> exact sm_str.mpr (by decide +kernel)
        · simp only [sm]; exact decide_eq_true (by omega)
      · have hl : w.length ≤ 5 := by rcases hw with rfl | rfl <;> decide +kernel
        simp only [szAll, sz]
        omega
      · simp only [List.mem_cons, List.not_mem_nil, or_false] at hz
        rcases hz with rfl | rfl <;> simp [PyData.depth]
  case g1 =>
    rintro k ρ S3 nx hk ⟨u, pool, found, rfl, k3, f3, e3, hpl, hp3, e4, hl4, hf4⟩ hn'
    have hk4 : k < 4 := by omega
    have hpos : ∀ (T : Sto) (q : Addr), Kp S3 T → T q = none → q ≠ a ∧ q ≠ l1 ∧ q ≠ l2 := by
      intro T q hT hq
      refine ⟨?_, ?_, ?_⟩
      · intro z; obtain ⟨c, ec⟩ := f3.some; rw [z, hT _ _ ec] at hq; cases hq
      · intro z; rw [z, hT _ _ e3] at hq; cases hq
      · intro z; rw [z, hT _ _ e4] at hq; cases hq
    infer_instance
    refine ⟨by omega, fun q hq => ?_⟩
    obtain ⟨q1, q2, q3⟩ := hpos S3 q (Kp.refl _) hq
    refine oEq_deep (peek_loc (put_old hq e3)) peek_put rfl (shaped_ints pool) shaped_nil ?_
    have kq : Kp S3 (put S3 q (.lst [])) := Kp.put hq
    have e0 : PyData.eqv (.list (pool.map .int)) (.list []) = pool.isEmpty := by
      show PyData.eqvAll _ _ = _
      rw [eqvAll_nil]
      cases pool <;> rfl
    rw [e0]
    by_cases hpe : pool = []
    · subst hpe
      simp only [List.isEmpty_nil]
      infer_instance
      exact hn' _ _ ⟨_, [], found, rfl, fun b c hb e => kq _ _ (k3 b c hb e), (f3.kp kq).mono (by omega), kq _ _ e3, by simp, by simp, kq _ _ e4, by omega, hf4⟩
    · have he : pool.isEmpty = false := by cases pool with
        | nil => exact absurd rfl hpe
        | cons _ _ => rfl
      rw [he]
      infer_instance
      rw [kq _ _ e4]
      dsimp only
      refine ⟨trivial, by omega, fun p hp => ?_⟩
      have kp : Kp S3 (put (put S3 q (.lst [])) p (.lst [.str "bad", .str "clean"])) := kq.trans (Kp.put hp)
      obtain ⟨p1, p2, p3⟩ := hpos _ p kq hp
      refine ⟨a, 2, _, rfl, f3.kp kp, by omega, by omega, by omega, fun v1 S4 g0 g1 k4 f4 => ?_⟩
      dsimp only
      rw [k4 p _ p1 put_same]
      dsimp only
      obtain ⟨y, hy⟩ : ∃ y, atI [PyData.str "bad", .str "clean"] v1 = some y := ⟨_, atN g0 (by exact g1)⟩
      have hym := at_mem hy
      rw [hy]
      dsimp only
      have e5 : S4 l1 = some (.lst (pool.map .int)) := k4 _ _ n1 (kp _ _ e3)
      have e6 : S4 l2 = some (.lst found) := k4 _ _ n2 (kp _ _ e4)
      rw [e5]
      dsimp only
      refine ⟨trivial, ?_⟩
      have hpl0 : 0 < pool.length := List.length_pos_iff.mpr hpe
      refine ⟨a, ((pool.map PyData.int).length : Nat), _, rfl, f4, by omega, by rw [List.length_map]; omega, by rw [List.length_map]; omega, fun v2 S5 i0 i1 k5 f5 => ?_⟩
      rw [List.length_map] at i1
      have e7 : S5 l1 = some (.lst (pool.map .int)) := k5 _ _ n1 e5
      have e8 : S5 l2 = some (.lst found) := k5 _ _ n2 e6
      dsimp only
      rw [e7]
      dsimp only
      have hix : seqIndex? v2 (pool.map PyData.int).length = some v2.toNat := by
        unfold seqIndex?
        rw [List.length_map]
        have h1 : ¬ v2 < 0 := by omega
        simp only [if_neg h1]
        rw [if_pos (by simp; omega)]
      rw [hix]
      dsimp only
      have hg : (pool.map PyData.int)[v2.toNat]? = some (.int (pool[v2.toNat]'(by omega))) := by
        rw [List.getElem?_map, List.getElem?_eq_getElem (by omega)]; rfl
      rw [hg]
      dsimp only
      refine ⟨by omega, by omega, by omega, ?_⟩
      rw [put_ne (Ne.symm n3), e8]
      dsimp only
      have hx := hp3 _ (List.getElem_mem (l := pool) (n := v2.toNat) (by omega))
      refine ⟨by omega, hn' _ _ ⟨_, pool.eraseIdx v2.toNat, _, rfl, fun b c hb e => ?_, ?_, ?_, Nat.le_trans (len_erase pool _) hpl, fun i hi => hp3 i (List.mem_of_mem_eraseIdx hi), put_same, by rw [List.length_append, List.length_singleton]; omega, ?_⟩⟩
      · have b1 : b ≠ l1 := fun z => by rw [z, z1] at e; cases e
        have b2 : b ≠ l2 := fun z => by rw [z, z2] at e; cases e
        rw [put_ne b2, put_ne b1]
        exact k5 b c hb (k4 b c hb (kp _ _ (k3 b c hb e)))
      · obtain ⟨cs, i', l', c, ef, g1, g2, g3, g4, g5⟩ := f5
        exact ⟨cs, i', l', c, by rw [put_ne (Ne.symm n2), put_ne (Ne.symm n1)]; exact ef, g1, g2, by omega, g4, by omega⟩
      · rw [put_ne n3, put_same]
        congr 2
        exact eraseIdx_mp _ _ _
      · intro z hz
        rcases List.mem_append.mp hz with q | q
        · exact hf4 z q
        · rw [List.mem_singleton.mp q]
          simp only [List.mem_cons, List.not_mem_nil, or_false] at hym
          rcases hym with rfl | rfl
          · exact ⟨_, _, rfl, Or.inl rfl, hx.1, hx.2⟩
          · exact ⟨_, _, rfl, Or.inr rfl, hx.1, hx.2⟩

theorem ok__law_case (T : Tx K mg w a) (G__law_book : FnG P w K mg base 2 a.f__law_book a.fd__law_book ["_law_feed_here", "_law_size"] (lift K 2 d__law_book)) (G__law_draw : FnG P w K mg base 1 a.f__law_draw a.fd__law_draw ["_law_feed_here", "_law_many"] (lift K 2 d__law_draw)) (G__law_notes : FnG P w K mg base 2 a.f__law_notes a.fd__law_notes ["_law_feed_here", "_law_sheet"] (lift K 2 d__law_notes)) : FnG P w K mg base 3 a.f__law_case a.fd__law_case ["_law_feed_here", "_law_size"] (lift K 2 d__law_case) := by
  refine def_ok T.h__law_case.fn sc__law_case (fun cdv A outer s H hr hG => ⟨_, (sb_cons (ss_set (i := 2) sc__law_case.nd (se_cl G__law_book T.h__law_book (hr.mono (by omega)) hG (sa_cons (se_var 0) (sa_cons (se_var 1) sa_nil)) (by intro ρ S P h; simp only [dCons, dNil, List.length_cons, List.length_nil, Nat.zero_add, Nat.reduceAdd, true_and] at h ⊢; exact h)))
    (sb_cons (ss_set (i := 3) sc__law_case.nd (se_ix sx_seq (se_lstS (sa_cons (se_tup sa_nil) (sa_cons (se_tup (sa_cons se_str sa_nil)) (sa_cons (se_tup (sa_cons se_str (sa_cons se_str sa_nil))) (sa_cons (se_tup (sa_cons se_str (sa_cons se_str (sa_cons se_str sa_nil)))) (sa_cons (se_tup (sa_cons se_str sa_nil)) sa_nil)))))) (se_cl G__law_draw T.h__law_draw (hr.mono (by omega)) hG (sa_cons (se_var 0) (sa_cons se_int sa_nil)) (by intro ρ S P h; simp only [dCons, dNil, List.length_cons, List.length_nil, Nat.zero_add, Nat.reduceAdd, true_and] at h ⊢; exact h))))
    (sb_one (ss_ret (se_tup (sa_cons (se_var 2) (sa_cons (se_cl G__law_notes T.h__law_notes (hr.mono (by omega)) hG (sa_cons (se_var 0) (sa_cons (se_var 2) sa_nil)) (by intro ρ S P h; simp only [dCons, dNil, List.length_cons, List.length_nil, Nat.zero_add, Nat.reduceAdd, true_and] at h ⊢; exact h)) (sa_cons (se_var 3) (sa_cons (se_cl G__law_draw T.h__law_draw (hr.mono (by omega)) hG (sa_cons (se_var 0) (sa_cons se_int sa_nil)) (by intro ρ S P h; simp only [dCons, dNil, List.length_cons, List.length_nil, Nat.zero_add, Nat.reduceAdd, true_and] at h ⊢; exact h)) sa_nil)))))))))⟩) (fun rs S P hl h => ?_)
  obtain ⟨a, n, rfl, hf, hn, h⟩ := h
  infer_instance
  refine ⟨a, n, rfl, hf, by omega, fun sp rows S1 hg hs hr k1 f1 => ?_⟩
  infer_instance
  refine ⟨by omega, by omega, by omega, by omega, by omega, by omega, fun p hp => ?_⟩
  have hpa : p ≠ a := fun q => by
    obtain ⟨c, ec⟩ := f1.some
    rw [q, ec] at hp; cases hp
  refine ⟨a, 5, _, rfl, f1.kp (Kp.put hp), by omega, by omega, by omega, fun v S2 h0 h1 k2 f2 => ?_⟩
  have e2 := k2 p _ hpa put_same
  dsimp only
  rw [e2]
  dsimp only
  obtain ⟨y, hy⟩ : ∃ y, atI [PyData.tuple [], .tuple [.str "ash"], .tuple [.str "ash", .str "b"], .tuple [.str "b", .str "come", .str "zz"], .tuple [.str "nobody"]] v = some y := ⟨_, atN h0 (by exact h1)⟩
  rw [hy]
  refine ⟨a, sp, rows, _, rfl, hr, f2, by omega, fun nts S3 hg3 hn3 k3 f3 => ?_⟩
  refine ⟨a, 4, _, rfl, f3, by omega, by omega, by omega, fun v4 S4 g0 g1 k4 f4 => ?_⟩
  simp only [datas, Option.map_some]
  refine ⟨by simp, ?_⟩
  refine h sp rows nts y _ S4 (fun z hz => ?_) (by simp only [List.length_append]; omega) ((((k1.trans (KpB.of (Kp.put hp))).trans k2).trans k3).trans k4) (f4.mono (by omega))
  rcases List.mem_append.mp hz with q | q
  · exact (hg z q).mono (by omega) (by omega) (by omega)
  · exact (hg3 z q).mono (by omega) (by omega) (by omega)

theorem ok__law_odd (T : Tx K mg w a) (G__law_draw : FnG P w K mg base 1 a.f__law_draw a.fd__law_draw ["_law_feed_here", "_law_many"] (lift K 2 d__law_draw)) : FnG P w K mg base 2 a.f__law_odd a.fd__law_odd ["_law_feed_here"] (lift K 1 d__law_odd) := by
  refine def_ok T.h__law_odd.fn sc__law_odd (fun cdv A outer s H hr hG => ⟨_, (sb_cons (ss_set (i := 1) sc__law_odd.nd (se_lst (sa_cons se_non (sa_cons se_bl (sa_cons se_bl (sa_cons se_int (sa_cons (se_un su_neg se_int) (sa_cons se_int (sa_cons se_str (sa_cons se_str (sa_cons se_str (sa_cons se_str (sa_cons (se_tup sa_nil) (sa_cons (se_lst sa_nil) (sa_cons (se_tup (sa_cons se_str (sa_cons se_int sa_nil))) (sa_cons (se_tup (sa_cons se_str (sa_cons se_str (sa_cons se_int sa_nil)))) (sa_cons se_int (sa_cons (se_tup (sa_cons se_str sa_nil)) sa_nil))))))))))))))))))
    (sb_one (ss_ret (se_ix sx_seq (se_var 1) (se_cl G__law_draw T.h__law_draw (hr.mono (by omega)) hG (sa_cons (se_var 0) (sa_cons se_int sa_nil)) (by intro ρ S P h; simp only [dCons, dNil, List.length_cons, List.length_nil, Nat.zero_add, Nat.reduceAdd, true_and] at h ⊢; exact h))))))⟩) (fun rs S P hl h => ?_)
  obtain ⟨a, n, rfl, hf, hn, h⟩ := h
  infer_instance
  refine ⟨by omega, by omega, by omega, by omega, by omega, by omega, ?_⟩
  refine ⟨a, 16, n, rfl, hf, by omega, by omega, by omega, fun v S' h0 h1 k1 f1 => ?_⟩
  dsimp only
  obtain ⟨y, hy⟩ : ∃ y, atI [PyData.none, .bool true, .bool false, .int 0, .int (-1), .int 1, .str "", .str "tank", .str "ash", .str "bad", .tuple [], .list [], .tuple [.str "bad", .int 0], .tuple [.str "sell", .str "tank", .int 1], .int 5, .tuple [.str "a"]] v = some y := ⟨_, atN h0 (by exact h1)⟩
  rw [hy]
  have hm := at_mem hy
  refine h y S' ?_ k1 f1
  have : ∀ z ∈ [PyData.none, .bool true, .bool false, .int 0, .int (-1), .int 1, .str "", .str "tank", .str "ash", .str "bad", .tuple [], .list [], .tuple [.str "bad", .int 0], .tuple [.str "sell", .str "tank", .int 1], .int 5, .tuple [.str "a"]], (sm 5 z && decide (sz z ≤ 1000) && decide (z.depth ≤ 1)) = true := by
    rw [← List.all_eq_true]
    decide +kernel
  have := this y hm
  rw [Bool.and_eq_true, Bool.and_eq_true] at this
  exact ⟨this.1.1, of_decide_eq_true this.1.2, of_decide_eq_true this.2⟩

theorem st__law_bent (T : Tx K mg w a) (G__law_draw : FnG P w K mg base 1 a.f__law_draw a.fd__law_draw ["_law_feed_here", "_law_many"] (lift K 2 d__law_draw)) (G__law_odd : FnG P w K mg base 2 a.f__law_odd a.fd__law_odd ["_law_feed_here"] (lift K 1 d__law_odd)) {k j : Nat} (hj : 2 ≤ j) (G__law_bent : FnG P w K mg base j a.f__law_bent a.fd__law_bent ["_law_feed_here", "_law_item"] (lift K 2 (r__law_bent k))) : FnG P w K mg base (j + 1) a.f__law_bent a.fd__law_bent ["_law_feed_here", "_law_item"] (lift K 2 (r__law_bent (k + 1))) := by
  refine def_ok T.h__law_bent.fn sc__law_bent (fun cdv A outer s H hr hG => ⟨_, (sb_cons (ss_if (sw_and (st_val (se_isi (T := "tuple") (se_var 1) T.z_isinstance T.z_tuple)) (sw_and (st_cmp (so_ne (u64_of hr)) (se_var 1) (se_tup sa_nil)) (sw_and1 (st_cmp so_gt (se_cl G__law_draw T.h__law_draw (hr.mono (by omega)) hG (sa_cons (se_var 0) (sa_cons se_int sa_nil)) (by intro ρ S P h; simp only [dCons, dNil, List.length_cons, List.length_nil, Nat.zero_add, Nat.reduceAdd, true_and] at h ⊢; exact h)) se_int)))).st (sb_cons (ss_set (i := 2) sc__law_bent.nd (se_cl G__law_draw T.h__law_draw (hr.mono (by omega)) hG (sa_cons (se_var 0) (sa_cons (se_cb sc_len T.z_len (by decide +kernel) (sa_cons (se_var 1) sa_nil)) sa_nil)) (by intro ρ S P h; simp only [dCons, dNil, List.length_cons, List.length_nil, Nat.zero_add, Nat.reduceAdd, true_and] at h ⊢; exact h)))
    (sb_one (ss_ret (se_op so_add (se_op so_add (se_sl (se_var 1) sp_none (sp_some (se_var 2))) (se_tup (sa_cons (se_cl G__law_bent T.h__law_bent (hr.mono (by omega)) hG (sa_cons (se_var 0) (sa_cons (se_ix sx_seq (se_var 1) (se_var 2)) sa_nil)) (by intro ρ S P h; simp only [dCons, dNil, List.length_cons, List.length_nil, Nat.zero_add, Nat.reduceAdd, true_and] at h ⊢; exact h)) sa_nil))) (se_sl (se_var 1) (sp_some (se_op so_add (se_var 2) se_int)) sp_none))))) sb_nil)
    (sb_cons (ss_set (i := 3) sc__law_bent.nd (se_cl G__law_draw T.h__law_draw (hr.mono (by omega)) hG (sa_cons (se_var 0) (sa_cons se_int sa_nil)) (by intro ρ S P h; simp only [dCons, dNil, List.length_cons, List.length_nil, Nat.zero_add, Nat.reduceAdd, true_and] at h ⊢; exact h)))
    (sb_cons (ss_if (sw_and (st_val (se_isi (T := "tuple") (se_var 1) T.z_isinstance T.z_tuple)) (sw_and1 (st_cmp so_lt (se_var 3) se_int))).st (sb_cons (ss_set (i := 4) sc__law_bent.nd (se_lst (sa_cons (se_frz (se_ct sc_list T.z_list (by decide +kernel) (sa_cons (se_var 1) sa_nil))) (sa_cons (se_sl (se_var 1) (sp_some se_int) sp_none) (sa_cons (se_sl (se_var 1) sp_none (sp_some (se_un su_neg se_int))) (sa_cons (se_op so_add (se_var 1) (se_sl (se_var 1) (sp_some (se_un su_neg se_int)) sp_none)) sa_nil))))))
    (sb_one (ss_ret (se_ix sx_seq (se_op so_add (se_var 4) (se_lstS (sa_cons (se_step (se_var 1) sp_none sp_none (sp_some (se_un su_neg se_int))) (sa_cons (se_tup (sa_cons (se_var 1) sa_nil)) (sa_cons (se_op so_add (se_var 1) (se_tup (sa_cons se_non sa_nil))) sa_nil))))) (se_var 3))))) sb_nil)
    (sb_cons (ss_if (sw_and (st_val (se_isi (T := "str") (se_var 1) T.z_isinstance T.z_str)) (sw_and1 (st_cmp so_lt (se_var 3) se_int))).st (sb_one (ss_ret (se_ix sx_seq (se_lstS (sa_cons (se_op so_add (se_var 1) se_str) (sa_cons (se_sl (se_var 1) sp_none (sp_some (se_un su_neg se_int))) (sa_cons (se_m0 PySem.F.plainAttrs_str PySem.F.slot_str_upper PySem.F.type_str_upper sm_upper (se_var 1)) (sa_cons (se_op so_add (se_var 1) se_str) (sa_cons (se_lst (sa_cons (se_var 1) sa_nil)) (sa_cons (se_op so_add (se_var 1) se_str) sa_nil))))))) (se_var 3)))) sb_nil)
    (sb_cons (ss_if (sw_and (st_val (se_isi (T := "int") (se_var 1) T.z_isinstance T.z_int)) (sw_and1 (st_cmp so_lt (se_var 3) se_int))).st (sb_one (ss_ret (se_ix sx_seq (se_lstS (sa_cons (se_op so_add (se_var 1) se_int) (sa_cons (se_op so_subB (se_var 1) se_int) (sa_cons (se_cmp (so_eq (u64_of hr)) (se_var 1) se_int) (sa_cons (se_ct sc_str T.z_str (by decide +kernel) (sa_cons (se_var 1) sa_nil)) (sa_cons (se_op so_subB se_int (se_var 1)) (sa_cons (se_lst (sa_cons (se_var 1) sa_nil)) sa_nil))))))) (se_var 3)))) sb_nil)
    (sb_one (ss_ret (se_cl G__law_odd T.h__law_odd (hr.mono (by omega)) hG (sa_cons (se_var 0) sa_nil) (by intro ρ S P h; simp only [dCons, dNil, List.length_cons, List.length_nil, Nat.zero_add, Nat.reduceAdd, true_and] at h ⊢; exact h)))))))))⟩) (fun rs S P hl h => ?_)
  obtain ⟨a, x, n, B, w, rfl, hf, hn, hx, hB, hw, hk, h⟩ := h
  have ndx := (hx.nd (by omega) (by omega)).no
  have hodd : ∀ S1 : Sto, KpB a S S1 → Feed S1 a (n + 2) → d__law_odd [Res.loc a] S1 P := fun S1 k1 f1 =>
    ⟨a, n + 2, rfl, f1, by omega, fun y S2 hy k2 f2 => h y S2 (hy.mono (by omega) (by omega) (by omega)) (k1.trans k2) (f2.mono (by omega))⟩
  have hlst : ∀ (S1 : Sto) (p : Addr) (c : Cell) (L : List PyData), KpB a S S1 → Feed S1 a (n + 2) → S1 p = none → (∀ y ∈ L, Sm (B + 10) (3 * w + 1200) (k + 2) y) → ∀ y ∈ L, P (.dat y) (put S1 p c) := fun S1 p c L k1 f1 hp hL y hy =>
    h y _ (hL y hy) (k1.trans (KpB.of (Kp.put hp))) ((f1.kp (Kp.put hp)).mono (by omega))
  cases x with
  | dict es => exact absurd rfl (ndx es)
  | none =>
    infer_instance
    refine ⟨ndx, a, 9, n, rfl, hf, by omega, by omega, by omega, fun v S1 h0 h1 k1 f1 => ?_⟩
    exact ⟨ndx, ndx, ndx, hodd S1 k1 (f1.mono (by omega))⟩
  | list xs =>
    infer_instance
    refine ⟨ndx, a, 9, n, rfl, hf, by omega, by omega, by omega, fun v S1 h0 h1 k1 f1 => ?_⟩
    exact ⟨ndx, ndx, ndx, hodd S1 k1 (f1.mono (by omega))⟩
  | bool b =>
    infer_instance
    refine ⟨ndx, a, 9, n, rfl, hf, by omega, by omega, by omega, fun v S1 h0 h1 k1 f1 => ?_⟩
    refine ⟨ndx, ndx, ndx, ?_⟩
    dsimp only
    split
    · rename_i hv
      have hv := of_decide_eq_true hv
      refine oEq_bi ?_
      refine ⟨by omega, ?_⟩
      simp only [datas, Option.map_some]
      refine ⟨by simp, fun p hp => ?_⟩
      rw [put_same]
      dsimp only
      generalize (if false = true then !((if b = true then (1 : Int) else 0) == 1) else ((if b = true then (1 : Int) else 0) == 1)) = q
      obtain ⟨y, hy⟩ : ∃ y, atI [PyData.int (b2 b + 1), PyData.int (b2 b - 1), PyData.bool q, PyData.str (bStr b), PyData.int (0 - b2 b), PyData.list [PyData.bool b]] v = some y := ⟨_, atN h0 (by exact hv)⟩
      rw [hy]
      refine hlst S1 p _ _ k1 (f1.mono (by omega)) hp ?_ y (at_mem hy)
      have hb : (b2 b = 0 ∨ b2 b = 1) := by cases b <;> simp [b2]
      simp only [List.mem_cons, List.not_mem_nil, or_false, forall_eq_or_imp, forall_eq]
      refine ⟨⟨by simp only [sm]; exact decide_eq_true (by omega), by simp only [sz]; omega, by simp [PyData.depth]⟩, ⟨by simp only [sm]; exact decide_eq_true (by omega), by simp only [sz]; omega, by simp [PyData.depth]⟩, ⟨rfl, by simp only [sz]; omega, by simp [PyData.depth]⟩,
        bStr_sm b (by omega), ⟨by simp only [sm]; exact decide_eq_true (by omega), by simp only [sz]; omega, by simp [PyData.depth]⟩,
        sm_lst (by simp [sm]) (by simp only [szAll, sz]; omega) (by simp [PyData.depth]) (by omega)⟩
    · exact hodd S1 k1 (f1.mono (by omega))
  | int i =>
    infer_instance
    refine ⟨ndx, a, 9, n, rfl, hf, by omega, by omega, by omega, fun v S1 h0 h1 k1 f1 => ?_⟩
    refine ⟨ndx, ndx, ndx, ?_⟩
    dsimp only
    split
    · rename_i hv
      have hv := of_decide_eq_true hv
      have hi : i.natAbs ≤ B := by have := hx.sm; simp only [sm] at this; exact of_decide_eq_true this
      refine ⟨by have := sm_show (Nat.lt_trans hB (by decide +kernel)) _ hx.sm; simpa [PyData.showable] using this, by omega, by omega, fun p hp => ?_⟩
      rw [put_same]
      dsimp only
      obtain ⟨y, hy⟩ : ∃ y, atI [PyData.int (i + 1), PyData.int (i - 1), PyData.bool (decide (i = 1)), PyData.str (Str.ofString (toString i)), PyData.int (0 - i), PyData.list [PyData.int i]] v = some y := ⟨_, atN h0 (by exact hv)⟩
      rw [hy]
      refine hlst S1 p _ _ k1 (f1.mono (by omega)) hp ?_ y (at_mem hy)
      simp only [List.mem_cons, List.not_mem_nil, or_false, forall_eq_or_imp, forall_eq]
      have hl := int_len (Nat.lt_trans hB (by decide +kernel)) hi
      refine ⟨⟨by simp only [sm]; exact decide_eq_true (by omega), by simp only [sz]; omega, by simp [PyData.depth]⟩, ⟨by simp only [sm]; exact decide_eq_true (by omega), by simp only [sz]; omega, by simp [PyData.depth]⟩, ⟨rfl, by simp only [sz]; omega, by simp [PyData.depth]⟩,
        ⟨int_sm, by simp only [sz]; omega, by simp [PyData.depth]⟩, ⟨by simp only [sm]; exact decide_eq_true (by omega), by simp only [sz]; omega, by simp [PyData.depth]⟩,
        sm_lst (by simp only [List.mem_singleton, forall_eq, sm]; exact decide_eq_true (by omega)) (by simp only [szAll, sz]; omega) (by simp [PyData.depth]) (by omega)⟩
    · exact hodd S1 k1 (f1.mono (by omega))
  | str z =>
    infer_instance
    refine ⟨ndx, a, 9, n, rfl, hf, by omega, by omega, by omega, fun v S1 h0 h1 k1 f1 => ?_⟩
    refine ⟨ndx, ndx, ?_⟩
    dsimp only
    split
    · rename_i hv
      have hv := of_decide_eq_true hv
      have hz : ∀ c ∈ z.cps.toList, c < 128 := sm_str.mp hx.sm
      have hl : 10 * z.length + 2 ≤ w := by have := hx.sz; simpa only [sz] using this
      have e1 : (Str.ofString "a").length = 1 := by decide +kernel
      have e2 : (Str.ofString " ").length = 1 := by decide +kernel
      have e3 : (Str.ofString "abcdefgh").length = 8 := by decide +kernel
      refine ⟨by omega, by omega, trivial, by omega, by omega, by omega, by omega, by omega, fun p hp => ?_⟩
      rw [put_same]
      dsimp only
      obtain ⟨y, hy⟩ : ∃ y, atI [PyData.str (z ++ Str.ofString "a"), PyData.str (cutS z none (some (-1))), PyData.str (Txt.upper z), PyData.str (z ++ Str.ofString " "), PyData.list [PyData.str z], PyData.str (z ++ Str.ofString "abcdefgh")] v = some y := ⟨_, atN h0 (by exact hv)⟩
      rw [hy]
      refine hlst S1 p _ _ k1 (f1.mono (by omega)) hp ?_ y (at_mem hy)
      have hu := len_upper z
      have hc := cutS_len (x := z) (lo := none) (hi := some (-1))
      simp only [List.mem_cons, List.not_mem_nil, or_false, forall_eq_or_imp, forall_eq]
      refine ⟨str_sm (append_ascii hz (by decide +kernel)) (by rw [len_app]; omega), str_sm (cutS_ascii hz) (by omega), str_sm (upper_ascii hz) (by omega), str_sm (append_ascii hz (by decide +kernel)) (by rw [len_app]; omega),
        sm_lst (by simp only [List.mem_singleton, forall_eq]; exact sm_str.mpr hz) (by simp only [szAll, sz]; omega) (by simp [PyData.depth]) (by omega), str_sm (append_ascii hz (by decide +kernel)) (by rw [len_app]; omega)⟩
    · exact ⟨ndx, hodd S1 k1 (f1.mono (by omega))⟩
  | tuple xs =>
    infer_instance
    refine ⟨ndx, by omega, oEq_deep rfl rfl rfl (hx.nd (by omega) (by omega)).1 shaped_tnil ?_⟩
    have e0 : PyData.eqv (.tuple xs) (.tuple []) = xs.isEmpty := by show PyData.eqvAll _ _ = _; rw [eqvAll_nil]
    rw [e0]
    infer_instance
    have hlen := hx.len
    have hd := hx.dp
    simp only [PyData.depth] at hd
    have hsz : szAll xs + 3 ≤ w := by have := hx.sz; simpa only [sz] using this
    have hL : ∀ y ∈ [PyData.list xs, PyData.tuple (cutD xs (some 1) none), PyData.tuple (cutD xs none (some (-1))), PyData.tuple (xs ++ cutD xs (some (-1)) none), PyData.tuple xs.reverse, PyData.tuple [PyData.tuple xs], PyData.tuple (xs ++ [PyData.none])], Sm (B + 10) (3 * w + 1200) (k + 2) y := by
      have hc1 := szAll_sub (cutD_sub (xs := xs) (lo := some 1) (hi := none))
      have hc2 := szAll_sub (cutD_sub (xs := xs) (lo := none) (hi := some (-1)))
      have hc3 := szAll_sub (cutD_sub (xs := xs) (lo := some (-1)) (hi := none))
      have up : ∀ {y : PyData}, Sm B (3 * w + 1200) k y → Sm (B + 10) (3 * w + 1200) (k + 2) y := fun q => q.mono (by omega) (Nat.le_refl _) (by omega)
      simp only [List.mem_cons, List.not_mem_nil, or_false, forall_eq_or_imp, forall_eq]
      refine ⟨up (sm_lst (fun y hy => (hx.items y hy).sm) (by omega) (fun y hy => by have := depthAll_mem y hy; omega) (by omega)),
        up (sm_tup' hx (fun y hy => cutD_mem y hy) (by omega)), up (sm_tup' hx (fun y hy => cutD_mem y hy) (by omega)),
        up (sm_tup' hx (fun y hy => (List.mem_append.mp hy).elim id fun q => cutD_mem y q) (by rw [szAll_append]; omega)),
        up (sm_tup' hx (fun y hy => List.mem_reverse.mp hy) (by rw [szAll_reverse]; omega)),
        sm_tup (by simp only [List.mem_singleton, forall_eq]; exact sm_mono (by omega) _ hx.sm) (by simp only [szAll, sz]; omega) (by simp only [List.mem_singleton, forall_eq, PyData.depth]; omega) (by omega),
        sm_tup (fun y hy => ?_) (by rw [szAll_append]; simp only [szAll, sz]; omega) (fun y hy => ?_) (by omega)⟩
      · rcases List.mem_append.mp hy with q | q
        · exact sm_mono (by omega) _ (hx.items y q).sm
        · rw [List.mem_singleton.mp q]; rfl
      · rcases List.mem_append.mp hy with q | q
        · have := depthAll_mem y q; omega
        · rw [List.mem_singleton.mp q]; simp [PyData.depth]
    split
    · rename_i hne
      have hne : xs ≠ [] := by intro e; rw [e] at hne; exact absurd hne (by decide)
      have hpos : 0 < xs.length := List.length_pos_iff.mpr hne
      refine ⟨a, 6, n, rfl, hf, by omega, by omega, by omega, fun v6 S1 g0 g1 k1 f1 => ?_⟩
      dsimp only
      split
      · refine ⟨a, xs.length, n + 1, rfl, f1, by omega, by omega, by omega, fun v S2 h0 h1 k2 f2 => ?_⟩
        dsimp only
        obtain ⟨m, rfl⟩ : ∃ m : Nat, v = m := ⟨v.toNat, by omega⟩
        have hm : m < xs.length := by omega
        have hat : atI xs (m : Int) = some xs[m] := atI_nat (List.getElem?_eq_getElem hm)
        rw [hat]
        dsimp only
        obtain ⟨k', rfl⟩ : ∃ k', k = k' + 1 := ⟨k - 1, by omega⟩
        have hxm := hx.items _ (List.getElem_mem hm)
        have hdm := depthAll_mem _ (List.getElem_mem hm)
        have hdec : szAll xs = szAll (xs.take m) + (sz xs[m] + 2 + szAll (xs.drop (m + 1))) := by
          conv => lhs; rw [← List.take_append_drop m xs, szAll_append, List.drop_eq_getElem_cons hm]
          simp only [szAll]
        refine ⟨a, xs[m], n + 2, B, sz xs[m], rfl, f2, by omega, ⟨hxm.sm, Nat.le_refl _, by omega⟩, hB, by omega, by omega, fun y S3 hy k3 f3 => ?_⟩
        have c1 : cutD xs none (some (m : Int)) = xs.take m := cutD_to xs m
        have c2 : cutD xs (some ((m : Int) + 1)) none = xs.drop (m + 1) := cutD_from xs (m + 1)
        simp only [datas, Option.map_some]
        infer_instance
        rw [c1, c2]
        have l1 : (xs.take m).length ≤ xs.length := by rw [List.length_take]; omega
        have l2 : (xs.drop (m + 1)).length ≤ xs.length := by rw [List.length_drop]; omega
        refine ⟨by omega, by omega, by rw [List.length_append, List.length_singleton]; omega, ?_⟩
        refine h _ S3 ?_ ((k1.trans k2).trans k3) (f3.mono (by omega))
        have hys := hy.sz
        have hyd := hy.dp
        refine sm_tup (fun z hz => ?_) (by rw [szAll_append, szAll_append]; simp only [szAll]; omega) (fun z hz => ?_) (by omega)
        · rcases List.mem_append.mp hz with q | q
          · rcases List.mem_append.mp q with q | q
            · exact sm_mono (by omega) _ (hx.items z (List.mem_of_mem_take q)).sm
            · rw [List.mem_singleton.mp q]; exact hy.sm
          · exact sm_mono (by omega) _ (hx.items z (List.mem_of_mem_drop q)).sm
        · rcases List.mem_append.mp hz with q | q
          · rcases List.mem_append.mp q with q | q
            · have := depthAll_mem z (List.mem_of_mem_take q); omega
            · rw [List.mem_singleton.mp q]; omega
          · have := depthAll_mem z (List.mem_of_mem_drop q); omega
      ·
        refine ⟨a, 9, n + 1, rfl, f1, by omega, by omega, by omega, fun v S2 h0 h1 k2 f2 => ?_⟩
        have kk := k1.trans k2
        refine ⟨ndx, ?_⟩
        dsimp only
        split
        · rename_i hv
          have hv := of_decide_eq_true hv
          intro p hp
          rw [put_same]
          dsimp only
          rw [gone_put hp]
          have hc1 := szAll_sub (cutD_sub (xs := xs) (lo := some 1) (hi := none))
          have hc2 := szAll_sub (cutD_sub (xs := xs) (lo := none) (hi := some (-1)))
          have hc3 := szAll_sub (cutD_sub (xs := xs) (lo := some (-1)) (hi := none))
          have hl3 := szAll_len (cutD xs (some (-1)) none)
          refine ⟨by omega, by omega, by omega, by decide, by rw [adj_rev]; omega, by omega, by omega, by first | omega | simp | decide, ?_⟩
          rw [step_rev]
          simp only [datas, Option.map_some]
          refine ⟨by simp, fun q hq => ?_⟩
          refine oAdd_ll rfl peek_put (by simp) fun q2 hq2 => ?_
          dsimp only
          rw [put_same]
          dsimp only
          obtain ⟨y, hy⟩ : ∃ y, atI [PyData.list xs, PyData.tuple (cutD xs (some 1) none), PyData.tuple (cutD xs none (some (-1))), PyData.tuple (xs ++ cutD xs (some (-1)) none), PyData.tuple xs.reverse, PyData.tuple [PyData.tuple xs], PyData.tuple (xs ++ [PyData.none])] v = some y := ⟨_, atN h0 (by exact hv)⟩
          rw [show [PyData.list xs, PyData.tuple (cutD xs (some 1) none), PyData.tuple (cutD xs none (some (-1))), PyData.tuple (xs ++ cutD xs (some (-1)) none)] ++ [PyData.tuple xs.reverse, PyData.tuple [PyData.tuple xs], PyData.tuple (xs ++ [PyData.none])] = [PyData.list xs, PyData.tuple (cutD xs (some 1) none), PyData.tuple (cutD xs none (some (-1))), PyData.tuple (xs ++ cutD xs (some (-1)) none), PyData.tuple xs.reverse, PyData.tuple [PyData.tuple xs], PyData.tuple (xs ++ [PyData.none])] from rfl, hy]
          refine h y _ (hL y (at_mem hy)) (kk.trans (KpB.of ((Kp.put hq).trans (Kp.put hq2)))) (((f2.kp ((Kp.put hq).trans (Kp.put hq2)))).mono (by omega))
        · exact ⟨ndx, ndx, hodd S2 kk (f2.mono (by omega))⟩
    · rename_i hne
      refine ⟨a, 9, n, rfl, hf, by omega, by omega, by omega, fun v S2 h0 h1 k2 f2 => ?_⟩
      have kk := k2
      refine ⟨ndx, ?_⟩
      dsimp only
      split
      · rename_i hv
        have hv := of_decide_eq_true hv
        intro p hp
        rw [put_same]
        dsimp only
        rw [gone_put hp]
        have hc1 := szAll_sub (cutD_sub (xs := xs) (lo := some 1) (hi := none))
        have hc2 := szAll_sub (cutD_sub (xs := xs) (lo := none) (hi := some (-1)))
        have hc3 := szAll_sub (cutD_sub (xs := xs) (lo := some (-1)) (hi := none))
        have hl3 := szAll_len (cutD xs (some (-1)) none)
        refine ⟨by omega, by omega, by omega, by decide, by rw [adj_rev]; omega, by omega, by omega, by first | omega | simp | decide, ?_⟩
        rw [step_rev]
        simp only [datas, Option.map_some]
        refine ⟨by simp, fun q hq => ?_⟩
        refine oAdd_ll rfl peek_put (by simp) fun q2 hq2 => ?_
        dsimp only
        rw [put_same]
        dsimp only
        obtain ⟨y, hy⟩ : ∃ y, atI [PyData.list xs, PyData.tuple (cutD xs (some 1) none), PyData.tuple (cutD xs none (some (-1))), PyData.tuple (xs ++ cutD xs (some (-1)) none), PyData.tuple xs.reverse, PyData.tuple [PyData.tuple xs], PyData.tuple (xs ++ [PyData.none])] v = some y := ⟨_, atN h0 (by exact hv)⟩
        rw [show [PyData.list xs, PyData.tuple (cutD xs (some 1) none), PyData.tuple (cutD xs none (some (-1))), PyData.tuple (xs ++ cutD xs (some (-1)) none)] ++ [PyData.tuple xs.reverse, PyData.tuple [PyData.tuple xs], PyData.tuple (xs ++ [PyData.none])] = [PyData.list xs, PyData.tuple (cutD xs (some 1) none), PyData.tuple (cutD xs none (some (-1))), PyData.tuple (xs ++ cutD xs (some (-1)) none), PyData.tuple xs.reverse, PyData.tuple [PyData.tuple xs], PyData.tuple (xs ++ [PyData.none])] from rfl, hy]
        refine h y _ (hL y (at_mem hy)) (kk.trans (KpB.of ((Kp.put hq).trans (Kp.put hq2)))) (((f2.kp ((Kp.put hq).trans (Kp.put hq2)))).mono (by omega))
      · exact ⟨ndx, ndx, hodd S2 kk (f2.mono (by omega))⟩

theorem ok__law_bent (T : Tx K mg w a) (G__law_draw : FnG P w K mg base 1 a.f__law_draw a.fd__law_draw ["_law_feed_here", "_law_many"] (lift K 2 d__law_draw)) (G__law_odd : FnG P w K mg base 2 a.f__law_odd a.fd__law_odd ["_law_feed_here"] (lift K 1 d__law_odd)) : FnG P w K mg base 8 a.f__law_bent a.fd__law_bent ["_law_feed_here", "_law_item"] (lift K 2 d__law_bent) := by
  have z : FnG P w K mg base 2 a.f__law_bent a.fd__law_bent ["_law_feed_here", "_law_item"] (lift K 2 (r__law_bent 0)) := ⟨fun vs H Q E h => h.1, fun A outer s H args us vs Q _ _ _ _ _ h => by obtain ⟨_, _, _, _, _, _, _, h, _⟩ := h; exact h.elim⟩
  have z1 := st__law_bent T G__law_draw G__law_odd (by decide) z
  have z2 := st__law_bent T G__law_draw G__law_odd (by decide) z1
  have z3 := st__law_bent T G__law_draw G__law_odd (by decide) z2
  have z4 := st__law_bent T G__law_draw G__law_odd (by decide) z3
  have z5 := st__law_bent T G__law_draw G__law_odd (by decide) z4
  have z6 := st__law_bent T G__law_draw G__law_odd (by decide) z5
  exact FnG.ex rfl fun j hj => match j, hj with | 0, _ => z1.up (by decide) | 1, _ => z2.up (by decide) | 2, _ => z3.up (by decide) | 3, _ => z4.up (by decide) | 4, _ => z5.up (by decide) | 5, _ => z6.up (by decide)
theorem ok__law_right (T : Tx K mg w a) (G__law_count : FnG P w K mg base 1 a.f__law_count a.fd__law_count ["_law_item"] (lift K 1 d__law_count)) (G__law_formed : FnG P w K mg base 2 a.f__law_formed a.fd__law_formed ["_law_item"] (lift K 1 d__law_formed)) (G__law_found : FnG P w K mg base 2 a.f__law_found a.fd__law_found ["_law_item"] (lift K 1 d__law_found)) (G__law_named : FnG P w K mg base 1 a.f__law_named a.fd__law_named ["_law_item"] (lift K 1 d__law_named)) (G__law_placed : FnG P w K mg base 2 a.f__law_placed a.fd__law_placed ["_law_item"] (lift K 1 d__law_placed)) (G_is_finding : FnG P w K mg base 3 a.f_is_finding a.fd_is_finding ["thing"] (lift K 1 d_is_finding)) (G_is_name : FnG P w K mg base 1 a.f_is_name a.fd_is_name ["thing"] (lift K 1 d_is_name)) (G_is_number : FnG P w K mg base 2 a.f_is_number a.fd_is_number ["thing"] (lift K 1 d_is_number)) (G_is_place : FnG P w K mg base 2 a.f_is_place a.fd_is_place ["thing"] (lift K 1 d_is_place)) (G_is_row : FnG P w K mg base 5 a.f_is_row a.fd_is_row ["thing"] (lift K 1 d_is_row)) : FnG P w K mg base 6 a.f__law_right a.fd__law_right ["_law_item"] (lift K 1 d__law_right) := by
  refine def_ok T.h__law_right.fn sc__law_right (fun cdv A outer s H hr hG => ⟨_, (sb_cons (ss_set (i := 1) sc__law_right.nd (se_lst (sa_cons (se_cl G_is_number T.h_is_number (hr.mono (by omega)) hG (sa_cons (se_var 0) sa_nil) (by intro ρ S P h; simp only [dCons, dNil, List.length_cons, List.length_nil, Nat.zero_add, Nat.reduceAdd, true_and] at h ⊢; exact h)) (sa_cons (se_cl G_is_name T.h_is_name (hr.mono (by omega)) hG (sa_cons (se_var 0) sa_nil) (by intro ρ S P h; simp only [dCons, dNil, List.length_cons, List.length_nil, Nat.zero_add, Nat.reduceAdd, true_and] at h ⊢; exact h)) (sa_cons (se_cl G_is_place T.h_is_place (hr.mono (by omega)) hG (sa_cons (se_var 0) sa_nil) (by intro ρ S P h; simp only [dCons, dNil, List.length_cons, List.length_nil, Nat.zero_add, Nat.reduceAdd, true_and] at h ⊢; exact h)) (sa_cons (se_cl G_is_row T.h_is_row (hr.mono (by omega)) hG (sa_cons (se_var 0) sa_nil) (by intro ρ S P h; simp only [dCons, dNil, List.length_cons, List.length_nil, Nat.zero_add, Nat.reduceAdd, true_and] at h ⊢; exact h)) (sa_cons (se_cl G_is_finding T.h_is_finding (hr.mono (by omega)) hG (sa_cons (se_var 0) sa_nil) (by intro ρ S P h; simp only [dCons, dNil, List.length_cons, List.length_nil, Nat.zero_add, Nat.reduceAdd, true_and] at h ⊢; exact h)) sa_nil)))))))
    (sb_cons (ss_set (i := 2) sc__law_right.nd (se_lst (sa_cons (se_cl G__law_count T.h__law_count (hr.mono (by omega)) hG (sa_cons (se_var 0) sa_nil) (by intro ρ S P h; simp only [dCons, dNil, List.length_cons, List.length_nil, Nat.zero_add, Nat.reduceAdd, true_and] at h ⊢; exact h)) (sa_cons (se_cl G__law_named T.h__law_named (hr.mono (by omega)) hG (sa_cons (se_var 0) sa_nil) (by intro ρ S P h; simp only [dCons, dNil, List.length_cons, List.length_nil, Nat.zero_add, Nat.reduceAdd, true_and] at h ⊢; exact h)) (sa_cons (se_cl G__law_placed T.h__law_placed (hr.mono (by omega)) hG (sa_cons (se_var 0) sa_nil) (by intro ρ S P h; simp only [dCons, dNil, List.length_cons, List.length_nil, Nat.zero_add, Nat.reduceAdd, true_and] at h ⊢; exact h)) (sa_cons (se_cl G__law_formed T.h__law_formed (hr.mono (by omega)) hG (sa_cons (se_var 0) sa_nil) (by intro ρ S P h; simp only [dCons, dNil, List.length_cons, List.length_nil, Nat.zero_add, Nat.reduceAdd, true_and] at h ⊢; exact h)) (sa_cons (se_cl G__law_found T.h__law_found (hr.mono (by omega)) hG (sa_cons (se_var 0) sa_nil) (by intro ρ S P h; simp only [dCons, dNil, List.length_cons, List.length_nil, Nat.zero_add, Nat.reduceAdd, true_and] at h ⊢; exact h)) sa_nil)))))))
    (sb_one (ss_ret (se_cmp (so_eq (u64_of hr)) (se_cb (sc_repr hG (un_of hr)) T.z_repr (by decide +kernel) (sa_cons (se_var 1) sa_nil)) (se_cb (sc_repr hG (un_of hr)) T.z_repr (by decide +kernel) (sa_cons (se_var 2) sa_nil)))))))⟩) (fun rs S P hl h => ?_)
  obtain ⟨x, rfl, ok, h⟩ := h
  infer_instance
  refine ⟨x, rfl, ok.1.1, fun S1 k1 => ?_⟩
  refine ⟨x, rfl, ok.1.1, fun S2 k2 => ?_⟩
  refine ⟨x, rfl, ok.1, fun S3 k3 => ?_⟩
  refine ⟨x, rfl, ok.1, fun S4 k4 => ?_⟩
  refine ⟨x, rfl, ok.1, fun S5 k5 => ?_⟩
  infer_instance
  refine ⟨by omega, ?_⟩
  refine ⟨x, rfl, ok.1.1, fun S6 k6 => ?_⟩
  refine ⟨x, rfl, ok.1.1, fun S7 k7 => ?_⟩
  refine ⟨x, rfl, ok, fun S8 k8 => ?_⟩
  refine ⟨x, rfl, ok.1, fun S9 k9 => ?_⟩
  refine ⟨x, rfl, ok, fun SA kA => ?_⟩
  infer_instance
  generalize isNum x = b1
  generalize isNm x = b2
  generalize isPl x = b3
  generalize isRow x = b4
  generalize isFind x = b5
  have c1 : ∀ b1 b2 b3 b4 b5 : Bool, (PyData.list [.bool b1, .bool b2, .bool b3, .bool b4, .bool b5]).shown.length ≤ 16000000 := by
    have : ∀ b1 b2 b3 b4 b5 : Bool, decide ((PyData.list [.bool b1, .bool b2, .bool b3, .bool b4, .bool b5]).shown.length ≤ 16000000) = true := by decide +kernel
    intro b1 b2 b3 b4 b5
    exact of_decide_eq_true (this b1 b2 b3 b4 b5)
  have c2 : (PyData.list [.bool b1, .bool b2, .bool b3, .bool b4, .bool b5]).depth ≤ 100 := by show 0 + 1 ≤ 100; decide
  refine ⟨by omega, rfl, rfl, c1 _ _ _ _ _, c2, rfl, rfl, c1 _ _ _ _ _, c2, ?_⟩
  have := h SA (((((((((k1.trans k2).trans k3).trans k4).trans k5).trans k6).trans k7).trans k8).trans k9).trans kA)
  simpa using this

theorem ok__law_values (T : Tx K mg w a)  : FnG P w K mg base 1 a.f__law_values a.fd__law_values [] (lift K 0 d__law_values) := by
  refine def_ok T.h__law_values.fn sc__law_values (fun cdv A outer s H hr hG => ⟨_, (sb_cons (ss_set (i := 0) sc__law_values.nd (se_op so_pow se_int se_int))
    (sb_cons (ss_set (i := 1) sc__law_values.nd (se_lstS (sa_cons se_int (sa_cons se_int (sa_cons (se_un su_neg se_int) (sa_cons (se_var 0) (sa_cons (se_un su_neg (se_var 0)) (sa_cons se_bl (sa_cons se_bl (sa_cons se_non (sa_cons se_str (sa_cons se_str (sa_cons se_str (sa_cons se_str (sa_cons se_str (sa_cons se_str (sa_cons se_str (sa_cons se_str (sa_cons se_str (sa_cons se_str sa_nil))))))))))))))))))))
    (sb_cons (ss_expr (se_m PySem.F.plainAttrs_list PySem.F.slot_list_extend PySem.F.type_list_extend sm_extend (se_var 1) (sa_cons (se_lstS (sa_cons (se_tup sa_nil) (sa_cons (se_lst sa_nil) (sa_cons (se_tup (sa_cons se_str sa_nil)) (sa_cons (se_tup (sa_cons se_str (sa_cons se_str sa_nil))) (sa_cons (se_tup (sa_cons se_str (sa_cons se_str sa_nil))) (sa_cons (se_tup (sa_cons se_str (sa_cons se_str sa_nil))) sa_nil))))))) sa_nil)))
    (sb_cons (ss_expr (se_m PySem.F.plainAttrs_list PySem.F.slot_list_extend PySem.F.type_list_extend sm_extend (se_var 1) (sa_cons (se_lstS (sa_cons (se_tup (sa_cons se_str (sa_cons se_str sa_nil))) (sa_cons (se_tup (sa_cons se_str (sa_cons se_str sa_nil))) (sa_cons (se_lst (sa_cons se_str (sa_cons se_str sa_nil))) sa_nil)))) sa_nil)))
    (sb_cons (ss_expr (se_m PySem.F.plainAttrs_list PySem.F.slot_list_extend PySem.F.type_list_extend sm_extend (se_var 1) (sa_cons (se_lstS (sa_cons (se_tup (sa_cons se_str (sa_cons se_str (sa_cons se_int sa_nil)))) (sa_cons (se_tup (sa_cons se_str (sa_cons se_non sa_nil))) (sa_cons (se_tup (sa_cons se_str (sa_cons se_str sa_nil))) (sa_cons (se_tup (sa_cons se_int (sa_cons se_str sa_nil))) (sa_cons (se_tup (sa_cons se_str (sa_cons (se_lst (sa_cons se_str sa_nil)) sa_nil))) sa_nil)))))) sa_nil)))
    (sb_cons (ss_expr (se_m PySem.F.plainAttrs_list PySem.F.slot_list_extend PySem.F.type_list_extend sm_extend (se_var 1) (sa_cons (se_lstS (sa_cons (se_tup (sa_cons se_str (sa_cons se_str sa_nil))) (sa_cons (se_tup (sa_cons se_str (sa_cons se_bl sa_nil))) sa_nil))) sa_nil)))
    (sb_cons (ss_expr (se_m PySem.F.plainAttrs_list PySem.F.slot_list_extend PySem.F.type_list_extend sm_extend (se_var 1) (sa_cons (se_lstS (sa_cons (se_tup (sa_cons se_str (sa_cons se_int sa_nil))) (sa_cons (se_tup (sa_cons se_str (sa_cons (se_var 0) sa_nil))) (sa_cons (se_tup (sa_cons se_str (sa_cons (se_un su_neg se_int) sa_nil))) (sa_cons (se_tup (sa_cons se_str (sa_cons se_bl sa_nil))) (sa_cons (se_tup (sa_cons se_str (sa_cons se_str sa_nil))) sa_nil)))))) sa_nil)))
    (sb_cons (ss_expr (se_m PySem.F.plainAttrs_list PySem.F.slot_list_extend PySem.F.type_list_extend sm_extend (se_var 1) (sa_cons (se_lstS (sa_cons (se_tup (sa_cons se_str (sa_cons se_int sa_nil))) (sa_cons (se_tup (sa_cons se_str (sa_cons se_int sa_nil))) (sa_cons (se_lst (sa_cons se_str (sa_cons se_int sa_nil))) sa_nil)))) sa_nil)))
    (sb_cons (ss_expr (se_m PySem.F.plainAttrs_list PySem.F.slot_list_extend PySem.F.type_list_extend sm_extend (se_var 1) (sa_cons (se_lstS (sa_cons (se_tup (sa_cons se_str sa_nil)) (sa_cons (se_tup (sa_cons se_str (sa_cons se_int (sa_cons se_int sa_nil)))) (sa_cons (se_tup (sa_cons se_int (sa_cons se_str sa_nil))) (sa_cons (se_tup (sa_cons se_str (sa_cons se_non sa_nil))) (sa_cons (se_tup (sa_cons (se_lst (sa_cons se_str sa_nil)) (sa_cons se_int sa_nil))) (sa_cons (se_tup (sa_cons se_non (sa_cons se_int sa_nil))) (sa_cons (se_tup (sa_cons se_str (sa_cons (se_tup (sa_cons se_int sa_nil)) sa_nil))) sa_nil)))))))) sa_nil)))
    (sb_cons (ss_set (i := 2) sc__law_values.nd (se_lst (sa_cons (se_tup (sa_cons se_str (sa_cons se_str (sa_cons se_str (sa_cons se_int sa_nil))))) (sa_cons (se_tup (sa_cons se_str (sa_cons se_str (sa_cons se_str (sa_cons se_int sa_nil))))) (sa_cons (se_tup (sa_cons se_str (sa_cons se_str (sa_cons se_int sa_nil)))) (sa_cons (se_tup (sa_cons se_str (sa_cons se_str (sa_cons se_int sa_nil)))) (sa_cons (se_tup (sa_cons se_str (sa_cons se_int (sa_cons se_str sa_nil)))) sa_nil)))))))
    (sb_cons (ss_for PassesOwn.never rfl (si_list (se_var 2)) (sg_name (i := 3) sc__law_values.nd)
    (sb_cons (ss_expr (se_m PySem.F.plainAttrs_list PySem.F.slot_list_extend PySem.F.type_list_extend sm_extend (se_var 1) (sa_cons (se_lstS (sa_cons (se_var 3) (sa_cons (se_frz (se_ct sc_list T.z_list (by decide +kernel) (sa_cons (se_var 3) sa_nil))) (sa_cons (se_sl (se_var 3) sp_none (sp_some (se_un su_neg se_int))) (sa_cons (se_op so_add (se_var 3) (se_tup (sa_cons se_int sa_nil))) (sa_cons (se_op so_add (se_tup (sa_cons (se_m0 PySem.F.plainAttrs_str PySem.F.slot_str_upper PySem.F.type_str_upper sm_upper (se_ix sx_seq (se_var 3) se_int)) sa_nil)) (se_sl (se_var 3) (sp_some se_int) sp_none)) (sa_cons (se_sl (se_var 3) (sp_some se_int) sp_none) (sa_cons (se_step (se_var 3) sp_none sp_none (sp_some (se_un su_neg se_int))) sa_nil)))))))) sa_nil)))
    (sb_one (ss_for PassesOwn.never rfl (si_tup (se_tup (sa_cons se_int (sa_cons (se_un su_neg se_int) (sa_cons se_bl (sa_cons se_non (sa_cons se_str (sa_cons se_str (sa_cons (se_var 0) (sa_cons (se_tup (sa_cons se_str sa_nil)) sa_nil)))))))))) (sg_name (i := 4) sc__law_values.nd)
    (sb_one (ss_expr (se_m PySem.F.plainAttrs_list PySem.F.slot_list_extend PySem.F.type_list_extend sm_extend (se_var 1) (sa_cons (se_lstS (sa_cons (se_op so_add (se_sl (se_var 3) sp_none (sp_some (se_un su_neg se_int))) (se_tup (sa_cons (se_var 4) sa_nil))) (sa_cons (se_op so_add (se_op so_add (se_sl (se_var 3) sp_none (sp_some se_int)) (se_tup (sa_cons (se_var 4) sa_nil))) (se_sl (se_var 3) (sp_some se_int) sp_none)) sa_nil))) sa_nil))))))))
    (sb_cons (ss_expr (se_m PySem.F.plainAttrs_list PySem.F.slot_list_extend PySem.F.type_list_extend sm_extend (se_var 1) (sa_cons (se_lstS (sa_cons (se_tup (sa_cons se_str (sa_cons se_str (sa_cons se_str (sa_cons se_int sa_nil))))) (sa_cons (se_tup (sa_cons se_str (sa_cons se_str (sa_cons se_str (sa_cons se_int sa_nil))))) (sa_cons (se_tup (sa_cons se_str (sa_cons se_str (sa_cons se_int sa_nil)))) sa_nil)))) sa_nil)))
    (sb_cons (ss_expr (se_m PySem.F.plainAttrs_list PySem.F.slot_list_extend PySem.F.type_list_extend sm_extend (se_var 1) (sa_cons (se_lstS (sa_cons (se_tup (sa_cons se_str (sa_cons se_str (sa_cons se_int sa_nil)))) (sa_cons (se_tup (sa_cons se_str (sa_cons se_int (sa_cons se_str (sa_cons se_int sa_nil))))) sa_nil))) sa_nil)))
    (sb_one (ss_ret (se_frz (se_op so_add (se_var 1) (se_lstS (sa_cons (se_tup (sa_cons se_str (sa_cons se_str (sa_cons se_int (sa_cons se_int sa_nil))))) (sa_cons (se_tup (sa_cons se_str (sa_cons se_str (sa_cons se_non (sa_cons se_int sa_nil))))) (sa_cons (se_tup (sa_cons (se_lst (sa_cons se_str sa_nil)) (sa_cons se_str (sa_cons se_int sa_nil)))) (sa_cons (se_tup (sa_cons se_str (sa_cons se_str (sa_cons se_int sa_nil)))) (sa_cons (se_op so_mulA se_str se_int) sa_nil)))))))))))))))))))))))⟩) (fun rs S P hl h => ?_)
  obtain ⟨rfl, h⟩ := h
  have cp : CPow 10 59 := ⟨by decide, by decide, by decide⟩
  refine' seq_asg ?c1 ?c2
  case c1 => (intro K hk; infer_instance; exact ⟨cp, hk⟩)
  case c2 =>
  refine' newl ?a1 ?a2 ?a3 ?a4
  case a1 => (intro K hk; infer_instance; exact hk)
  case a2 => exact rfl
  case a3 => simp
  case a4 =>
  intro l S1 hl0 k1 e1
  refine' grow (l := l) rfl e1 ?b1 ?b2 ?b3 ?b4 ?b5
  case b1 => (intro K hk; infer_instance; (repeat (first | exact hk | refine And.intro (by omega) ?_)))
  case b2 => exact rfl
  case b3 => simp
  case b4 => simp
  case b5 =>
  intro S2 k2 e2
  refine' grow (l := l) rfl e2 ?b1 ?b2 ?b3 ?b4 ?b5
  case b1 => (intro K hk; infer_instance; (repeat (first | exact hk | refine And.intro (by omega) ?_)))
  case b2 => exact rfl
  case b3 => simp
  case b4 => simp
  case b5 =>
  intro S3 k3 e3
  refine' grow (l := l) rfl e3 ?b1 ?b2 ?b3 ?b4 ?b5
  case b1 => (intro K hk; infer_instance; (repeat (first | exact hk | refine And.intro (by omega) ?_)))
  case b2 => exact rfl
  case b3 => simp
  case b4 => simp
  case b5 =>
  intro S4 k4 e4
  refine' grow (l := l) rfl e4 ?b1 ?b2 ?b3 ?b4 ?b5
  case b1 => (intro K hk; infer_instance; (repeat (first | exact hk | refine And.intro (by omega) ?_)))
  case b2 => exact rfl
  case b3 => simp
  case b4 => simp
  case b5 =>
  intro S5 k5 e5
  refine' grow (l := l) rfl e5 ?b1 ?b2 ?b3 ?b4 ?b5
  case b1 => (intro K hk; infer_instance; (repeat (first | exact hk | refine And.intro (by omega) ?_)))
  case b2 => exact rfl
  case b3 => simp
  case b4 => simp
  case b5 =>
  intro S6 k6 e6
  refine' grow (l := l) rfl e6 ?b1 ?b2 ?b3 ?b4 ?b5
  case b1 => (intro K hk; infer_instance; (repeat (first | exact hk | refine And.intro (by omega) ?_)))
  case b2 => exact rfl
  case b3 => simp
  case b4 => simp
  case b5 =>
  intro S7 k7 e7
  refine' grow (l := l) rfl e7 ?b1 ?b2 ?b3 ?b4 ?b5
  case b1 => (intro K hk; infer_instance; (repeat (first | exact hk | refine And.intro (by omega) ?_)))
  case b2 => exact rfl
  case b3 => simp
  case b4 => simp
  case b5 =>
  intro S8 k8 e8
  have kb : ∀ b c, b ≠ l → S1 b = some c → S8 b = some c := fun b c hb e => k8 b c hb (k7 b c hb (k6 b c hb (k5 b c hb (k4 b c hb (k3 b c hb (k2 b c hb e))))))
  simp only [List.cons_append, List.nil_append] at e8
  clear e1 e2 e3 e4 e5 e6 e7 k2 k3 k4 k5 k6 k7 k8
  refine' seq_asg ?d1 ?d2
  case d1 => (intro K hk; infer_instance; (repeat (first | exact hk | refine And.intro (by omega) ?_)))
  case d2 =>
  have hgood : ∃ acc : List PyData, S8 l = some (.lst acc) ∧ acc.length ≤ 60 ∧ ∀ y ∈ acc, Sm BB 10000 3 y := by
    refine ⟨_, e8, by simp, ?_⟩
    refine okL_sm ?_
    decide +kernel
  clear e8
  obtain ⟨acc0, e8, hl8, hg8⟩ := hgood
  refine' seq_for ?f1 ?f2
  case f1 => (intro K hk; infer_instance; exact hk)
  case f2 =>
  refine loop_inv (fun rest ρ S => ∃ (u v : Option Res) (acc : List PyData), (∀ x ∈ rest, ∃ w r, x = .tuple (.str w :: r) ∧ 2 ≤ r.length ∧ r.length ≤ 3 ∧ Sm 10 500 1 x) ∧ ρ = [some (.dat (.int (10 ^ Int.toNat 59))), some (.loc l), some (.dat (.list [.tuple [.str "come", .str "a", .str "b", .int 1], .tuple [.str "move", .str "a", .str "b", .int 1], .tuple [.str "sell", .str "a", .int 1], .tuple [.str "waste", .str "a", .int 1], .tuple [.str "back", .int 0, .str "a"]])), u, v] ∧
    (∀ b c, b ≠ l → S1 b = some c → S b = some c) ∧ S l = some (.lst acc) ∧ acc.length + 23 * rest.length ≤ 180 ∧ ∀ y ∈ acc, Sm BB 10000 3 y) ?g1 ?g2 _ _ _ ?g3
  case g3 =>
    refine ⟨_, _, acc0, ?_, rfl, kb, e8, by simp only [List.length_cons, List.length_nil]; omega, hg8⟩
    intro x hx
    simp only [List.mem_cons, List.not_mem_nil, or_false] at hx
    rcases hx with rfl | rfl | rfl | rfl | rfl
    all_goals exact ⟨_, _, rfl, by decide, by decide, ⟨by decide +kernel, by decide +kernel, by decide +kernel⟩⟩
  case g2 =>
    rintro ρ S9 ⟨u, v, acc, _, rfl, kb9, e9, hl9, hg9⟩
    dsimp only
    refine' grow (l := l) rfl e9 ?b1 ?b2 ?b3 ?b4 ?b5
    case b1 => (intro K hk; infer_instance; (repeat (first | exact hk | refine And.intro (by omega) ?_)))
    case b2 => exact rfl
    case b3 => (simp only [List.length_cons, List.length_nil]; omega)
    case b4 => simp
    case b5 =>
    intro T1 m1 t1
    refine' grow (l := l) rfl t1 ?b1 ?b2 ?b3 ?b4 ?b5
    case b1 => (intro K hk; infer_instance; (repeat (first | exact hk | refine And.intro (by omega) ?_)))
    case b2 => exact rfl
    case b3 => (simp only [List.length_append, List.length_cons, List.length_nil]; omega)
    case b4 => simp
    case b5 =>
    intro T2 m2 t2
    have ea : (Str.ofString "a").length = 1 := by decide +kernel
    infer_instance
    refine ⟨by omega, by omega, by omega, by omega, by omega, by omega, by omega, by rw [ea]; decide, by omega, fun p hp => ?_⟩
    have hpl : p ≠ l := fun q => by rw [q, t2] at hp; cases hp
    have tl : put T2 p (.lst [.tuple [.str "come", .str "a", .int 3, .int 1], .tuple [.str "move", .str "a", .none, .int 1], .tuple [.list [.str "sell"], .str "a", .int 1], .tuple [.str "find", .str "bad", .int 1], .str (repS (Int.toNat 900) "a")]) l = some (.lst (acc ++ [.tuple [.str "move", .str "a", .str "a", .int 2], .tuple [.str "sell", .str "a", .str "b", .int 1], .tuple [.str "come", .str "a", .int 1]] ++ [.tuple [.str "back", .str "a", .int 0], .tuple [.str "back", .int 0, .str "a", .int 1]])) := put_old hp t2
    refine oAdd_ll (peek_loc tl) peek_put (by simp only [List.length_append, List.length_cons, List.length_nil]; omega) fun q hq => ?_
    dsimp only
    rw [put_same]
    dsimp only
    rw [gone_put hq]
    refine h _ _ ?_ (by simp only [List.length_append, List.length_cons, List.length_nil]; omega) ?_
    · intro b c e
      have hb : b ≠ l := fun q => by rw [q, hl0] at e; cases e
      exact put_old hp (m2 b c hb (m1 b c hb (kb9 b c hb (k1 b c e))))
    · intro y hy
      rcases List.mem_append.mp hy with hy | hy
      · rcases List.mem_append.mp hy with hy | hy
        · rcases List.mem_append.mp hy with hy | hy
          · exact hg9 y hy
          · exact okL_sm (by decide +kernel) y hy
        · exact okL_sm (by decide +kernel) y hy
      · exact okL_sm (by decide +kernel) y hy
  case g1 =>
    rintro x rest ρ S9 nx ⟨u, v, acc, hr, rfl, kb9, e9, hl9, hg9⟩ hn
    obtain ⟨w, r, rfl, hr2, hr3, hx⟩ := hr x (List.mem_cons_self ..)
    have hx' : Sm BB 600 1 (.tuple (.str w :: r)) := hx.mono (by decide +kernel) (by omega) (by omega)
    have hr' : ∀ x ∈ rest, ∃ w r, x = .tuple (.str w :: r) ∧ 2 ≤ r.length ∧ r.length ≤ 3 ∧ Sm 10 500 1 x := fun y hy => hr y (List.mem_cons_of_mem _ hy)
    show dSeq _ _ _ _ S9
    refine' grow (l := l) rfl e9 ?b1 ?b2 ?b3 ?b4 ?b5
    case b1 =>
      intro K hk
      have wl : w.length ≤ 1000000 := (hx.items _ (List.mem_cons_self ..)).nd (by omega) (by omega) |>.2 w rfl
      have cl := cutD_length (xs := PyData.str w :: r) (lo := some 1) (hi := none)
      simp only [List.length_cons] at cl
      infer_instance
      intro p hp
      rw [put_same]
      dsimp only
      rw [gone_put hp]
      refine ⟨by omega, by omega, trivial, wl, by omega, by omega, by decide, by decide, by rw [adj_rev]; simp only [List.length_cons]; omega, hk⟩
    case b2 => exact rfl
    case b3 => (simp only [List.length_cons, List.length_nil] at hl9 ⊢; omega)
    case b4 => simp
    case b5 =>
    intro T1 m1 t1
    rw [step_rev] at t1
    have hsz : szAll (PyData.str w :: r) + 3 ≤ 600 := by have := hx'.sz; simpa only [sz] using this
    have hdp : PyData.depthAll (PyData.str w :: r) + 1 ≤ 1 := by have := hx'.dp; simpa only [PyData.depth] using this
    have hc1 := szAll_sub (cutD_sub (xs := PyData.str w :: r) (lo := some 1) (hi := none))
    have hwa : ∀ c ∈ w.cps.toList, c < 128 := sm_str.mp (hx'.items _ (List.mem_cons_self ..)).sm
    have hwl : 10 * w.length + 2 ≤ 600 := by have := (hx'.items _ (List.mem_cons_self ..)).sz; simpa only [sz] using this
    have hul := len_upper w
    have hd0 : ∀ y ∈ PyData.str w :: r, y.depth ≤ 0 := fun y hy => by have := depthAll_mem y hy; omega
    have up : ∀ {y : PyData}, Sm BB 10000 1 y → Sm BB 10000 3 y := fun q => q.mono (Nat.le_refl _) (Nat.le_refl _) (by omega)
    have hgood1 : ∀ y ∈ acc ++ [PyData.tuple (.str w :: r), .list (.str w :: r), .tuple (cutD (.str w :: r) none (some (-1))), .tuple (PyData.str w :: r ++ [.int 0]), .tuple ([.str (Txt.upper w)] ++ cutD (.str w :: r) (some 1) none), .tuple (cutD (.str w :: r) (some 1) none), .tuple (PyData.str w :: r).reverse], Sm BB 10000 3 y := by
      intro y hy
      rcases List.mem_append.mp hy with hy | hy
      · exact hg9 y hy
      · simp only [List.mem_cons, List.not_mem_nil, or_false] at hy
        have hc2 := szAll_sub (cutD_sub (xs := PyData.str w :: r) (lo := none) (hi := some (-1)))
        rcases hy with rfl | rfl | rfl | rfl | rfl | rfl | rfl
        · exact hx'.mono (Nat.le_refl _) (by omega) (by omega)
        · exact up (sm_lst (fun y hy => (hx'.items y hy).sm) (by omega) (fun y hy => by have := hd0 y hy; omega) (by omega))
        · exact up (sm_tup' hx' (fun y hy => cutD_mem y hy) (by omega))
        · refine up (sm_tup (fun y hy => ?_) (by rw [szAll_append]; have q0 := hsz; simp only [szAll, sz] at q0 ⊢; omega) (fun y hy => ?_) (by omega))
          · rcases List.mem_append.mp hy with q | q
            · exact (hx'.items y q).sm
            · rw [List.mem_singleton.mp q]; decide +kernel
          · rcases List.mem_append.mp hy with q | q
            · have := hd0 y q; omega
            · rw [List.mem_singleton.mp q]; decide
        · refine up (sm_tup (fun y hy => ?_) (by rw [szAll_append]; have q0 := hsz; simp only [szAll, sz] at q0 ⊢; omega) (fun y hy => ?_) (by omega))
          · rcases List.mem_append.mp hy with q | q
            · rw [List.mem_singleton.mp q]; exact sm_str.mpr (upper_ascii hwa)
            · exact (hx'.items y (cutD_mem y q)).sm
          · rcases List.mem_append.mp hy with q | q
            · rw [List.mem_singleton.mp q]; simp [PyData.depth]
            · have := hd0 y (cutD_mem y q); omega
        · exact up (sm_tup' hx' (fun y hy => cutD_mem y hy) (by omega))
        · exact up (sm_tup' hx' (fun y hy => List.mem_reverse.mp hy) (by rw [szAll_reverse]; omega))
    refine' for1 ?h1 ?h2
    case h1 => (intro K hk; infer_instance; (repeat (first | exact hk | refine And.intro (by omega) ?_)))
    case h2 =>
    refine loop_inv (fun rest2 ρ S => ∃ (v2 : Option Res) (acc2 : List PyData), (∀ y ∈ rest2, Sm BB 200 1 y) ∧ ρ = [some (.dat (.int (10 ^ Int.toNat 59))), some (.loc l), some (.dat (.list [.tuple [.str "come", .str "a", .str "b", .int 1], .tuple [.str "move", .str "a", .str "b", .int 1], .tuple [.str "sell", .str "a", .int 1], .tuple [.str "waste", .str "a", .int 1], .tuple [.str "back", .int 0, .str "a"]])), some (.dat (.tuple (.str w :: r))), v2] ∧
      (∀ b c, b ≠ l → S1 b = some c → S b = some c) ∧ S l = some (.lst acc2) ∧ acc2.length + 2 * rest2.length + 23 * rest.length ≤ 180 ∧ ∀ y ∈ acc2, Sm BB 10000 3 y) ?i1 ?i2 _ _ _ ?i3
    case i3 =>
      refine ⟨_, _, okL_sm (by decide +kernel), rfl, fun b c hb e => m1 b c hb (kb9 b c hb e), t1, ?_, hgood1⟩
      simp only [List.length_append, List.length_cons, List.length_nil] at hl9 ⊢
      omega
    case i2 =>
      rintro ρ S' ⟨v2, acc2, _, rfl, kb2, e2, hl2, hg2⟩
      exact hn _ _ ⟨_, _, acc2, hr', rfl, kb2, e2, by simpa using hl2, hg2⟩
    case i1 =>
      rintro y rest2 ρ S' nx2 ⟨v2, acc2, hy2, rfl, kb2, e2, hl2, hg2⟩ hn2
      have hy := hy2 y (List.mem_cons_self ..)
      have cl1 := cutD_length (xs := PyData.str w :: r) (lo := none) (hi := some (-1))
      have cl2 := cutD_length (xs := PyData.str w :: r) (lo := none) (hi := some 1)
      have cl3 := cutD_length (xs := PyData.str w :: r) (lo := some 2) (hi := none)
      simp only [List.length_cons] at cl1 cl2 cl3
      show dDrop _ _ _ S'
      refine' grow1 (l := l) rfl e2 ?j1 ?j2 ?j3 ?j4 ?j5
      case j1 =>
        intro K hk
        infer_instance
        refine ⟨by omega, by omega, by omega, by omega, by simp only [List.length_append, List.length_cons, List.length_nil]; omega, hk⟩
      case j2 => exact rfl
      case j3 => (simp only [List.length_cons, List.length_nil] at hl2 ⊢; omega)
      case j4 => simp
      case j5 =>
      intro U hU eU
      refine hn2 _ _ ⟨_, _, fun z hz => hy2 z (List.mem_cons_of_mem _ hz), rfl, fun b c hb e => hU b c hb (kb2 b c hb e), eU, by simp only [List.length_append, List.length_cons, List.length_nil] at hl2 ⊢; omega, ?_⟩
      have hb1 := szAll_sub (cutD_sub (xs := PyData.str w :: r) (lo := none) (hi := some (-1)))
      have hb2 := szAll_sub (cutD_sub (xs := PyData.str w :: r) (lo := none) (hi := some 1))
      have hb3 := szAll_sub (cutD_sub (xs := PyData.str w :: r) (lo := some 2) (hi := none))
      have hys := hy.sz
      have hyd := hy.dp
      intro z hz
      rcases List.mem_append.mp hz with hz | hz
      · exact hg2 z hz
      · simp only [List.mem_cons, List.not_mem_nil, or_false] at hz
        rcases hz with rfl | rfl
        · refine sm_tup (fun z hz => ?_) (by rw [szAll_append]; simp only [szAll]; omega) (fun z hz => ?_) (by omega)
          · rcases List.mem_append.mp hz with q | q
            · exact (hx'.items z (cutD_mem z q)).sm
            · rw [List.mem_singleton.mp q]; exact hy.sm
          · rcases List.mem_append.mp hz with q | q
            · have := hd0 z (cutD_mem z q); omega
            · rw [List.mem_singleton.mp q]; omega
        · refine sm_tup (fun z hz => ?_) (by rw [szAll_append, szAll_append]; simp only [szAll]; omega) (fun z hz => ?_) (by omega)
          · rcases List.mem_append.mp hz with q | q
            · rcases List.mem_append.mp q with q | q
              · exact (hx'.items z (cutD_mem z q)).sm
              · rw [List.mem_singleton.mp q]; exact hy.sm
            · exact (hx'.items z (cutD_mem z q)).sm
          · rcases List.mem_append.mp hz with q | q
            · rcases List.mem_append.mp q with q | q
              · have := hd0 z (cutD_mem z q); omega
              · rw [List.mem_singleton.mp q]; omega
            · have := hd0 z (cutD_mem z q); omega

theorem ok_law (T : Tx K mg w a) (G__law_bent : FnG P w K mg base 8 a.f__law_bent a.fd__law_bent ["_law_feed_here", "_law_item"] (lift K 2 d__law_bent)) (G__law_case : FnG P w K mg base 3 a.f__law_case a.fd__law_case ["_law_feed_here", "_law_size"] (lift K 2 d__law_case)) (G__law_draw : FnG P w K mg base 1 a.f__law_draw a.fd__law_draw ["_law_feed_here", "_law_many"] (lift K 2 d__law_draw)) (G__law_feed : FnG P w K mg base 1 a.f__law_feed a.fd__law_feed ["_law_script"] (lift K 1 d__law_feed)) (G__law_right : FnG P w K mg base 6 a.f__law_right a.fd__law_right ["_law_item"] (lift K 1 d__law_right)) (G__law_values : FnG P w K mg base 1 a.f__law_values a.fd__law_values [] (lift K 0 d__law_values)) (G_is_finding : FnG P w K mg base 3 a.f_is_finding a.fd_is_finding ["thing"] (lift K 1 d_is_finding)) (G_is_name : FnG P w K mg base 1 a.f_is_name a.fd_is_name ["thing"] (lift K 1 d_is_name)) (G_is_number : FnG P w K mg base 2 a.f_is_number a.fd_is_number ["thing"] (lift K 1 d_is_number)) (G_is_place : FnG P w K mg base 2 a.f_is_place a.fd_is_place ["thing"] (lift K 1 d_is_place)) (G_is_row : FnG P w K mg base 5 a.f_is_row a.fd_is_row ["thing"] (lift K 1 d_is_row)) : FnG P w K mg base 9 a.f_law a.fd_law ["_law_script"] (lift K 1 d_law) := by
  refine def_ok T.h_law.fn sc_law (fun cdv A outer s H hr hG => ⟨_, (sb_cons (ss_set (i := 1) sc_law.nd (se_cl G__law_feed T.h__law_feed (hr.mono (by omega)) hG (sa_cons (se_var 0) sa_nil) (by intro ρ S P h; simp only [dCons, dNil, List.length_cons, List.length_nil, Nat.zero_add, Nat.reduceAdd, true_and] at h ⊢; exact h)))
    (sb_cons (ss_set (i := 2) sc_law.nd (se_step (se_cl0 G__law_values T.h__law_values (hr.mono (by omega)) hG) (sp_some (se_cl G__law_draw T.h__law_draw (hr.mono (by omega)) hG (sa_cons (se_var 1) (sa_cons se_int sa_nil)) (by intro ρ S P h; simp only [dCons, dNil, List.length_cons, List.length_nil, Nat.zero_add, Nat.reduceAdd, true_and] at h ⊢; exact h))) sp_none (sp_some se_int)))
    (sb_cons (ss_set (i := 3) sc_law.nd (se_cl G__law_case T.h__law_case (hr.mono (by omega)) hG (sa_cons (se_var 1) (sa_cons se_int sa_nil)) (by intro ρ S P h; simp only [dCons, dNil, List.length_cons, List.length_nil, Nat.zero_add, Nat.reduceAdd, true_and] at h ⊢; exact h)))
    (sb_cons (ss_for PassesOwn.never rfl (si_tup (se_op so_add (se_op so_add (se_ix sx_seq (se_ix sx_seq (se_var 3) se_int) se_int) (se_ix sx_seq (se_ix sx_seq (se_var 3) se_int) se_int)) (se_ix sx_seq (se_var 3) se_int))) (sg_name (i := 4) sc_law.nd)
    (sb_cons (ss_set (i := 5) sc_law.nd (se_cl G__law_bent T.h__law_bent (hr.mono (by omega)) hG (sa_cons (se_var 1) (sa_cons (se_var 4) sa_nil)) (by intro ρ S P h; simp only [dCons, dNil, List.length_cons, List.length_nil, Nat.zero_add, Nat.reduceAdd, true_and] at h ⊢; exact h)))
    (sb_one (ss_expr (se_m PySem.F.plainAttrs_list PySem.F.slot_list_extend PySem.F.type_list_extend sm_extend (se_var 2) (sa_cons (se_lstS (sa_cons (se_var 4) (sa_cons (se_var 5) (sa_cons (se_cl G__law_bent T.h__law_bent (hr.mono (by omega)) hG (sa_cons (se_var 1) (sa_cons (se_var 5) sa_nil)) (by intro ρ S P h; simp only [dCons, dNil, List.length_cons, List.length_nil, Nat.zero_add, Nat.reduceAdd, true_and] at h ⊢; exact h)) sa_nil)))) sa_nil))))))
    (sb_keep (i := 2) (sb_cons (ss_set (i := 6) sc_law.nd (se_cb (sc_repr hG (un_of hr)) T.z_repr (by decide +kernel) (sa_cons (se_var 2) sa_nil)))
    (sb_cons (ss_if (sw_or (st_cmp (so_ne (u64_of hr)) (se_lc (own := [("_law_item", 4)]) rfl sc_law.nd (si_list (se_var 2)) (show BlkOk ["_law_script", "_law_feed_here", "_law_items", "_law_page", "_law_item", "_law_once", "_law_kept", "_law_told"] (defScope s_law) _ [("_law_item", 4)] from ⟨rfl, by decide +kernel, by decide +kernel, by decide +kernel, by decide +kernel⟩) (fun _ _ _ _ _ => (sgc_name (i := 4) sc_law.nd)) (fun _ _ _ _ _ => (sts_one (st_not (st_val (se_cl G__law_right T.h__law_right (hr.mono (by omega)) hG (sa_cons (se_var 4) sa_nil) (by intro ρ S P h; simp only [dCons, dNil, List.length_cons, List.length_nil, Nat.zero_add, Nat.reduceAdd, true_and] at h ⊢; exact h)))))) (fun _ _ _ _ _ => (se_var 4))) (se_lstS sa_nil)) (sw_or1 (st_cmp (so_ne (u64_of hr)) (se_cb (sc_repr hG (un_of hr)) T.z_repr (by decide +kernel) (sa_cons (se_var 2) sa_nil)) (se_var 6)))).st (sb_one (ss_ret se_bl)) sb_nil)
    (sb_cons (ss_set (i := 7) sc_law.nd (se_lst (sa_cons (se_callk (is := [0]) G_is_number T.h_is_number (hr.mono (by omega)) hG T.k_is_number_thing (sk_cons se_int sk_nil)) (sa_cons (se_callk (is := [0]) G_is_name T.h_is_name (hr.mono (by omega)) hG T.k_is_name_thing (sk_cons se_str sk_nil)) (sa_cons (se_callk (is := [0]) G_is_place T.h_is_place (hr.mono (by omega)) hG T.k_is_place_thing (sk_cons (se_tup (sa_cons se_str (sa_cons se_str sa_nil))) sk_nil)) (sa_cons (se_callk (is := [0]) G_is_row T.h_is_row (hr.mono (by omega)) hG T.k_is_row_thing (sk_cons (se_tup (sa_cons se_str (sa_cons se_str (sa_cons se_int sa_nil)))) sk_nil)) sa_nil))))))
    (sb_one (ss_ret (se_cmp (so_eq (u64_of hr)) (se_cb (sc_repr hG (un_of hr)) T.z_repr (by decide +kernel) (sa_cons (se_op so_add (se_var 7) (se_lstS (sa_cons (se_callk (is := [0]) G_is_finding T.h_is_finding (hr.mono (by omega)) hG T.k_is_finding_thing (sk_cons (se_tup (sa_cons se_str (sa_cons se_int sa_nil))) sk_nil)) sa_nil))) sa_nil)) (se_cb (sc_repr hG (un_of hr)) T.z_repr (by decide +kernel) (sa_cons (se_op so_mulA (se_lstS (sa_cons se_bl sa_nil)) se_int) sa_nil)))))))))))))⟩) (fun rs S P hl h => ?_)
  obtain ⟨ns, rfl, hl, h⟩ := h
  refine' seq_call ?a1 ?a2
  case a1 => (intro K hk; infer_instance; exact hk)
  case a2 =>
  refine ⟨ns, rfl, hl, fun a S1 ha k1 f1 => ?_⟩
  refine' seq_post (fun r S' => ∃ (l : Addr) (acc : List PyData), r = .loc l ∧ l ≠ a ∧ Feed S' a 1 ∧ S' l = some (.lst acc) ∧ acc.length ≤ 400 ∧ ∀ y ∈ acc, Sm BB 10000 3 y) ?b1 ?b2
  case b1 =>
    intro K hk
    infer_instance
    refine ⟨rfl, fun L S2 k2 hL gL => ?_⟩
    refine ⟨a, 4, 0, rfl, f1.kp k2, by omega, by omega, by omega, fun v S3 h0 h1 k3 f3 => ?_⟩
    dsimp only
    have hst : (stepP L (some v) none 4).length ≤ L.length := by
      unfold stepP
      refine Nat.le_trans (length_pick _ _) (sliceRange_length_le _ _ _ _ (fun _ => ⟨?_, Int.le_refl _⟩) fun h => absurd (show (4 : Int) > 0 by decide) h)
      show (0 : Int) ≤ max 0 _
      omega
    refine ⟨by decide, by omega, fun l hl0 => hk _ _ ⟨l, _, rfl, ?_, f3.kp (Kp.put hl0), put_same, by omega, fun y hy => gL y (mem_pick hy)⟩⟩
    intro e
    obtain ⟨c, ec⟩ := f3.some
    rw [e, ec] at hl0
    cases hl0
  case b2 =>
  rintro r S2 ⟨l, acc, rfl, hla, f2, e2, hacc, gacc⟩
  refine' seq_call ?c1 ?c2
  case c1 => (intro K hk; infer_instance; exact hk)
  case c2 =>
  refine ⟨a, 1, rfl, f2, by omega, fun sp rows nts x3 x4 S3 hg hlen k3 f3 => ?_⟩
  have e3 : S3 l = some (.lst acc) := k3 l _ hla e2
  refine' seq_for ?d1 ?d2
  case d1 =>
    intro K hk
    infer_instance
    simp only [List.length_append] at hlen ⊢
    refine ⟨by omega, by omega, hk⟩
  case d2 =>
  simp only [List.length_append] at hlen
  refine loop_inv (fun rest ρ S => ∃ (u v : Option Res) (acc : List PyData), (∀ x ∈ rest, Sm 1000 1000 2 x) ∧ rest.length ≤ 12 ∧ ρ = [some (.dat (scrD ns)), some (.loc a), some (.loc l), some (.dat (.tuple [.tuple [.tuple sp, .tuple rows], .tuple nts, x3, x4])), u, v, none, none] ∧
    Feed S a (600 + 40 * (12 - rest.length)) ∧ S l = some (.lst acc) ∧ acc.length + 3 * rest.length ≤ 440 ∧ ∀ y ∈ acc, Sm (BB + 30) 14000 8 y) ?i1 ?i2 _ _ _ ?i3
  case i3 => exact ⟨_, _, acc, hg, by simp only [List.length_append]; omega, rfl, f3.mono (by simp only [List.length_append]; omega), e3, by simp only [List.length_append]; omega, fun y hy => (gacc y hy).mono (by omega) (by omega) (by omega)⟩
  case i2 =>
    rintro ρ S4 ⟨u, v, acc, _, _, rfl, f4, e4, hacc, gacc⟩
    dsimp only
    have hlay : ∀ y ∈ acc, y.canLay0 = true := fun y hy => sm_lay y (gacc y hy).sm
    have hBB : BB + 30 < 10 ^ 100 := by decide +kernel
    simp only [List.length_nil] at hacc
    have hs : Sm (BB + 30) (acc.length * 14002 + 3) 9 (.list acc) := sm_lst (fun y hy => (gacc y hy).sm) (by have := szAll_le (n := 14000) fun y hy => (gacc y hy).sz; omega) (fun y hy => by have := (gacc y hy).dp; omega) (by omega)
    have hal : acc.length ≤ 440 := by omega
    have hmul : acc.length * 14002 ≤ 440 * 14002 := Nat.mul_le_mul_right _ hal
    have hsz := hs.sz
    have hsh := sm_shown hBB _ hs.sm
    have hshow : (PyData.list acc).shown.length ≤ 16000000 := by omega
    clear hmul hsz hsh
    have hps : (PyData.list acc).showable = true := sm_show (Nat.lt_trans hBB (by decide +kernel)) _ hs.sm
    have hcl : (PyData.list acc).canLay0 = true := sm_lay _ hs.sm
    have hdp : (PyData.list acc).depth ≤ 100 := Nat.le_trans hs.dp (by decide)
    unfold dKeep
    show (match S4 l with | some (.lst xs) => _ | some (.dct xs) => _ | none => False)
    rw [e4]
    dsimp only
    refine' seq_asg ?k1 ?k2
    case k1 =>
      intro K hk
      infer_instance
      exact ⟨hcl, hps, hshow, hdp, hk⟩
    case k2 =>
    have hright : ∀ y ∈ acc, ndR y := fun y hy => (gacc y hy).ndR hBB (by omega) (by omega)
    infer_instance
    refine lc_flt (q := fun _ => false) (f := id) (by omega) (fun y hy T1 R k0 k => ?_) (fun y hy hq => absurd hq (by decide)) fun T1 kT => ?_
    · infer_instance
      refine ⟨y, rfl, hright y hy, fun T2 kT2 => ?_⟩
      infer_instance
      exact k T2 kT2
    · have hf : (acc.filter fun _ => false).map id = [] := by simp
      rw [hf]
      refine ⟨by omega, fun p hp => ?_⟩
      refine oEq_deep rfl peek_put rfl shaped_nil shaped_nil ?_
      have e0 : PyData.eqv (.list []) (.list []) = true := rfl
      rw [e0]
      infer_instance
      have mk : ∀ x : PyData, (sm 5 x && decide (sz x ≤ 1000) && decide (x.depth ≤ 2)) = true → ndR x := fun x hx => by
        have := okL_sm (L := [x]) (by simpa using hx) x (by simp)
        exact this.ndR (by decide) (by omega) (by omega)
      refine ⟨hcl, hps, hshow, hdp, ?_⟩
      rw [if_neg (by simp)]
      refine ⟨trivial, rfl, .int 0, rfl, (mk _ (by decide +kernel)).1.1, fun U1 u1 => ?_⟩
      refine ⟨trivial, rfl, .str "a", rfl, (mk _ (by decide +kernel)).1.1, fun U2 u2 => ?_⟩
      refine ⟨by omega, trivial, rfl, .tuple [.str "a", .str "heap"], rfl, (mk _ (by decide +kernel)).1, fun U3 u3 => ?_⟩
      refine ⟨by omega, trivial, rfl, .tuple [.str "sell", .str "a", .int 1], rfl, (mk _ (by decide +kernel)).1, fun U4 u4 => ?_⟩
      simp only [datas, Option.map_some]
      refine ⟨by simp, by omega, trivial, rfl, .tuple [.str "bad", .int 0], rfl, (mk _ (by decide +kernel)).1, fun U5 u5 => ?_⟩
      simp only [datas, Option.map_some]
      refine ⟨by simp, fun p1 hp1 => ?_⟩
      have x1 : isNum (.int 0) = true := by decide +kernel
      have x2 : isNm (.str "a") = true := by decide +kernel
      have x3 : isPl (.tuple [.str "a", .str "heap"]) = true := by decide +kernel
      have x4 : isRow (.tuple [.str "sell", .str "a", .int 1]) = true := by decide +kernel
      have x5 : isFind (.tuple [.str "bad", .int 0]) = true := by decide +kernel
      rw [x1, x2, x3, x4, x5]
      refine oAdd_ll rfl peek_put (by simp) fun p2 hp2 => ?_
      infer_instance
      rw [put_same]
      dsimp only
      refine ⟨rfl, rfl, by decide +kernel, by decide +kernel, by omega, fun p3 hp3 => ?_⟩
      refine oMul_l peek_put (by decide) (by decide) (by decide) fun p4 hp4 => ?_
      dsimp only
      rw [put_same]
      dsimp only
      refine ⟨rfl, rfl, by decide +kernel, by decide +kernel, ?_⟩
      have er : (PyData.list [.bool true, .bool true, .bool true, .bool true, .bool true]).shown = (PyData.list (repL (Int.toNat 5) [.bool true])).shown := by decide +kernel
      rw [decide_eq_true er]
      exact h _
  case i1 =>
    rintro x rest ρ S4 nx ⟨u, v, acc, hr, hrl, rfl, f4, e4, hacc, gacc⟩ hn
    have hx := hr x (List.mem_cons_self ..)
    simp only [List.length_cons] at hrl f4 hacc
    show dSeq _ _ _ _ S4
    refine' seq_call ?j1 ?j2
    case j1 => (intro K hk; infer_instance; exact hk)
    case j2 =>
    refine ⟨2, by omega, a, x, 600 + 40 * (12 - (rest.length + 1)), 1000, 1000, rfl, f4, (by show 600 + 40 * (12 - (rest.length + 1)) + 9 ≤ 90000; omega), hx, by decide +kernel, by omega, by decide, fun y S5 hy k5 f5 => ?_⟩
    have e5 : S5 l = some (.lst acc) := k5 l _ hla e4
    infer_instance
    simp only [e5]
    refine ⟨trivial, ?_⟩
    have f5' : Feed S5 a (600 + 40 * (12 - (rest.length + 1)) + 9) := f5
    refine ⟨4, by omega, a, y, _, 1010, 4200, rfl, f5', (by show 600 + 40 * (12 - (rest.length + 1)) + 9 + 15 ≤ 90000; omega), hy, by decide +kernel, by omega, by decide, fun z S6 hz k6 f6 => ?_⟩
    have e6 : S6 l = some (.lst acc) := k6 l _ hla e5
    simp only [datas, Option.map_some]
    refine ⟨by simp, fun p hp => ?_⟩
    have hpl : p ≠ l := fun q => by rw [q, e6] at hp; cases hp
    have e7 : put S6 p (.lst [x, y, z]) l = some (.lst acc) := put_old hp e6
    rw [e7, put_same]
    dsimp only
    refine ⟨by simp only [List.length_cons, List.length_nil]; omega, hn _ _ ⟨_, _, _, fun w hw => hr w (List.mem_cons_of_mem _ hw), by omega, rfl, ?_, put_same, by simp only [List.length_append, List.length_cons, List.length_nil]; omega, ?_⟩⟩
    · have f7 : Feed (put S6 p (.lst [x, y, z])) a (600 + 40 * (12 - (rest.length + 1)) + 9 + 15) := f6.kp (Kp.put (c := .lst [x, y, z]) hp)
      obtain ⟨cs, i, l', c, ef, g1, g2, g3, g4, g5⟩ := f7
      exact ⟨cs, i, l', c, by rw [put_ne (Ne.symm hla)]; exact ef, g1, g2, by omega, g4, by omega⟩
    · intro w hw
      rcases List.mem_append.mp hw with hw | hw
      · exact gacc w hw
      · simp only [List.mem_cons, List.not_mem_nil, or_false] at hw
        have hBB : 2000 ≤ BB := by decide +kernel
        rcases hw with rfl | rfl | rfl
        · exact hx.mono (by omega) (by omega) (by omega)
        · have hy' : Sm 1010 4200 4 w := hy
          exact hy'.mono (by omega) (by omega) (by omega)
        · have hz' : Sm 1020 13800 6 w := hz
          exact hz'.mono (by omega) (by omega) (by omega)

end
theorem all_mk {l : PySem.W.OpenLaw} {w : World} {K : PySem.W.Frag} {h : Heap} {mg : Str → Option Value} {fa : Addr} (X : K.In h) (G : h.Ns mainGlobals mg) (hfa : mg "law" = some (.ref fa))
    {f0 : Addr} {od0 an0 : Option Addr} {sl0 : Array (Option Value)} {oc0 kV0 dc0 pm0 cd0 ct0 : Value}
    {f1 : Addr} {od1 an1 : Option Addr} {sl1 : Array (Option Value)} {oc1 kV1 dc1 pm1 cd1 ct1 : Value}
    {f2 : Addr} {od2 an2 : Option Addr} {sl2 : Array (Option Value)} {oc2 kV2 dc2 pm2 cd2 ct2 : Value}
    {f3 : Addr} {od3 an3 : Option Addr} {sl3 : Array (Option Value)} {oc3 kV3 dc3 pm3 cd3 ct3 : Value}
    {f4 : Addr} {od4 an4 : Option Addr} {sl4 : Array (Option Value)} {oc4 kV4 dc4 pm4 cd4 ct4 : Value}
    {f5 : Addr} {od5 an5 : Option Addr} {sl5 : Array (Option Value)} {oc5 kV5 dc5 pm5 cd5 ct5 : Value}
    {f6 : Addr} {od6 an6 : Option Addr} {sl6 : Array (Option Value)} {oc6 kV6 dc6 pm6 cd6 ct6 : Value}
    {f7 : Addr} {od7 an7 : Option Addr} {sl7 : Array (Option Value)} {oc7 kV7 dc7 pm7 cd7 ct7 : Value}
    {f8 : Addr} {od8 an8 : Option Addr} {sl8 : Array (Option Value)} {oc8 kV8 dc8 pm8 cd8 ct8 : Value}
    {f9 : Addr} {od9 an9 : Option Addr} {sl9 : Array (Option Value)} {oc9 kV9 dc9 pm9 cd9 ct9 : Value}
    {f10 : Addr} {od10 an10 : Option Addr} {sl10 : Array (Option Value)} {oc10 kV10 dc10 pm10 cd10 ct10 : Value}
    {f11 : Addr} {od11 an11 : Option Addr} {sl11 : Array (Option Value)} {oc11 kV11 dc11 pm11 cd11 ct11 : Value}
    {f12 : Addr} {od12 an12 : Option Addr} {sl12 : Array (Option Value)} {oc12 kV12 dc12 pm12 cd12 ct12 : Value}
    {f13 : Addr} {od13 an13 : Option Addr} {sl13 : Array (Option Value)} {oc13 kV13 dc13 pm13 cd13 ct13 : Value}
    {f14 : Addr} {od14 an14 : Option Addr} {sl14 : Array (Option Value)} {oc14 kV14 dc14 pm14 cd14 ct14 : Value}
    {f15 : Addr} {od15 an15 : Option Addr} {sl15 : Array (Option Value)} {oc15 kV15 dc15 pm15 cd15 ct15 : Value}
    {f16 : Addr} {od16 an16 : Option Addr} {sl16 : Array (Option Value)} {oc16 kV16 dc16 pm16 cd16 ct16 : Value}
    {f17 : Addr} {od17 an17 : Option Addr} {sl17 : Array (Option Value)} {oc17 kV17 dc17 pm17 cd17 ct17 : Value}
    {f18 : Addr} {od18 an18 : Option Addr} {sl18 : Array (Option Value)} {oc18 kV18 dc18 pm18 cd18 ct18 : Value}
    {f19 : Addr} {od19 an19 : Option Addr} {sl19 : Array (Option Value)} {oc19 kV19 dc19 pm19 cd19 ct19 : Value}
    {f20 : Addr} {od20 an20 : Option Addr} {sl20 : Array (Option Value)} {oc20 kV20 dc20 pm20 cd20 ct20 : Value}
    {f21 : Addr} {od21 an21 : Option Addr} {sl21 : Array (Option Value)} {oc21 kV21 dc21 pm21 cd21 ct21 : Value}
    {f22 : Addr} {od22 an22 : Option Addr} {sl22 : Array (Option Value)} {oc22 kV22 dc22 pm22 cd22 ct22 : Value}
    {f23 : Addr} {od23 an23 : Option Addr} {sl23 : Array (Option Value)} {oc23 kV23 dc23 pm23 cd23 ct23 : Value}
    {f24 : Addr} {od24 an24 : Option Addr} {sl24 : Array (Option Value)} {oc24 kV24 dc24 pm24 cd24 ct24 : Value}
    {f25 : Addr} {od25 an25 : Option Addr} {sl25 : Array (Option Value)} {oc25 kV25 dc25 pm25 cd25 ct25 : Value}
    {f26 : Addr} {od26 an26 : Option Addr} {sl26 : Array (Option Value)} {oc26 kV26 dc26 pm26 cd26 ct26 : Value} {t_ROW_FORMS : Addr} {n_ROW_FORMS : Nat} {e0 : Tok} {h0 : Int} {b0 : Addr} {dd0 : Option Addr} {nn0 : Nat} {ss0 : Array (Option Value)} {e1 : Tok} {h1 : Int} {b1 : Addr} {dd1 : Option Addr} {nn1 : Nat} {ss1 : Array (Option Value)} {e2 : Tok} {h2 : Int} {b2 : Addr} {dd2 : Option Addr} {nn2 : Nat} {ss2 : Array (Option Value)} {e3 : Tok} {h3 : Int} {b3 : Addr} {dd3 : Option Addr} {nn3 : Nat} {ss3 : Array (Option Value)} {e4 : Tok} {h4 : Int} {b4 : Addr} {dd4 : Option Addr} {nn4 : Nat} {ss4 : Array (Option Value)} {u0_0 u0_1 u0_2 : Tok} {u1_0 u1_1 u1_2 : Tok} {u2_0 u2_1 : Tok} {u3_0 u3_1 : Tok} {u4_0 u4_1 : Tok}
    (a0 : PySem.W.nsIn K mainGlobals "row_form" = some (some (.ref f0))) (l0 : K.lookup f0 = some ⟨oc0, od0, .func (PySem.W.fnOf "row_form" "row_form" (defArgs s_row_form) (defBody s_row_form) (defScope s_row_form) .none kV0 dc0 pm0 an0 cd0 ct0), sl0⟩) (c0 : PySem.W.codeIn K cd0 "row_form" = true) (k0 : PySem.W.keepIn K (.ref f0) = true)
    (a1 : PySem.W.nsIn K mainGlobals "is_whole" = some (some (.ref f1))) (l1 : K.lookup f1 = some ⟨oc1, od1, .func (PySem.W.fnOf "is_whole" "is_whole" (defArgs s_is_whole) (defBody s_is_whole) (defScope s_is_whole) .none kV1 dc1 pm1 an1 cd1 ct1), sl1⟩) (c1 : PySem.W.codeIn K cd1 "is_whole" = true) (k1 : PySem.W.keepIn K (.ref f1) = true)
    (a2 : PySem.W.nsIn K mainGlobals "is_number" = some (some (.ref f2))) (l2 : K.lookup f2 = some ⟨oc2, od2, .func (PySem.W.fnOf "is_number" "is_number" (defArgs s_is_number) (defBody s_is_number) (defScope s_is_number) .none kV2 dc2 pm2 an2 cd2 ct2), sl2⟩) (c2 : PySem.W.codeIn K cd2 "is_number" = true) (k2 : PySem.W.keepIn K (.ref f2) = true)
    (a3 : PySem.W.nsIn K mainGlobals "is_name" = some (some (.ref f3))) (l3 : K.lookup f3 = some ⟨oc3, od3, .func (PySem.W.fnOf "is_name" "is_name" (defArgs s_is_name) (defBody s_is_name) (defScope s_is_name) .none kV3 dc3 pm3 an3 cd3 ct3), sl3⟩) (c3 : PySem.W.codeIn K cd3 "is_name" = true) (k3 : PySem.W.keepIn K (.ref f3) = true)
    (a4 : PySem.W.nsIn K mainGlobals "is_kind" = some (some (.ref f4))) (l4 : K.lookup f4 = some ⟨oc4, od4, .func (PySem.W.fnOf "is_kind" "is_kind" (defArgs s_is_kind) (defBody s_is_kind) (defScope s_is_kind) .none kV4 dc4 pm4 an4 cd4 ct4), sl4⟩) (c4 : PySem.W.codeIn K cd4 "is_kind" = true) (k4 : PySem.W.keepIn K (.ref f4) = true)
    (a5 : PySem.W.nsIn K mainGlobals "is_place" = some (some (.ref f5))) (l5 : K.lookup f5 = some ⟨oc5, od5, .func (PySem.W.fnOf "is_place" "is_place" (defArgs s_is_place) (defBody s_is_place) (defScope s_is_place) .none kV5 dc5 pm5 an5 cd5 ct5), sl5⟩) (c5 : PySem.W.codeIn K cd5 "is_place" = true) (k5 : PySem.W.keepIn K (.ref f5) = true)
    (a6 : PySem.W.nsIn K mainGlobals "is_finding_word" = some (some (.ref f6))) (l6 : K.lookup f6 = some ⟨oc6, od6, .func (PySem.W.fnOf "is_finding_word" "is_finding_word" (defArgs s_is_finding_word) (defBody s_is_finding_word) (defScope s_is_finding_word) .none kV6 dc6 pm6 an6 cd6 ct6), sl6⟩) (c6 : PySem.W.codeIn K cd6 "is_finding_word" = true) (k6 : PySem.W.keepIn K (.ref f6) = true)
    (a7 : PySem.W.nsIn K mainGlobals "fits" = some (some (.ref f7))) (l7 : K.lookup f7 = some ⟨oc7, od7, .func (PySem.W.fnOf "fits" "fits" (defArgs s_fits) (defBody s_fits) (defScope s_fits) .none kV7 dc7 pm7 an7 cd7 ct7), sl7⟩) (c7 : PySem.W.codeIn K cd7 "fits" = true) (k7 : PySem.W.keepIn K (.ref f7) = true)
    (a8 : PySem.W.nsIn K mainGlobals "begins_with_word" = some (some (.ref f8))) (l8 : K.lookup f8 = some ⟨oc8, od8, .func (PySem.W.fnOf "begins_with_word" "begins_with_word" (defArgs s_begins_with_word) (defBody s_begins_with_word) (defScope s_begins_with_word) .none kV8 dc8 pm8 an8 cd8 ct8), sl8⟩) (c8 : PySem.W.codeIn K cd8 "begins_with_word" = true) (k8 : PySem.W.keepIn K (.ref f8) = true)
    (a9 : PySem.W.nsIn K mainGlobals "matches" = some (some (.ref f9))) (l9 : K.lookup f9 = some ⟨oc9, od9, .func (PySem.W.fnOf "matches" "matches" (defArgs s_matches) (defBody s_matches) (defScope s_matches) .none kV9 dc9 pm9 an9 cd9 ct9), sl9⟩) (c9 : PySem.W.codeIn K cd9 "matches" = true) (k9 : PySem.W.keepIn K (.ref f9) = true)
    (a10 : PySem.W.nsIn K mainGlobals "is_row" = some (some (.ref f10))) (l10 : K.lookup f10 = some ⟨oc10, od10, .func (PySem.W.fnOf "is_row" "is_row" (defArgs s_is_row) (defBody s_is_row) (defScope s_is_row) .none kV10 dc10 pm10 an10 cd10 ct10), sl10⟩) (c10 : PySem.W.codeIn K cd10 "is_row" = true) (k10 : PySem.W.keepIn K (.ref f10) = true)
    (a11 : PySem.W.nsIn K mainGlobals "is_finding" = some (some (.ref f11))) (l11 : K.lookup f11 = some ⟨oc11, od11, .func (PySem.W.fnOf "is_finding" "is_finding" (defArgs s_is_finding) (defBody s_is_finding) (defScope s_is_finding) .none kV11 dc11 pm11 an11 cd11 ct11), sl11⟩) (c11 : PySem.W.codeIn K cd11 "is_finding" = true) (k11 : PySem.W.keepIn K (.ref f11) = true)
    (a12 : PySem.W.nsIn K mainGlobals "_law_feed" = some (some (.ref f12))) (l12 : K.lookup f12 = some ⟨oc12, od12, .func (PySem.W.fnOf "_law_feed" "_law_feed" (defArgs s__law_feed) (defBody s__law_feed) (defScope s__law_feed) .none kV12 dc12 pm12 an12 cd12 ct12), sl12⟩) (c12 : PySem.W.codeIn K cd12 "_law_feed" = true) (k12 : PySem.W.keepIn K (.ref f12) = true)
    (a13 : PySem.W.nsIn K mainGlobals "_law_draw" = some (some (.ref f13))) (l13 : K.lookup f13 = some ⟨oc13, od13, .func (PySem.W.fnOf "_law_draw" "_law_draw" (defArgs s__law_draw) (defBody s__law_draw) (defScope s__law_draw) .none kV13 dc13 pm13 an13 cd13 ct13), sl13⟩) (c13 : PySem.W.codeIn K cd13 "_law_draw" = true) (k13 : PySem.W.keepIn K (.ref f13) = true)
    (a14 : PySem.W.nsIn K mainGlobals "_law_count" = some (some (.ref f14))) (l14 : K.lookup f14 = some ⟨oc14, od14, .func (PySem.W.fnOf "_law_count" "_law_count" (defArgs s__law_count) (defBody s__law_count) (defScope s__law_count) .none kV14 dc14 pm14 an14 cd14 ct14), sl14⟩) (c14 : PySem.W.codeIn K cd14 "_law_count" = true) (k14 : PySem.W.keepIn K (.ref f14) = true)
    (a15 : PySem.W.nsIn K mainGlobals "_law_named" = some (some (.ref f15))) (l15 : K.lookup f15 = some ⟨oc15, od15, .func (PySem.W.fnOf "_law_named" "_law_named" (defArgs s__law_named) (defBody s__law_named) (defScope s__law_named) .none kV15 dc15 pm15 an15 cd15 ct15), sl15⟩) (c15 : PySem.W.codeIn K cd15 "_law_named" = true) (k15 : PySem.W.keepIn K (.ref f15) = true)
    (a16 : PySem.W.nsIn K mainGlobals "_law_placed" = some (some (.ref f16))) (l16 : K.lookup f16 = some ⟨oc16, od16, .func (PySem.W.fnOf "_law_placed" "_law_placed" (defArgs s__law_placed) (defBody s__law_placed) (defScope s__law_placed) .none kV16 dc16 pm16 an16 cd16 ct16), sl16⟩) (c16 : PySem.W.codeIn K cd16 "_law_placed" = true) (k16 : PySem.W.keepIn K (.ref f16) = true)
    (a17 : PySem.W.nsIn K mainGlobals "_law_formed" = some (some (.ref f17))) (l17 : K.lookup f17 = some ⟨oc17, od17, .func (PySem.W.fnOf "_law_formed" "_law_formed" (defArgs s__law_formed) (defBody s__law_formed) (defScope s__law_formed) .none kV17 dc17 pm17 an17 cd17 ct17), sl17⟩) (c17 : PySem.W.codeIn K cd17 "_law_formed" = true) (k17 : PySem.W.keepIn K (.ref f17) = true)
    (a18 : PySem.W.nsIn K mainGlobals "_law_found" = some (some (.ref f18))) (l18 : K.lookup f18 = some ⟨oc18, od18, .func (PySem.W.fnOf "_law_found" "_law_found" (defArgs s__law_found) (defBody s__law_found) (defScope s__law_found) .none kV18 dc18 pm18 an18 cd18 ct18), sl18⟩) (c18 : PySem.W.codeIn K cd18 "_law_found" = true) (k18 : PySem.W.keepIn K (.ref f18) = true)
    (a19 : PySem.W.nsIn K mainGlobals "_law_book" = some (some (.ref f19))) (l19 : K.lookup f19 = some ⟨oc19, od19, .func (PySem.W.fnOf "_law_book" "_law_book" (defArgs s__law_book) (defBody s__law_book) (defScope s__law_book) .none kV19 dc19 pm19 an19 cd19 ct19), sl19⟩) (c19 : PySem.W.codeIn K cd19 "_law_book" = true) (k19 : PySem.W.keepIn K (.ref f19) = true)
    (a20 : PySem.W.nsIn K mainGlobals "_law_notes" = some (some (.ref f20))) (l20 : K.lookup f20 = some ⟨oc20, od20, .func (PySem.W.fnOf "_law_notes" "_law_notes" (defArgs s__law_notes) (defBody s__law_notes) (defScope s__law_notes) .none kV20 dc20 pm20 an20 cd20 ct20), sl20⟩) (c20 : PySem.W.codeIn K cd20 "_law_notes" = true) (k20 : PySem.W.keepIn K (.ref f20) = true)
    (a21 : PySem.W.nsIn K mainGlobals "_law_case" = some (some (.ref f21))) (l21 : K.lookup f21 = some ⟨oc21, od21, .func (PySem.W.fnOf "_law_case" "_law_case" (defArgs s__law_case) (defBody s__law_case) (defScope s__law_case) .none kV21 dc21 pm21 an21 cd21 ct21), sl21⟩) (c21 : PySem.W.codeIn K cd21 "_law_case" = true) (k21 : PySem.W.keepIn K (.ref f21) = true)
    (a22 : PySem.W.nsIn K mainGlobals "_law_odd" = some (some (.ref f22))) (l22 : K.lookup f22 = some ⟨oc22, od22, .func (PySem.W.fnOf "_law_odd" "_law_odd" (defArgs s__law_odd) (defBody s__law_odd) (defScope s__law_odd) .none kV22 dc22 pm22 an22 cd22 ct22), sl22⟩) (c22 : PySem.W.codeIn K cd22 "_law_odd" = true) (k22 : PySem.W.keepIn K (.ref f22) = true)
    (a23 : PySem.W.nsIn K mainGlobals "_law_bent" = some (some (.ref f23))) (l23 : K.lookup f23 = some ⟨oc23, od23, .func (PySem.W.fnOf "_law_bent" "_law_bent" (defArgs s__law_bent) (defBody s__law_bent) (defScope s__law_bent) .none kV23 dc23 pm23 an23 cd23 ct23), sl23⟩) (c23 : PySem.W.codeIn K cd23 "_law_bent" = true) (k23 : PySem.W.keepIn K (.ref f23) = true)
    (a24 : PySem.W.nsIn K mainGlobals "_law_right" = some (some (.ref f24))) (l24 : K.lookup f24 = some ⟨oc24, od24, .func (PySem.W.fnOf "_law_right" "_law_right" (defArgs s__law_right) (defBody s__law_right) (defScope s__law_right) .none kV24 dc24 pm24 an24 cd24 ct24), sl24⟩) (c24 : PySem.W.codeIn K cd24 "_law_right" = true) (k24 : PySem.W.keepIn K (.ref f24) = true)
    (a25 : PySem.W.nsIn K mainGlobals "_law_values" = some (some (.ref f25))) (l25 : K.lookup f25 = some ⟨oc25, od25, .func (PySem.W.fnOf "_law_values" "_law_values" (defArgs s__law_values) (defBody s__law_values) (defScope s__law_values) .none kV25 dc25 pm25 an25 cd25 ct25), sl25⟩) (c25 : PySem.W.codeIn K cd25 "_law_values" = true) (k25 : PySem.W.keepIn K (.ref f25) = true)
    (a26 : PySem.W.nsIn K mainGlobals "law" = some (some (.ref f26))) (l26 : K.lookup f26 = some ⟨oc26, od26, .func (PySem.W.fnOf "law" "law" (defArgs s_law) (defBody s_law) (defScope s_law) .none kV26 dc26 pm26 an26 cd26 ct26), sl26⟩) (c26 : PySem.W.codeIn K cd26 "law" = true) (k26 : PySem.W.keepIn K (.ref f26) = true)
    (z_all : PySem.W.nsIn K mainGlobals "all" = some none)
    (z_bool : PySem.W.nsIn K mainGlobals "bool" = some none)
    (z_dict : PySem.W.nsIn K mainGlobals "dict" = some none)
    (z_int : PySem.W.nsIn K mainGlobals "int" = some none)
    (z_isinstance : PySem.W.nsIn K mainGlobals "isinstance" = some none)
    (z_len : PySem.W.nsIn K mainGlobals "len" = some none)
    (z_list : PySem.W.nsIn K mainGlobals "list" = some none)
    (z_max : PySem.W.nsIn K mainGlobals "max" = some none)
    (z_min : PySem.W.nsIn K mainGlobals "min" = some none)
    (z_ord : PySem.W.nsIn K mainGlobals "ord" = some none)
    (z_range : PySem.W.nsIn K mainGlobals "range" = some none)
    (z_repr : PySem.W.nsIn K mainGlobals "repr" = some none)
    (z_sorted : PySem.W.nsIn K mainGlobals "sorted" = some none)
    (z_str : PySem.W.nsIn K mainGlobals "str" = some none)
    (z_tuple : PySem.W.nsIn K mainGlobals "tuple" = some none)
    (z_zip : PySem.W.nsIn K mainGlobals "zip" = some none) (at_ROW_FORMS : PySem.W.nsIn K mainGlobals "ROW_FORMS" = some (some (.ref t_ROW_FORMS))) (lt_ROW_FORMS : K.lookup t_ROW_FORMS = some ⟨.type "dict", none, .dict #[⟨h0, .str "come" e0, .ref b0⟩, ⟨h1, .str "move" e1, .ref b1⟩, ⟨h2, .str "sell" e2, .ref b2⟩, ⟨h3, .str "waste" e3, .ref b3⟩, ⟨h4, .str "back" e4, .ref b4⟩] n_ROW_FORMS, #[]⟩) (kt_ROW_FORMS : PySem.W.KeysLit w.params [⟨h0, .str "come" e0, .ref b0⟩, ⟨h1, .str "move" e1, .ref b1⟩, ⟨h2, .str "sell" e2, .ref b2⟩, ⟨h3, .str "waste" e3, .ref b3⟩, ⟨h4, .str "back" e4, .ref b4⟩]) (st_ROW_FORMS : (t_ROW_FORMS == sysModules) = false) (lb0 : K.lookup b0 = some ⟨.type "tuple", dd0, .seq #[.str "name" u0_0, .str "name" u0_1, .str "units" u0_2] nn0, ss0⟩) (lb1 : K.lookup b1 = some ⟨.type "tuple", dd1, .seq #[.str "name" u1_0, .str "name" u1_1, .str "units" u1_2] nn1, ss1⟩) (lb2 : K.lookup b2 = some ⟨.type "tuple", dd2, .seq #[.str "name" u2_0, .str "units" u2_1] nn2, ss2⟩) (lb3 : K.lookup b3 = some ⟨.type "tuple", dd3, .seq #[.str "name" u3_0, .str "units" u3_1] nn3, ss3⟩) (lb4 : K.lookup b4 = some ⟨.type "tuple", dd4, .seq #[.str "number" u4_0, .str "name" u4_1] nn4, ss4⟩) :
    ∃ fd : FuncData, (∀ (s : Shared) (v : Value), BindsTo s fd ⟨[v], []⟩ [("_law_script", v)]) ∧ ∀ base : Heap, K.In base → base.Ns mainGlobals mg → FnG l.prog w K mg base 9 fa fd ["_law_script"] (lift K 1 d_law) := by
  have e := hfa.symm.trans (PySem.W.mg_of X G a26)
  cases e
  have F0 := fun_mk (st := s_row_form) l0 c0 k0
  have B0 := F0.binds (ps := ["word"]) fun _ _ _ _ _ _ us hl => match us, hl with | [_], _ => rfl
  have H0 : Has K mg "row_form" s_row_form ["word"] f0 _ := ⟨F0, PySem.W.mg_of X G a0, k0, B0⟩
  have F1 := fun_mk (st := s_is_whole) l1 c1 k1
  have B1 := F1.binds (ps := ["thing"]) fun _ _ _ _ _ _ us hl => match us, hl with | [_], _ => rfl
  have H1 : Has K mg "is_whole" s_is_whole ["thing"] f1 _ := ⟨F1, PySem.W.mg_of X G a1, k1, B1⟩
  have F2 := fun_mk (st := s_is_number) l2 c2 k2
  have B2 := F2.binds (ps := ["thing"]) fun _ _ _ _ _ _ us hl => match us, hl with | [_], _ => rfl
  have H2 : Has K mg "is_number" s_is_number ["thing"] f2 _ := ⟨F2, PySem.W.mg_of X G a2, k2, B2⟩
  have F3 := fun_mk (st := s_is_name) l3 c3 k3
  have B3 := F3.binds (ps := ["thing"]) fun _ _ _ _ _ _ us hl => match us, hl with | [_], _ => rfl
  have H3 : Has K mg "is_name" s_is_name ["thing"] f3 _ := ⟨F3, PySem.W.mg_of X G a3, k3, B3⟩
  have F4 := fun_mk (st := s_is_kind) l4 c4 k4
  have B4 := F4.binds (ps := ["thing"]) fun _ _ _ _ _ _ us hl => match us, hl with | [_], _ => rfl
  have H4 : Has K mg "is_kind" s_is_kind ["thing"] f4 _ := ⟨F4, PySem.W.mg_of X G a4, k4, B4⟩
  have F5 := fun_mk (st := s_is_place) l5 c5 k5
  have B5 := F5.binds (ps := ["thing"]) fun _ _ _ _ _ _ us hl => match us, hl with | [_], _ => rfl
  have H5 : Has K mg "is_place" s_is_place ["thing"] f5 _ := ⟨F5, PySem.W.mg_of X G a5, k5, B5⟩
  have F6 := fun_mk (st := s_is_finding_word) l6 c6 k6
  have B6 := F6.binds (ps := ["thing"]) fun _ _ _ _ _ _ us hl => match us, hl with | [_], _ => rfl
  have H6 : Has K mg "is_finding_word" s_is_finding_word ["thing"] f6 _ := ⟨F6, PySem.W.mg_of X G a6, k6, B6⟩
  have F7 := fun_mk (st := s_fits) l7 c7 k7
  have B7 := F7.binds (ps := ["kind", "thing"]) fun _ _ _ _ _ _ us hl => match us, hl with | [_, _], _ => rfl
  have H7 : Has K mg "fits" s_fits ["kind", "thing"] f7 _ := ⟨F7, PySem.W.mg_of X G a7, k7, B7⟩
  have F8 := fun_mk (st := s_begins_with_word) l8 c8 k8
  have B8 := F8.binds (ps := ["thing"]) fun _ _ _ _ _ _ us hl => match us, hl with | [_], _ => rfl
  have H8 : Has K mg "begins_with_word" s_begins_with_word ["thing"] f8 _ := ⟨F8, PySem.W.mg_of X G a8, k8, B8⟩
  have F9 := fun_mk (st := s_matches) l9 c9 k9
  have B9 := F9.binds (ps := ["form", "thing"]) fun _ _ _ _ _ _ us hl => match us, hl with | [_, _], _ => rfl
  have H9 : Has K mg "matches" s_matches ["form", "thing"] f9 _ := ⟨F9, PySem.W.mg_of X G a9, k9, B9⟩
  have F10 := fun_mk (st := s_is_row) l10 c10 k10
  have B10 := F10.binds (ps := ["thing"]) fun _ _ _ _ _ _ us hl => match us, hl with | [_], _ => rfl
  have H10 : Has K mg "is_row" s_is_row ["thing"] f10 _ := ⟨F10, PySem.W.mg_of X G a10, k10, B10⟩
  have F11 := fun_mk (st := s_is_finding) l11 c11 k11
  have B11 := F11.binds (ps := ["thing"]) fun _ _ _ _ _ _ us hl => match us, hl with | [_], _ => rfl
  have H11 : Has K mg "is_finding" s_is_finding ["thing"] f11 _ := ⟨F11, PySem.W.mg_of X G a11, k11, B11⟩
  have F12 := fun_mk (st := s__law_feed) l12 c12 k12
  have B12 := F12.binds (ps := ["_law_script"]) fun _ _ _ _ _ _ us hl => match us, hl with | [_], _ => rfl
  have H12 : Has K mg "_law_feed" s__law_feed ["_law_script"] f12 _ := ⟨F12, PySem.W.mg_of X G a12, k12, B12⟩
  have F13 := fun_mk (st := s__law_draw) l13 c13 k13
  have B13 := F13.binds (ps := ["_law_feed_here", "_law_many"]) fun _ _ _ _ _ _ us hl => match us, hl with | [_, _], _ => rfl
  have H13 : Has K mg "_law_draw" s__law_draw ["_law_feed_here", "_law_many"] f13 _ := ⟨F13, PySem.W.mg_of X G a13, k13, B13⟩
  have F14 := fun_mk (st := s__law_count) l14 c14 k14
  have B14 := F14.binds (ps := ["_law_item"]) fun _ _ _ _ _ _ us hl => match us, hl with | [_], _ => rfl
  have H14 : Has K mg "_law_count" s__law_count ["_law_item"] f14 _ := ⟨F14, PySem.W.mg_of X G a14, k14, B14⟩
  have F15 := fun_mk (st := s__law_named) l15 c15 k15
  have B15 := F15.binds (ps := ["_law_item"]) fun _ _ _ _ _ _ us hl => match us, hl with | [_], _ => rfl
  have H15 : Has K mg "_law_named" s__law_named ["_law_item"] f15 _ := ⟨F15, PySem.W.mg_of X G a15, k15, B15⟩
  have F16 := fun_mk (st := s__law_placed) l16 c16 k16
  have B16 := F16.binds (ps := ["_law_item"]) fun _ _ _ _ _ _ us hl => match us, hl with | [_], _ => rfl
  have H16 : Has K mg "_law_placed" s__law_placed ["_law_item"] f16 _ := ⟨F16, PySem.W.mg_of X G a16, k16, B16⟩
  have F17 := fun_mk (st := s__law_formed) l17 c17 k17
  have B17 := F17.binds (ps := ["_law_item"]) fun _ _ _ _ _ _ us hl => match us, hl with | [_], _ => rfl
  have H17 : Has K mg "_law_formed" s__law_formed ["_law_item"] f17 _ := ⟨F17, PySem.W.mg_of X G a17, k17, B17⟩
  have F18 := fun_mk (st := s__law_found) l18 c18 k18
  have B18 := F18.binds (ps := ["_law_item"]) fun _ _ _ _ _ _ us hl => match us, hl with | [_], _ => rfl
  have H18 : Has K mg "_law_found" s__law_found ["_law_item"] f18 _ := ⟨F18, PySem.W.mg_of X G a18, k18, B18⟩
  have F19 := fun_mk (st := s__law_book) l19 c19 k19
  have B19 := F19.binds (ps := ["_law_feed_here", "_law_size"]) fun _ _ _ _ _ _ us hl => match us, hl with | [_, _], _ => rfl
  have H19 : Has K mg "_law_book" s__law_book ["_law_feed_here", "_law_size"] f19 _ := ⟨F19, PySem.W.mg_of X G a19, k19, B19⟩
  have F20 := fun_mk (st := s__law_notes) l20 c20 k20
  have B20 := F20.binds (ps := ["_law_feed_here", "_law_sheet"]) fun _ _ _ _ _ _ us hl => match us, hl with | [_, _], _ => rfl
  have H20 : Has K mg "_law_notes" s__law_notes ["_law_feed_here", "_law_sheet"] f20 _ := ⟨F20, PySem.W.mg_of X G a20, k20, B20⟩
  have F21 := fun_mk (st := s__law_case) l21 c21 k21
  have B21 := F21.binds (ps := ["_law_feed_here", "_law_size"]) fun _ _ _ _ _ _ us hl => match us, hl with | [_, _], _ => rfl
  have H21 : Has K mg "_law_case" s__law_case ["_law_feed_here", "_law_size"] f21 _ := ⟨F21, PySem.W.mg_of X G a21, k21, B21⟩
  have F22 := fun_mk (st := s__law_odd) l22 c22 k22
  have B22 := F22.binds (ps := ["_law_feed_here"]) fun _ _ _ _ _ _ us hl => match us, hl with | [_], _ => rfl
  have H22 : Has K mg "_law_odd" s__law_odd ["_law_feed_here"] f22 _ := ⟨F22, PySem.W.mg_of X G a22, k22, B22⟩
  have F23 := fun_mk (st := s__law_bent) l23 c23 k23
  have B23 := F23.binds (ps := ["_law_feed_here", "_law_item"]) fun _ _ _ _ _ _ us hl => match us, hl with | [_, _], _ => rfl
  have H23 : Has K mg "_law_bent" s__law_bent ["_law_feed_here", "_law_item"] f23 _ := ⟨F23, PySem.W.mg_of X G a23, k23, B23⟩
  have F24 := fun_mk (st := s__law_right) l24 c24 k24
  have B24 := F24.binds (ps := ["_law_item"]) fun _ _ _ _ _ _ us hl => match us, hl with | [_], _ => rfl
  have H24 : Has K mg "_law_right" s__law_right ["_law_item"] f24 _ := ⟨F24, PySem.W.mg_of X G a24, k24, B24⟩
  have F25 := fun_mk (st := s__law_values) l25 c25 k25
  have B25 := F25.binds (ps := []) fun _ _ _ _ _ _ us hl => match us, hl with | [], _ => rfl
  have H25 : Has K mg "_law_values" s__law_values [] f25 _ := ⟨F25, PySem.W.mg_of X G a25, k25, B25⟩
  have F26 := fun_mk (st := s_law) l26 c26 k26
  have B26 := F26.binds (ps := ["_law_script"]) fun _ _ _ _ _ _ us hl => match us, hl with | [_], _ => rfl
  have H26 : Has K mg "law" s_law ["_law_script"] fa _ := ⟨F26, PySem.W.mg_of X G a26, k26, B26⟩
  have KW2 : KwOk _ ["thing"] ["thing"] [0] := kw_of F2 fun _ _ _ _ _ _ us hl => match us, hl with | [_], _ => rfl
  have KW3 : KwOk _ ["thing"] ["thing"] [0] := kw_of F3 fun _ _ _ _ _ _ us hl => match us, hl with | [_], _ => rfl
  have KW5 : KwOk _ ["thing"] ["thing"] [0] := kw_of F5 fun _ _ _ _ _ _ us hl => match us, hl with | [_], _ => rfl
  have KW10 : KwOk _ ["thing"] ["thing"] [0] := kw_of F10 fun _ _ _ _ _ _ us hl => match us, hl with | [_], _ => rfl
  have KW11 : KwOk _ ["thing"] ["thing"] [0] := kw_of F11 fun _ _ _ _ _ _ us hl => match us, hl with | [_], _ => rfl
  have TB : KTab K w t_ROW_FORMS tab_ROW_FORMS := by
    refine ⟨⟨_, _, lt_ROW_FORMS, kt_ROW_FORMS, st_ROW_FORMS⟩, fun x => ?_⟩
    unfold PySem.W.nsIn
    rw [lt_ROW_FORMS]
    simp only [List.find?_cons, List.find?_nil]
    unfold tab_ROW_FORMS
    have hk : ∀ (k : String) (t : Tok), (Value.str (Str.ofString k) t).isStr x = decide (x = Str.ofString k) := by
      intro k t
      show (_ == _) = _
      by_cases e : x = Str.ofString k
      · subst e; simp
      · rw [decide_eq_false e]; simpa [beq_eq_false_iff_ne] using (fun q => e q.symm)
    simp only [hk]
    by_cases q0 : x = "come"
    · rw [if_pos q0, decide_eq_true q0]
      exact ⟨_, rfl, .ref b0, rfl, fun F => .tup (xs := [.str "name", .str "name", .str "units"]) (.inr ⟨_, _, _, lb0, rfl, rfl, szl (show 3 ≤ 1000000 by decide), .cons ⟨_, rfl⟩ (.cons ⟨_, rfl⟩ (.cons ⟨_, rfl⟩ (.nil)))⟩) (.cons (.str _) (.cons (.str _) (.cons (.str _) (.nil))))⟩
    rw [if_neg q0, decide_eq_false q0]
    by_cases q1 : x = "move"
    · rw [if_pos q1, decide_eq_true q1]
      exact ⟨_, rfl, .ref b1, rfl, fun F => .tup (xs := [.str "name", .str "name", .str "units"]) (.inr ⟨_, _, _, lb1, rfl, rfl, szl (show 3 ≤ 1000000 by decide), .cons ⟨_, rfl⟩ (.cons ⟨_, rfl⟩ (.cons ⟨_, rfl⟩ (.nil)))⟩) (.cons (.str _) (.cons (.str _) (.cons (.str _) (.nil))))⟩
    rw [if_neg q1, decide_eq_false q1]
    by_cases q2 : x = "sell"
    · rw [if_pos q2, decide_eq_true q2]
      exact ⟨_, rfl, .ref b2, rfl, fun F => .tup (xs := [.str "name", .str "units"]) (.inr ⟨_, _, _, lb2, rfl, rfl, szl (show 2 ≤ 1000000 by decide), .cons ⟨_, rfl⟩ (.cons ⟨_, rfl⟩ (.nil))⟩) (.cons (.str _) (.cons (.str _) (.nil)))⟩
    rw [if_neg q2, decide_eq_false q2]
    by_cases q3 : x = "waste"
    · rw [if_pos q3, decide_eq_true q3]
      exact ⟨_, rfl, .ref b3, rfl, fun F => .tup (xs := [.str "name", .str "units"]) (.inr ⟨_, _, _, lb3, rfl, rfl, szl (show 2 ≤ 1000000 by decide), .cons ⟨_, rfl⟩ (.cons ⟨_, rfl⟩ (.nil))⟩) (.cons (.str _) (.cons (.str _) (.nil)))⟩
    rw [if_neg q3, decide_eq_false q3]
    by_cases q4 : x = "back"
    · rw [if_pos q4, decide_eq_true q4]
      exact ⟨_, rfl, .ref b4, rfl, fun F => .tup (xs := [.str "number", .str "name"]) (.inr ⟨_, _, _, lb4, rfl, rfl, szl (show 2 ≤ 1000000 by decide), .cons ⟨_, rfl⟩ (.cons ⟨_, rfl⟩ (.nil))⟩) (.cons (.str _) (.cons (.str _) (.nil)))⟩
    rw [if_neg q4, decide_eq_false q4]
    exact ⟨none, rfl, trivial⟩
  let a : Ad := { f_row_form := f0, fd_row_form := PySem.W.fnOf "row_form" "row_form" (defArgs s_row_form) (defBody s_row_form) (defScope s_row_form) .none kV0 dc0 pm0 an0 cd0 ct0, f_is_whole := f1, fd_is_whole := PySem.W.fnOf "is_whole" "is_whole" (defArgs s_is_whole) (defBody s_is_whole) (defScope s_is_whole) .none kV1 dc1 pm1 an1 cd1 ct1, f_is_number := f2, fd_is_number := PySem.W.fnOf "is_number" "is_number" (defArgs s_is_number) (defBody s_is_number) (defScope s_is_number) .none kV2 dc2 pm2 an2 cd2 ct2, f_is_name := f3, fd_is_name := PySem.W.fnOf "is_name" "is_name" (defArgs s_is_name) (defBody s_is_name) (defScope s_is_name) .none kV3 dc3 pm3 an3 cd3 ct3, f_is_kind := f4, fd_is_kind := PySem.W.fnOf "is_kind" "is_kind" (defArgs s_is_kind) (defBody s_is_kind) (defScope s_is_kind) .none kV4 dc4 pm4 an4 cd4 ct4, f_is_place := f5, fd_is_place := PySem.W.fnOf "is_place" "is_place" (defArgs s_is_place) (defBody s_is_place) (defScope s_is_place) .none kV5 dc5 pm5 an5 cd5 ct5, f_is_finding_word := f6, fd_is_finding_word := PySem.W.fnOf "is_finding_word" "is_finding_word" (defArgs s_is_finding_word) (defBody s_is_finding_word) (defScope s_is_finding_word) .none kV6 dc6 pm6 an6 cd6 ct6, f_fits := f7, fd_fits := PySem.W.fnOf "fits" "fits" (defArgs s_fits) (defBody s_fits) (defScope s_fits) .none kV7 dc7 pm7 an7 cd7 ct7, f_begins_with_word := f8, fd_begins_with_word := PySem.W.fnOf "begins_with_word" "begins_with_word" (defArgs s_begins_with_word) (defBody s_begins_with_word) (defScope s_begins_with_word) .none kV8 dc8 pm8 an8 cd8 ct8, f_matches := f9, fd_matches := PySem.W.fnOf "matches" "matches" (defArgs s_matches) (defBody s_matches) (defScope s_matches) .none kV9 dc9 pm9 an9 cd9 ct9, f_is_row := f10, fd_is_row := PySem.W.fnOf "is_row" "is_row" (defArgs s_is_row) (defBody s_is_row) (defScope s_is_row) .none kV10 dc10 pm10 an10 cd10 ct10, f_is_finding := f11, fd_is_finding := PySem.W.fnOf "is_finding" "is_finding" (defArgs s_is_finding) (defBody s_is_finding) (defScope s_is_finding) .none kV11 dc11 pm11 an11 cd11 ct11, f__law_feed := f12, fd__law_feed := PySem.W.fnOf "_law_feed" "_law_feed" (defArgs s__law_feed) (defBody s__law_feed) (defScope s__law_feed) .none kV12 dc12 pm12 an12 cd12 ct12, f__law_draw := f13, fd__law_draw := PySem.W.fnOf "_law_draw" "_law_draw" (defArgs s__law_draw) (defBody s__law_draw) (defScope s__law_draw) .none kV13 dc13 pm13 an13 cd13 ct13, f__law_count := f14, fd__law_count := PySem.W.fnOf "_law_count" "_law_count" (defArgs s__law_count) (defBody s__law_count) (defScope s__law_count) .none kV14 dc14 pm14 an14 cd14 ct14, f__law_named := f15, fd__law_named := PySem.W.fnOf "_law_named" "_law_named" (defArgs s__law_named) (defBody s__law_named) (defScope s__law_named) .none kV15 dc15 pm15 an15 cd15 ct15, f__law_placed := f16, fd__law_placed := PySem.W.fnOf "_law_placed" "_law_placed" (defArgs s__law_placed) (defBody s__law_placed) (defScope s__law_placed) .none kV16 dc16 pm16 an16 cd16 ct16, f__law_formed := f17, fd__law_formed := PySem.W.fnOf "_law_formed" "_law_formed" (defArgs s__law_formed) (defBody s__law_formed) (defScope s__law_formed) .none kV17 dc17 pm17 an17 cd17 ct17, f__law_found := f18, fd__law_found := PySem.W.fnOf "_law_found" "_law_found" (defArgs s__law_found) (defBody s__law_found) (defScope s__law_found) .none kV18 dc18 pm18 an18 cd18 ct18, f__law_book := f19, fd__law_book := PySem.W.fnOf "_law_book" "_law_book" (defArgs s__law_book) (defBody s__law_book) (defScope s__law_book) .none kV19 dc19 pm19 an19 cd19 ct19, f__law_notes := f20, fd__law_notes := PySem.W.fnOf "_law_notes" "_law_notes" (defArgs s__law_notes) (defBody s__law_notes) (defScope s__law_notes) .none kV20 dc20 pm20 an20 cd20 ct20, f__law_case := f21, fd__law_case := PySem.W.fnOf "_law_case" "_law_case" (defArgs s__law_case) (defBody s__law_case) (defScope s__law_case) .none kV21 dc21 pm21 an21 cd21 ct21, f__law_odd := f22, fd__law_odd := PySem.W.fnOf "_law_odd" "_law_odd" (defArgs s__law_odd) (defBody s__law_odd) (defScope s__law_odd) .none kV22 dc22 pm22 an22 cd22 ct22, f__law_bent := f23, fd__law_bent := PySem.W.fnOf "_law_bent" "_law_bent" (defArgs s__law_bent) (defBody s__law_bent) (defScope s__law_bent) .none kV23 dc23 pm23 an23 cd23 ct23, f__law_right := f24, fd__law_right := PySem.W.fnOf "_law_right" "_law_right" (defArgs s__law_right) (defBody s__law_right) (defScope s__law_right) .none kV24 dc24 pm24 an24 cd24 ct24, f__law_values := f25, fd__law_values := PySem.W.fnOf "_law_values" "_law_values" (defArgs s__law_values) (defBody s__law_values) (defScope s__law_values) .none kV25 dc25 pm25 an25 cd25 ct25, f_law := fa, fd_law := PySem.W.fnOf "law" "law" (defArgs s_law) (defBody s_law) (defScope s_law) .none kV26 dc26 pm26 an26 cd26 ct26, a_ROW_FORMS := t_ROW_FORMS }
  have T : Tx K mg w a := { h_row_form := H0, h_is_whole := H1, h_is_number := H2, h_is_name := H3, h_is_kind := H4, h_is_place := H5, h_is_finding_word := H6, h_fits := H7, h_begins_with_word := H8, h_matches := H9, h_is_row := H10, h_is_finding := H11, h__law_feed := H12, h__law_draw := H13, h__law_count := H14, h__law_named := H15, h__law_placed := H16, h__law_formed := H17, h__law_found := H18, h__law_book := H19, h__law_notes := H20, h__law_case := H21, h__law_odd := H22, h__law_bent := H23, h__law_right := H24, h__law_values := H25, h_law := H26, z_all := PySem.W.mg_none_of X G z_all, z_bool := PySem.W.mg_none_of X G z_bool, z_dict := PySem.W.mg_none_of X G z_dict, z_int := PySem.W.mg_none_of X G z_int, z_isinstance := PySem.W.mg_none_of X G z_isinstance, z_len := PySem.W.mg_none_of X G z_len, z_list := PySem.W.mg_none_of X G z_list, z_max := PySem.W.mg_none_of X G z_max, z_min := PySem.W.mg_none_of X G z_min, z_ord := PySem.W.mg_none_of X G z_ord, z_range := PySem.W.mg_none_of X G z_range, z_repr := PySem.W.mg_none_of X G z_repr, z_sorted := PySem.W.mg_none_of X G z_sorted, z_str := PySem.W.mg_none_of X G z_str, z_tuple := PySem.W.mg_none_of X G z_tuple, z_zip := PySem.W.mg_none_of X G z_zip, k_is_number_thing := KW2, k_is_name_thing := KW3, k_is_place_thing := KW5, k_is_row_thing := KW10, k_is_finding_thing := KW11, m_ROW_FORMS := PySem.W.mg_of X G at_ROW_FORMS, t_ROW_FORMS := TB }
  refine ⟨a.fd_law, fun s v => .of_eq rfl, fun base _ _ => ?_⟩
  have G_row_form := ok_row_form (P := l.prog) (base := base) T 
  have G_is_whole := ok_is_whole (P := l.prog) (base := base) T 
  have G_is_number := ok_is_number (P := l.prog) (base := base) T G_is_whole
  have G_is_name := ok_is_name (P := l.prog) (base := base) T 
  have G_is_kind := ok_is_kind (P := l.prog) (base := base) T 
  have G_is_place := ok_is_place (P := l.prog) (base := base) T G_is_kind G_is_name
  have G_is_finding_word := ok_is_finding_word (P := l.prog) (base := base) T 
  have G_fits := ok_fits (P := l.prog) (base := base) T G_is_finding_word G_is_name G_is_number
  have G_begins_with_word := ok_begins_with_word (P := l.prog) (base := base) T 
  have G_matches := ok_matches (P := l.prog) (base := base) T G_fits
  have G_is_row := ok_is_row (P := l.prog) (base := base) T G_begins_with_word G_matches G_row_form
  have G_is_finding := ok_is_finding (P := l.prog) (base := base) T G_is_finding_word G_is_number
  have G__law_feed := ok__law_feed (P := l.prog) (base := base) T 
  have G__law_draw := ok__law_draw (P := l.prog) (base := base) T 
  have G__law_count := ok__law_count (P := l.prog) (base := base) T 
  have G__law_named := ok__law_named (P := l.prog) (base := base) T 
  have G__law_placed := ok__law_placed (P := l.prog) (base := base) T G__law_named
  have G__law_formed := ok__law_formed (P := l.prog) (base := base) T G__law_count G__law_named
  have G__law_found := ok__law_found (P := l.prog) (base := base) T G__law_count
  have G__law_book := ok__law_book (P := l.prog) (base := base) T G__law_draw
  have G__law_notes := ok__law_notes (P := l.prog) (base := base) T G__law_draw
  have G__law_case := ok__law_case (P := l.prog) (base := base) T G__law_book G__law_draw G__law_notes
  have G__law_odd := ok__law_odd (P := l.prog) (base := base) T G__law_draw
  have G__law_bent := ok__law_bent (P := l.prog) (base := base) T G__law_draw G__law_odd
  have G__law_right := ok__law_right (P := l.prog) (base := base) T G__law_count G__law_formed G__law_found G__law_named G__law_placed G_is_finding G_is_name G_is_number G_is_place G_is_row
  have G__law_values := ok__law_values (P := l.prog) (base := base) T 
  have G_law := ok_law (P := l.prog) (base := base) T G__law_bent G__law_case G__law_draw G__law_feed G__law_right G__law_values G_is_finding G_is_name G_is_number G_is_place G_is_row
  exact G_law
theorem law_walk {l : PySem.W.OpenLaw} {q : Program} {loose : List Str} {XP : (Str → Option Value) → Heap → Prop} {YP : World → Heap → Prop} {d : DefRec} {K : Params → PySem.W.Frag} (hn : l.most = some 63) (hdf : d.params.defaults = [])
    (hY : ∀ (w : World) (h : Heap), YP w h → (K w.params).In h)
    (F : ∀ (w : World) (mg : Str → Option Value) (fa : Addr) (h : Heap), (K w.params).In h → h.Ns mainGlobals mg → mg d.name = some (.ref fa) →
      ∃ fd : FuncData, (∀ (s : Shared) (u : Value), BindsTo s fd ⟨[u], []⟩ [("_law_script", u)]) ∧ ∀ base : Heap, (K w.params).In base → base.Ns mainGlobals mg → FnG l.prog w (K w.params) mg base 9 fa fd ["_law_script"] (lift (K w.params) 1 d_law)) :
    PySem.W.WalkO q loose XP YP l.row.toRowW d [] (fun f vs => PySem.call f vs) :=
  walkG (n := 63) (k := 9) (x := "_law_script") (dl := d_law) hn (by decide) hdf ⟨rfl, by decide, by decide⟩ hY F fun ns hl => ⟨ns, rfl, hl, fun _ => rfl⟩
end Lo
open PySem PySem.W PyProof.Rows in
set_option maxRecDepth 100000 in
set_option maxHeartbeats 0 in
theorem PySem.Challenge.cw_lotback_k01_kinds_told_holds : PySem.Challenge.rw_lotback_k01_kinds_told.Holds := by
  w_on; o_law; k_head; (case hw => w_witness2)
  k_fill
  refine Lo.law_walk (l := PySem.Challenge.rw_lotback_k01_kinds_told) rfl rfl (fun w h Y => PySem.W.kIn_of Y) ?F
  case F =>
    intro w mg fa h KX G hmg
    refine' Lo.all_mk KX G hmg ?a0 ?l0 ?c0 ?k0 ?a1 ?l1 ?c1 ?k1 ?a2 ?l2 ?c2 ?k2 ?a3 ?l3 ?c3 ?k3 ?a4 ?l4 ?c4 ?k4 ?a5 ?l5 ?c5 ?k5 ?a6 ?l6 ?c6 ?k6 ?a7 ?l7 ?c7 ?k7 ?a8 ?l8 ?c8 ?k8 ?a9 ?l9 ?c9 ?k9 ?a10 ?l10 ?c10 ?k10 ?a11 ?l11 ?c11 ?k11 ?a12 ?l12 ?c12 ?k12 ?a13 ?l13 ?c13 ?k13 ?a14 ?l14 ?c14 ?k14 ?a15 ?l15 ?c15 ?k15 ?a16 ?l16 ?c16 ?k16 ?a17 ?l17 ?c17 ?k17 ?a18 ?l18 ?c18 ?k18 ?a19 ?l19 ?c19 ?k19 ?a20 ?l20 ?c20 ?k20 ?a21 ?l21 ?c21 ?k21 ?a22 ?l22 ?c22 ?k22 ?a23 ?l23 ?c23 ?k23 ?a24 ?l24 ?c24 ?k24 ?a25 ?l25 ?c25 ?k25 ?a26 ?l26 ?c26 ?k26 ?z_all ?z_bool ?z_dict ?z_int ?z_isinstance ?z_len ?z_list ?z_max ?z_min ?z_ord ?z_range ?z_repr ?z_sorted ?z_str ?z_tuple ?z_zip ?at_ROW_FORMS ?lt_ROW_FORMS ?kt_ROW_FORMS ?st_ROW_FORMS ?lb0 ?lb1 ?lb2 ?lb3 ?lb4
    (case a0 => k_is)
    (case l0 => k_is)
    (case c0 => k_is)
    (case k0 => k_is)
    (case a1 => k_is)
    (case l1 => k_is)
    (case c1 => k_is)
    (case k1 => k_is)
    (case a2 => k_is)
    (case l2 => k_is)
    (case c2 => k_is)
    (case k2 => k_is)
    (case a3 => k_is)
    (case l3 => k_is)
    (case c3 => k_is)
    (case k3 => k_is)
    (case a4 => k_is)
    (case l4 => k_is)
    (case c4 => k_is)
    (case k4 => k_is)
    (case a5 => k_is)
    (case l5 => k_is)
    (case c5 => k_is)
    (case k5 => k_is)
    (case a6 => k_is)
    (case l6 => k_is)
    (case c6 => k_is)
    (case k6 => k_is)
    (case a7 => k_is)
    (case l7 => k_is)
    (case c7 => k_is)
    (case k7 => k_is)
    (case a8 => k_is)
    (case l8 => k_is)
    (case c8 => k_is)
    (case k8 => k_is)
    (case a9 => k_is)
    (case l9 => k_is)
    (case c9 => k_is)
    (case k9 => k_is)
    (case a10 => k_is)
    (case l10 => k_is)
    (case c10 => k_is)
    (case k10 => k_is)
    (case a11 => k_is)
    (case l11 => k_is)
    (case c11 => k_is)
    (case k11 => k_is)
    (case a12 => k_is)
    (case l12 => k_is)
    (case c12 => k_is)
    (case k12 => k_is)
    (case a13 => k_is)
    (case l13 => k_is)
    (case c13 => k_is)
    (case k13 => k_is)
    (case a14 => k_is)
    (case l14 => k_is)
    (case c14 => k_is)
    (case k14 => k_is)
    (case a15 => k_is)
    (case l15 => k_is)
    (case c15 => k_is)
    (case k15 => k_is)
    (case a16 => k_is)
    (case l16 => k_is)
    (case c16 => k_is)
    (case k16 => k_is)
    (case a17 => k_is)
    (case l17 => k_is)
    (case c17 => k_is)
    (case k17 => k_is)
    (case a18 => k_is)
    (case l18 => k_is)
    (case c18 => k_is)
    (case k18 => k_is)
    (case a19 => k_is)
    (case l19 => k_is)
    (case c19 => k_is)
    (case k19 => k_is)
    (case a20 => k_is)
    (case l20 => k_is)
    (case c20 => k_is)
    (case k20 => k_is)
    (case a21 => k_is)
    (case l21 => k_is)
    (case c21 => k_is)
    (case k21 => k_is)
    (case a22 => k_is)
    (case l22 => k_is)
    (case c22 => k_is)
    (case k22 => k_is)
    (case a23 => k_is)
    (case l23 => k_is)
    (case c23 => k_is)
    (case k23 => k_is)
    (case a24 => k_is)
    (case l24 => k_is)
    (case c24 => k_is)
    (case k24 => k_is)
    (case a25 => k_is)
    (case l25 => k_is)
    (case c25 => k_is)
    (case k25 => k_is)
    (case a26 => k_is)
    (case l26 => k_is)
    (case c26 => k_is)
    (case k26 => k_is)
    (case z_all => k_is)
    (case z_bool => k_is)
    (case z_dict => k_is)
    (case z_int => k_is)
    (case z_isinstance => k_is)
    (case z_len => k_is)
    (case z_list => k_is)
    (case z_max => k_is)
    (case z_min => k_is)
    (case z_ord => k_is)
    (case z_range => k_is)
    (case z_repr => k_is)
    (case z_sorted => k_is)
    (case z_str => k_is)
    (case z_tuple => k_is)
    (case z_zip => k_is)
    (case at_ROW_FORMS => k_is)
    (case lt_ROW_FORMS => k_is)
    (case lb0 => k_is)
    (case lb1 => k_is)
    (case lb2 => k_is)
    (case lb3 => k_is)
    (case lb4 => k_is)
    (case st_ROW_FORMS => rfl)
    (case kt_ROW_FORMS => exact ⟨⟨_, _, rfl, rfl⟩, ⟨_, _, rfl, rfl⟩, ⟨_, _, rfl, rfl⟩, ⟨_, _, rfl, rfl⟩, ⟨_, _, rfl, rfl⟩, trivial⟩)
