import PyProof.Rows.All
import Wide.All
import OpenK.AllK
import Wide.FinOn
import HandS.ForMost
import HandS.TupAny
import HandS.IsInst
import PyProof.EqLayable
import PyProof.ReprRoads
import HandS.Evl
import HandS.Walk
import HandS.Steps
import PyProof.FactsAll.dict_1
import PyProof.FactsAll.subtypes_3
import HandS.More
import HandS.Conv
import KE.KDictSum
import HandS.Deep
import PySem.Challenge.RW_shapelang_k01_shapes
set_option Elab.async false
set_option linter.all false
set_option maxRecDepth 100000
set_option maxHeartbeats 4000000
namespace Sl
open PySem PySem.Spec PyProof.Rows L2

/-! ### data: a value with all that it reaches, none of it at an address of S -/
def kD : Key → PyData
  | .inl i => .int i
  | .inr x => .str x
mutual
inductive Da (S : Addr → Prop) (H : Hp) : V → PyData → Prop
  | non : Da S H .non .none
  | bl (b : Bool) : Da S H (.bl b) (.bool b)
  | int (i : Int) : Da S H (.int i) (.int i)
  | str (x : Str) : Da S H (.str x) (.str x)
  | lst {a : Addr} {xs : List V} {ds : List PyData} : ¬ S a → H a = some (.lst xs) → DaAll S H xs ds → Da S H (.ref a) (.list ds)
  | tup {a : Addr} {xs : List V} {ds : List PyData} : ¬ S a → H a = some (.tup xs) → DaAll S H xs ds → Da S H (.ref a) (.tuple ds)
  | dct {a : Addr} {kvs : List (Key × V)} {ds : List PyData} : ¬ S a → H a = some (.dK kvs) → DaAll S H (kvs.map (·.2)) ds → Da S H (.ref a) (.dict ((kvs.map fun p => kD p.1).zip ds))
inductive DaAll (S : Addr → Prop) (H : Hp) : List V → List PyData → Prop
  | nil : DaAll S H [] []
  | cons {v : V} {vs : List V} {d : PyData} {ds : List PyData} : Da S H v d → DaAll S H vs ds → DaAll S H (v :: vs) (d :: ds)
end
/-- all but what stands at the addresses of T is as it was -/
def Kp (T : Addr → Prop) (H H' : Hp) : Prop := ∀ a o, ¬ T a → H a = some o → H' a = some o
theorem Kp.refl {T : Addr → Prop} (H : Hp) : Kp T H H := fun _ _ _ h => h
theorem Kp.trans {T : Addr → Prop} {H H1 H2 : Hp} (a : Kp T H H1) (b : Kp T H1 H2) : Kp T H H2 := fun x o n h => b x o n (a x o n h)
theorem Kp.of {T : Addr → Prop} {H H' : Hp} (s : Same H H') : Kp T H H' := fun a o _ h => s a o h
theorem Kp.mono {T U : Addr → Prop} {H H' : Hp} (s : Kp T H H') (h : ∀ a, T a → U a) : Kp U H H' := fun a o n e => s a o (fun t => n (h a t)) e
mutual
theorem Da.keep {S T : Addr → Prop} {H H' : Hp} (k : Kp T H H') (st : ∀ a, T a → S a) : ∀ {v : V} {d : PyData}, Da S H v d → Da S H' v d
  | _, _, .non => .non
  | _, _, .bl b => .bl b
  | _, _, .int i => .int i
  | _, _, .str x => .str x
  | _, _, .lst n h a => .lst n (k _ _ (fun t => n (st _ t)) h) (DaAll.keep k st a)
  | _, _, .tup n h a => .tup n (k _ _ (fun t => n (st _ t)) h) (DaAll.keep k st a)
  | _, _, .dct n h a => .dct n (k _ _ (fun t => n (st _ t)) h) (DaAll.keep k st a)
theorem DaAll.keep {S T : Addr → Prop} {H H' : Hp} (k : Kp T H H') (st : ∀ a, T a → S a) : ∀ {vs : List V} {ds : List PyData}, DaAll S H vs ds → DaAll S H' vs ds
  | _, _, .nil => .nil
  | _, _, .cons h t => .cons (Da.keep k st h) (DaAll.keep k st t)
end
theorem Da.same {S : Addr → Prop} {H H' : Hp} (k : Same H H') {v : V} {d : PyData} (h : Da S H v d) : Da S H' v d := h.keep (T := fun _ => False) (fun a o _ e => k a o e) fun _ z => z.elim
theorem DaAll.same {S : Addr → Prop} {H H' : Hp} (k : Same H H') {v : List V} {d : List PyData} (h : DaAll S H v d) : DaAll S H' v d := h.keep (T := fun _ => False) (fun a o _ e => k a o e) fun _ z => z.elim
mutual
/-- fewer addresses to keep away from -/
theorem Da.less {S T : Addr → Prop} {H : Hp} (st : ∀ a, T a → S a) : ∀ {v : V} {d : PyData}, Da S H v d → Da T H v d
  | _, _, .non => .non
  | _, _, .bl b => .bl b
  | _, _, .int i => .int i
  | _, _, .str x => .str x
  | _, _, .lst n h a => .lst (fun t => n (st _ t)) h (DaAll.less st a)
  | _, _, .tup n h a => .tup (fun t => n (st _ t)) h (DaAll.less st a)
  | _, _, .dct n h a => .dct (fun t => n (st _ t)) h (DaAll.less st a)
theorem DaAll.less {S T : Addr → Prop} {H : Hp} (st : ∀ a, T a → S a) : ∀ {vs : List V} {ds : List PyData}, DaAll S H vs ds → DaAll T H vs ds
  | _, _, .nil => .nil
  | _, _, .cons h t => .cons (Da.less st h) (DaAll.less st t)
end
mutual
/-- one more address, where nothing stood -/
theorem Da.more {S : Addr → Prop} {H : Hp} {l : Addr} (hl : H l = none) : ∀ {v : V} {d : PyData}, Da S H v d → Da (fun a => S a ∨ a = l) H v d
  | _, _, .non => .non
  | _, _, .bl b => .bl b
  | _, _, .int i => .int i
  | _, _, .str x => .str x
  | _, _, .lst n h a => .lst (fun t => t.elim n fun e => ne_of_none h hl e) h (DaAll.more hl a)
  | _, _, .tup n h a => .tup (fun t => t.elim n fun e => ne_of_none h hl e) h (DaAll.more hl a)
  | _, _, .dct n h a => .dct (fun t => t.elim n fun e => ne_of_none h hl e) h (DaAll.more hl a)
theorem DaAll.more {S : Addr → Prop} {H : Hp} {l : Addr} (hl : H l = none) : ∀ {vs : List V} {ds : List PyData}, DaAll S H vs ds → DaAll (fun a => S a ∨ a = l) H vs ds
  | _, _, .nil => .nil
  | _, _, .cons h t => .cons (Da.more hl h) (DaAll.more hl t)
end
theorem DaAll.length {S : Addr → Prop} {H : Hp} : ∀ {vs : List V} {ds : List PyData}, DaAll S H vs ds → vs.length = ds.length
  | _, _, .nil => rfl
  | _, _, .cons _ t => congrArg (· + 1) t.length
theorem DaAll.get {S : Addr → Prop} {H : Hp} : ∀ {vs : List V} {ds : List PyData} {i : Nat} {v : V}, DaAll S H vs ds → vs[i]? = some v → ∃ d, ds[i]? = some d ∧ Da S H v d
  | _, _, _, _, .nil, e => by simp at e
  | _, _, 0, _, .cons h _, e => by simp at e; subst e; exact ⟨_, rfl, h⟩
  | _, _, i + 1, v, .cons _ t, e => by
    obtain ⟨d, h1, h2⟩ := DaAll.get (i := i) (v := v) t (by simpa using e)
    exact ⟨d, by simpa using h1, h2⟩
theorem DaAll.append {S : Addr → Prop} {H : Hp} : ∀ {vs us : List V} {ds es : List PyData}, DaAll S H vs ds → DaAll S H us es → DaAll S H (vs ++ us) (ds ++ es)
  | _, _, _, _, .nil, s => s
  | _, _, _, _, .cons h t, s => .cons h (t.append s)
theorem DaAll.drop {S : Addr → Prop} {H : Hp} : ∀ {vs : List V} {ds : List PyData} (n : Nat), DaAll S H vs ds → DaAll S H (vs.drop n) (ds.drop n)
  | _, _, 0, h => h
  | _, _, _ + 1, .nil => .nil
  | _, _, n + 1, .cons _ t => DaAll.drop n t
theorem DaAll.take {S : Addr → Prop} {H : Hp} : ∀ {vs : List V} {ds : List PyData} (n : Nat), DaAll S H vs ds → DaAll S H (vs.take n) (ds.take n)
  | _, _, 0, h => .nil
  | _, _, _ + 1, .nil => .nil
  | _, _, n + 1, .cons h t => .cons h (DaAll.take n t)
theorem DaAll.reverse {S : Addr → Prop} {H : Hp} : ∀ {vs : List V} {ds : List PyData}, DaAll S H vs ds → DaAll S H vs.reverse ds.reverse
  | _, _, .nil => .nil
  | _, _, .cons h t => by
    rw [List.reverse_cons, List.reverse_cons]
    exact t.reverse.append (.cons h .nil)
theorem Da.only {S : Addr → Prop} {H : Hp} {l : Addr} (hl : H l = none) {v : V} {d : PyData} (h : Da S H v d) : Da (fun a => a = l) H v d :=
  ((h.less (T := fun _ => False) fun _ z => z.elim).more hl).less fun _ e => .inr e
theorem DaAll.only {S : Addr → Prop} {H : Hp} {l : Addr} (hl : H l = none) {v : List V} {d : List PyData} (h : DaAll S H v d) : DaAll (fun a => a = l) H v d :=
  ((h.less (T := fun _ => False) fun _ z => z.elim).more hl).less fun _ e => .inr e
end Sl
set_option Elab.async false
set_option linter.all false
set_option maxRecDepth 100000
set_option maxHeartbeats 4000000
namespace Sl
open PySem PySem.Spec PyProof.Rows L2
mutual
def noLst : PyData → Bool
  | .none | .bool _ | .int _ | .str _ => true
  | .list _ => false
  | .tuple xs => noLstAll xs
  | .dict kvs => noLstKv kvs
def noLstAll : List PyData → Bool
  | [] => true
  | x :: xs => noLst x && noLstAll xs
def noLstKv : List (PyData × PyData) → Bool
  | [] => true
  | (_, v) :: r => noLst v && noLstKv r
end
theorem keys_read {P : Program} {w : World} {h : Heap} : ∀ {kvs : List (Key × V)} {vs : List (Key × Value)} {es : List DictEntry}, KV kvs vs → Pairs (mixKind P w) es vs → ReadsAll h (es.map (·.key)) (kvs.map fun p => kD p.1) []
  | _, _, _, .nil, .nil => .nil
  | (k, v) :: _, (k2, u) :: _, e :: _, .cons r t, .cons h1 h2 q => by
    obtain ⟨e1, _⟩ := r
    have e1' : k = k2 := e1
    subst e1'
    have h1' : keyIs k e.key = true := h1
    have ih := keys_read (h := h) t q
    rcases keyIs_shape h1' with ⟨i, t, rfl, ek⟩ | ⟨x, t, rfl, ek⟩
    · show ReadsAll h (e.key :: _) (PyData.int i :: _) ([] ++ [])
      rw [ek]
      exact .cons (.int i t) ih
    · show ReadsAll h (e.key :: _) (PyData.str x :: _) ([] ++ [])
      rw [ek]
      exact .cons (.str x t) ih
theorem vals_of {P : Program} {w : World} : ∀ {kvs : List (Key × V)} {vs : List (Key × Value)} {es : List DictEntry}, KV kvs vs → Pairs (mixKind P w) es vs → Vals (kvs.map (·.2)) (es.map (·.val))
  | _, _, _, .nil, .nil => .nil
  | _ :: _, _ :: _, e :: _, .cons r t, .cons h1 h2 q => by
    refine Paired.cons ?_ (vals_of t q)
    show RelV _ e.val
    rw [h2]
    exact r.2
theorem zip_fst {α β : Type} : ∀ {as : List α} {bs : List β}, as.length = bs.length → (as.zip bs).map (·.1) = as
  | [], [], _ => rfl
  | a :: as, b :: bs, h => congrArg (a :: ·) (zip_fst (Nat.succ.inj h))
theorem zip_snd {α β : Type} : ∀ {as : List α} {bs : List β}, as.length = bs.length → (as.zip bs).map (·.2) = bs
  | [], [], _ => rfl
  | a :: as, b :: bs, h => congrArg (b :: ·) (zip_snd (Nat.succ.inj h))
theorem noLstKv_zip : ∀ {ks ds : List PyData}, ks.length = ds.length → noLstKv (ks.zip ds) = true → noLstAll ds = true
  | [], [], _, _ => rfl
  | k :: ks, d :: ds, h, q => by
    have q' : (noLst d && noLstKv (ks.zip ds)) = true := q
    rw [Bool.and_eq_true] at q'
    show (noLst d && noLstAll ds) = true
    rw [q'.1, noLstKv_zip (Nat.succ.inj h) q'.2]
    rfl
section
variable {X : Cx} {pins : List (Addr × Obj)} {σ : L2.St} {H : Hp} {s : Shared} {S : Addr → Prop}
mutual
theorem Da.reads (I : Inv X pins σ H s) : ∀ {v : V} {d : PyData} {u : Value}, Da S H v d → RelV v u → ∃ as, Reads s.heap u d as ∧ (noLst d = true → sysModules ∉ as)
  | _, _, _, .non, r => by
    cases r
    exact ⟨_, Reads.none, fun _ h => nomatch h⟩
  | _, _, _, .bl b, r => by
    cases r
    exact ⟨_, Reads.bool b, fun _ h => nomatch h⟩
  | _, _, _, .int i, r => by
    obtain ⟨t, rfl⟩ := r
    exact ⟨_, Reads.int i t, fun _ h => nomatch h⟩
  | _, _, _, .str x, r => by
    obtain ⟨t, rfl⟩ := r
    exact ⟨_, Reads.str x t, fun _ h => nomatch h⟩
  | _, _, _, .lst _ hs ha, r => by
    cases r
    obtain ⟨its, rv, ⟨o, n, ho, hc, _, hd⟩, _⟩ := I.list (SqL.of (K := X.K) hs)
    obtain ⟨as, hr, _⟩ := DaAll.reads I ha rv
    exact ⟨_, Reads.list ho hc hd hr, fun z => nomatch z⟩
  | _, _, _, .tup _ hs ha, r => by
    cases r
    obtain ⟨its, rv, ⟨o, ho, hc, n, hd⟩, _⟩ := I.tuple (SqT.of (K := X.K) hs)
    obtain ⟨as, hr, hn⟩ := DaAll.reads I ha rv
    exact ⟨_, Reads.tuple ho hc hd hr, fun z => hn z⟩
  | _, _, _, .dct (a := a) (kvs := kvs) (ds := ds) _ hs ha, r => by
    cases r
    obtain ⟨_, ns, vs, kv, o, es, ep, ho, hx, hd, _, hp, _⟩ := (show ObjOk X.prog X.w H s.heap a (.dK kvs) from I.hok a _ hs)
    have hk := keys_read (h := s.heap) kv hp
    obtain ⟨bs, hr, hn⟩ := DaAll.reads I ha (vals_of kv hp)
    have hl : (kvs.map fun p => kD p.1).length = ds.length := by
      have := ha.length
      rw [List.length_map] at this
      rw [List.length_map]
      exact this
    refine ⟨_, Reads.dict (as := []) (bs := bs) ho hx.1 hd (by rw [zip_fst hl]; exact hk) (by rw [zip_snd hl]; exact hr), fun z hm => ?_⟩
    rcases List.mem_cons.mp hm with e | hm
    · rw [e] at ns
      simp at ns
    · exact hn (noLstKv_zip hl z) hm
theorem DaAll.reads (I : Inv X pins σ H s) : ∀ {vs : List V} {ds : List PyData} {us : List Value}, DaAll S H vs ds → Vals vs us → ∃ as, ReadsAll s.heap us ds as ∧ (noLstAll ds = true → sysModules ∉ as)
  | _, _, _, .nil, .nil => ⟨_, ReadsAll.nil, fun _ h => nomatch h⟩
  | _, _, _, .cons h1 h2, .cons r1 r2 => by
    obtain ⟨as, q1, n1⟩ := Da.reads I h1 r1
    obtain ⟨bs, q2, n2⟩ := DaAll.reads I h2 r2
    refine ⟨_, ReadsAll.cons q1 q2, fun z hm => ?_⟩
    have z' := (Bool.and_eq_true _ _).mp z
    rcases List.mem_append.mp hm with hm | hm
    · exact n1 z'.1 hm
    · exact n2 z'.2 hm
end
end
/-! ### rules over data -/
def kNo (d : PyData) : Bool := !d.hasDict || noLst d
/-- repr(x) -/
def rRepr : List V → Hp → VK → Prop := fun xs H Q => ∃ (S : Addr → Prop) (x : V) (d : PyData), xs = [x] ∧ Da S H x d ∧ d.showable = true ∧ kNo d = true ∧ d.depth ≤ 1000 ∧ d.shown.length ≤ sizeLine ∧ Q (.str d.shown) H
/-- x == y, x != y, one of them of few levels -/
def rEqA : R2 := fun x y H Q => ∃ (S : Addr → Prop) (d e : PyData), Da S H x d ∧ Da S H y e ∧ d.canLay0 = true ∧ e.canLay0 = true ∧ min d.depth e.depth ≤ 60 ∧ Q (.bl (PyData.eqv d e)) H

theorem call_repr {X : Cx} (hg : X.A.guards = some []) (hu : X.A.units + 1010 < cLine) : CallR X (.builtin "repr") rRepr := by
  intro pins s σ H xs us Q I r h
  obtain ⟨S, x, d, rfl, hd, hs, hk, hdp, hz, q⟩ := h
  obtain ⟨u, rfl, rx⟩ := vals1 r
  obtain ⟨as, rd, hn⟩ := Da.reads I hd rx
  cases rd with
  | none => exact PySem.P.repr_of_none ⟨.str _, H, I.tok _, ⟨_, rfl⟩, q⟩
  | bool b => exact PySem.P.repr_of_bool ⟨.str _, H, I.tok _, ⟨_, rfl⟩, q⟩
  | int i t => exact PySem.P.repr_of_int (of_decide_eq_true hs) ⟨.str _, H, I.tok _, ⟨_, rfl⟩, q⟩
  | str y t => exact PySem.P.repr_of_str ⟨.str _, H, I.tok _, ⟨_, rfl⟩, q⟩ hz
  | list h1 h2 h3 h4 =>
    exact repr_of_reads' (.list h1 h2 h3 h4) hs (fun z => hn (by
      unfold kNo at hk
      rw [z] at hk
      simpa using hk)) hg (by omega) (fun _ _ e => e) (fun h' u tk k => ⟨.str _, H, I.kept k, ⟨_, rfl⟩, q⟩) hz
  | tuple h1 h2 h3 h4 =>
    exact repr_of_reads' (.tuple h1 h2 h3 h4) hs (fun z => hn (by
      unfold kNo at hk
      rw [z] at hk
      simpa using hk)) hg (by omega) (fun _ _ e => e) (fun h' u tk k => ⟨.str _, H, I.kept k, ⟨_, rfl⟩, q⟩) hz
  | dict h1 h2 h3 h4 h5 =>
    exact repr_of_reads' (.dict h1 h2 h3 h4 h5) hs (fun z => hn (by
      unfold kNo at hk
      rw [z] at hk
      simpa using hk)) hg (by omega) (fun _ _ e => e) (fun h' u tk k => ⟨.str _, H, I.kept k, ⟨_, rfl⟩, q⟩) hz
theorem op_eqA {X : Cx} (hu : X.A.units + 64 < cLine) : OpR X (compareOp .Eq) rEqA := by
  intro pins s σ H x y v u Q I rx ry h
  obtain ⟨S, d, e, hd, he, ld, le, hm, q⟩ := h
  obtain ⟨as, r1, _⟩ := Da.reads I hd rx
  obtain ⟨bs, r2, _⟩ := Da.reads I he ry
  exact SeqAt.compareEq_reads r1 r2 ld le (by omega) ⟨.bl _, H, I, rfl, q⟩
end Sl
set_option Elab.async false
set_option linter.all false
set_option maxRecDepth 100000
set_option maxHeartbeats 4000000
namespace Sl
open PySem PySem.Spec PyProof.Rows L2
/-! ### defs that are called where no repr is under way -/
/-- the def at f keeps the promise where nothing is being shown -/
structure FnG (P : Program) (w : World) (K : PySem.W.Frag) (mg : Str → Option Value) (base : Heap) (k : Nat) (f : Addr) (fd : FuncData) (ps : List Str) (sp : Sp) : Prop where
  len : ∀ vs H Q E, sp vs H Q E → vs.length = ps.length
  go : ∀ (A : Around) (outer : List Env) (s : Shared) (H : Hp) (args : Args) (us : List Value) (vs : List V) (Q : VK), A.guards = some [] → Room k A → Env0 P w K mg base A outer s H →
    BindsTo s fd args (ps.zip us) → Vals vs us → sp vs H Q E0 → codeAny (model P w) A (.call (.ref f) args) (CR CX0 outer P w H s Q E0) s
variable {P : Program} {w : World} {K : PySem.W.Frag} {mg : Str → Option Value} {base : Heap}
theorem FnG.mono {j k : Nat} {f : Addr} {fd : FuncData} {ps : List Str} {sp : Sp} (F : FnG P w K mg base j f fd ps sp) (h : j ≤ k) : FnG P w K mg base k f fd ps sp :=
  ⟨F.len, fun A o s H as us vs Q g r => F.go A o s H as us vs Q g (r.mono h)⟩
theorem FnG.of {k : Nat} {f : Addr} {fd : FuncData} {ps : List Str} {sp : Sp} (F : FnOk P w K mg base CX0 k f fd ps sp) : FnG P w K mg base k f fd ps sp :=
  ⟨F.len, fun A o s H as us vs Q _ r => F.run A o s H as us vs Q E0 r⟩
theorem guards_deeper {A : Around} {env : Env} (g : A.guards = some []) : (A.deeper env).guards = some [] := g
/-- by its body -/
theorem fnG_mk {x qual : Str} {st : Stmt} {f : Addr} {fd : FuncData} {N ps : List Str} {k : Nat} {sp : Sp} (F : Fun K x qual st f fd) (S : FnScope N ps (defScope st)) (len : ∀ vs H Q E, sp vs H Q E → vs.length = ps.length)
    (body : ∀ (cdv : Value) (A : Around) (outer : List Env) (s : Shared) (H : Hp) (vs : List V) (Q : VK), A.guards = some [] → Room k (A.deeper (envOfC qual (defScope st) s.heap.objs.size f cdv)) → sp vs H Q E0 →
      ∃ t, PSs (cxOf CX0 P w K mg base N qual (defScope st) f cdv A outer s H E0) (defBody st) t ∧ t { nx := fun _ H' => Q .non H', rt := Q } (start N vs) H) : FnG P w K mg base (k + 1) f fd ps sp := by
  obtain ⟨oc, od, kV, doc, pm, an, cdv, ct, osl, rfl, lk, hcd⟩ := F.ex
  refine ⟨len, fun A outer s H args us vs Q g hr e0 hb r hsp => ?_⟩
  have KX : K.In s.heap := e0.mod.kin.keeps fun b o e => (e0.bs b o e).1
  have par : ∀ y ∈ ps.zip us, (defScope st).names.lookup y.1 = some .local ∨ ((defScope st).names.lookup y.1 = some .cell ∧ ((cellsFrom (s.heap.objs.size + 1) (defScope st).names []).lookup y.1).isSome = true) := by
    intro y hy
    obtain ⟨n, v⟩ := y
    have hm : n ∈ ps := (List.of_mem_zip hy).1
    cases S.par n hm with
    | inl q => exact .inl q
    | inr q => exact .inr ⟨q, PySem.W.cellsFrom_some _ _ _ (.inl q)⟩
  refine codeAny_call_function hr.depth (KX _ _ lk) rfl S.co S.gen rfl (PySem.W.codeRec_of KX hcd) (hb _ _ _ _ ?_)
  refine wpAny_newFunctionEnv_cells S.kind par fun env he s1 x => ?_
  subst he
  have lim : s.heap.NoLimit := e0.mod.nolimit.keeps fun b o e => (e0.bs b o e).1
  refine ⟨lim.keeps x.toInCall.keep, codeAny_func ?_⟩
  obtain ⟨t, ht, hq⟩ := body cdv A outer s H vs Q g (hr.deeper _) hsp
  have I := inv_start (CX := CX0) (E := E0) (mg := mg) (base := base) (qual := qual) (f := f) (cd := cdv) S hr.hd e0 (len _ _ _ _ hsp) r x
  refine wpAny_mono (ht.run [] s1 (start N vs) H _ I hq) (fun fl s' hs => ?_) fun e s' hs => hs
  cases fl with
  | ret u =>
    obtain ⟨v, σ', H', J, rv, q⟩ := hs
    exact ⟨v, H', J.os, J.bare, J.base, J.hok, rv, q⟩
  | next =>
    obtain ⟨σ', H', J, q⟩ := hs
    exact ⟨.non, H', J.os, J.bare, J.base, J.hok, rfl, q⟩
  | brk =>
    obtain ⟨_, _, _, q⟩ := hs
    exact q.elim
  | cont =>
    obtain ⟨_, _, _, q⟩ := hs
    exact q.elim
section
variable {X : Cx} {k : Nat} {f : Addr} {fd : FuncData} {ps : List Str} {sp : Sp} {x : Str} {p pos : Pos} {e : Expr} {es : List Expr} {t : TA}
/-- f(e, ..) of such a def -/
theorem pe_callG (F : FnG X.prog X.w X.K X.mg X.base k f fd ps sp) (g : X.A.guards = some []) (hr : Room k X.A) (hg : Gl X x) (hm : X.mg x = some (.ref f)) (hk : PySem.W.keepIn X.K (.ref f) = true) (hb : Binds X.K fd ps [])
    (ha : PA X (e :: es) t) (hdb : (x == ("__debug__" : Str)) = false := by decide) (he : starEach (e :: es) X.env = (false, eval e X.env) :: starEach es X.env := by rfl) (hpl : (backTo pos (starEach es X.env)).any (·.1) = false := by rfl) :
    PE X (.Call (.Name x p) (e :: es) [] pos) (fun σ H Q => t σ H fun vs H1 => sp vs H1 Q E0) := by
  refine ⟨fun pins s σ H Q I h => wpAny_Call_Name_kw (ld_glob I hg hm ?_ hdb)⟩
  refine PySem.W.callWith_K (h₀ := X.base) I.ok.mod.kin hk (thn (ha.run pos pins s σ H _ I h) fun us s1 ⟨vs, H1, I1, r, q⟩ => ⟨I1.kIn, ?_⟩) he hpl
  have hl : us.length = ps.length := r.length.symm.trans (F.len _ _ _ _ q)
  have b1 := hb s1 us I1.kIn (by rw [List.append_nil]; exact hl)
  rw [List.append_nil] at b1
  refine wpAny_call (codeAny_mono (F.go X.A X.stack s1 H1 ⟨us, []⟩ us vs Q g hr I1.env0 b1 r q) fun res s' z => ?_)
  cases res with
  | error e => exact z.elim
  | ok fl =>
    cases fl with
    | ret u => exact I1.after z
    | next => exact z.elim
    | brk => exact z.elim
    | cont => exact z.elim
end

/-- the law's own call, by its promise: at its start nothing is tracked but the script, locked (or the script is one of the module's own objects) -/
theorem law_go {mb : Str → Option Value} {k : Nat} {fa a : Addr} {fd : FuncData} {x : Str} {sp : Sp} {z : Shared} {vs : List Value} {ns : List Int}
    (kin : K.In z.heap) (hns : z.heap.Ns mainGlobals mg) (hb : z.heap.Ns builtinsNs mb) (hbb : ∀ x : Str, x ≠ "__name__" → mb x = bootBuiltins x) (lim : z.heap.NoLimit) (hg : z.gens = #[])
    (ha : z.heap.get? a = some { cls := .type "list", data := .seq vs.toArray }) (hi : IntsAre vs ns) (hl : ns.length ≤ sizeLine) (hr : Room k callerA)
    (F : ∀ base : Heap, K.In base → base.Ns mainGlobals mg → FnG P w K mg base k fa fd [x] sp) (bind : ∀ (s : Shared) (u : Value), BindsTo s fd ⟨[u], []⟩ [(x, u)])
    (hsp : ∀ H : Hp, SqL K H a (ns.map V.int) → (∀ b, b ≠ a → H b = none) → (H a ≠ none → ∃ o, H a = some (.frz o (.lst (ns.map V.int)))) → sp [.ref a] H (fun v _ => v = .bl true) E0) :
    codeAny (model P w) callerA (.call (.ref fa) ⟨[.ref a], []⟩) (fun r s' => r = .ok (.ret (.bool true)) ∧ OldK z.heap s'.heap ∧ s'.os = z.os ∧ AllBare s'.gens) z := by
  -- whichever way the script stands in the abstract heap G
  have from_ : ∀ G : Hp, SqL K G a (ns.map V.int) → HOk P w G z.heap → (∀ b, b ≠ a → G b = none) → (G a = none ∨ (K.lookup a = none ∧ ∃ o, G a = some (.frz o (.lst (ns.map V.int))))) →
      codeAny (model P w) callerA (.call (.ref fa) ⟨[.ref a], []⟩) (fun r s' => r = .ok (.ret (.bool true)) ∧ OldK z.heap s'.heap ∧ s'.os = z.os ∧ AllBare s'.gens) z := by
    intro G hS hok only at_a
    have keepN : ∀ {b : Addr} {o : Obj}, z.heap.get? b = some o → (∀ es ep, o.data = .dict es ep → True) → G b = none → (hidT z.heap G).get? b = some o := fun e _ n => hidT_get e n
    have dictN : ∀ {b : Addr} {o : Obj} {es : Array DictEntry} {ep : Nat}, z.heap.get? b = some o → o.data = .dict es ep → G b = none := by
      intro b o es ep e d
      by_cases hba : b = a
      · rw [hba, ha] at e
        have e2 := Option.some.inj e
        rw [← e2] at d
        cases d
      · exact only b hba
    have nsOf : ∀ {b : Addr} {m : Str → Option Value}, z.heap.Ns b m → (hidT z.heap G).Ns b m := by
      intro b m hm
      obtain ⟨o, es, ep, e, d, r⟩ := hm
      exact ⟨o, es, ep, hidT_get e (dictN e d), d, r⟩
    have kinN : K.In (hidT z.heap G) := by
      intro b o e
      refine hidT_get (kin b o e) ?_
      by_cases hba : b = a
      · rcases at_a with n | ⟨n, _⟩
        · rw [hba]
          exact n
        · rw [hba, n] at e
          cases e
      · exact only b hba
    obtain ⟨mc, l1, l2⟩ := lim
    have env0 : Env0 P w K mg (hidT z.heap G) callerA [] z G :=
      { frames := rfl, mod := ⟨kinN, nsOf hns, ⟨mb, nsOf hb, hbb⟩, ⟨mc, nsOf l1, l2⟩⟩, bs := fun b o e => of_hidT e, bsz := Nat.le_of_eq (hidT_size _ _), funs := trivial, frf := fun b hm => (nomatch hm), hok := hok, bare := .of_eq hg }
    have wish := hsp G hS only (fun n => by
      rcases at_a with q | ⟨_, q⟩
      · exact absurd q n
      · exact q)
    refine codeAny_mono ((F _ kinN (nsOf hns)).go callerA [] z G ⟨[.ref a], []⟩ [.ref a] [.ref a] _ rfl hr env0 (bind z (.ref a)) (.cons rfl .nil) wish) fun res s' h => ?_
    cases res with
    | error e => exact h.elim
    | ok fl =>
      cases fl with
      | next => exact h.elim
      | brk => exact h.elim
      | cont => exact h.elim
      | ret u =>
        obtain ⟨v, G', os, bare, un, hok', rv, q⟩ := h
        have q' : v = .bl true := q
        rw [q'] at rv
        have hu : u = Value.bool true := rv
        rw [hu]
        refine ⟨rfl, OldK.of_keep fun b o e => ?_, os, bare⟩
        by_cases n : G b = none
        · exact un.keep b o e n (fun z => nomatch z) (fun z => nomatch z)
        · have hba : b = a := Classical.byContradiction fun c => n (only b c)
          rcases at_a with q | ⟨_, ob, q⟩
          · rw [hba, q] at n
            exact absurd rfl n
          · rw [← hba] at q
            have g1 := (hok b _ q).1
            have g2 := (hok' b _ (un.frzs b ob _ q)).1
            rw [g1] at e
            rw [← Option.some.inj e]
            exact g2
  cases hk : K.lookup a with
  | some o =>
    have e := kin a o hk
    rw [ha] at e
    have eo := Option.some.inj e
    rw [← eo] at hk
    exact from_ (fun _ => none) (.inr ⟨_, vs.toArray, _, hk, rfl, rfl, rfl, by rw [List.size_toArray, hi.length]; exact hl, by simpa using vals_ints hi⟩) (fun b u q => (nomatch q)) (fun _ _ => rfl) (.inl rfl)
  | none =>
    have here : (fun b : Addr => if b = a then some (HO.frz { cls := .type "list", data := .seq vs.toArray } (.lst (ns.map V.int))) else none) a = some (HO.frz { cls := .type "list", data := .seq vs.toArray } (.lst (ns.map V.int))) := if_pos rfl
    refine from_ (fun b => if b = a then some (HO.frz { cls := .type "list", data := .seq vs.toArray } (.lst (ns.map V.int))) else none) (.inl (.inr ⟨_, here⟩)) (fun b u q => ?_) (fun b hb => if_neg hb) (.inr ⟨hk, _, here⟩)
    by_cases hba : b = a
    · rw [hba] at q ⊢
      rw [here] at q
      rw [← Option.some.inj q]
      exact ⟨ha, by rw [List.length_map]; exact hl, vs, _, vals_ints hi, ha⟩
    · have q2 := (show (if b = a then some (HO.frz { cls := .type "list", data := .seq vs.toArray } (.lst (ns.map V.int))) else none) = some u from q)
      rw [if_neg hba] at q2
      cases q2
theorem walk_go {l : PySem.W.OpenLaw} {n k : Nat} {q : Program} {loose : List Str} {XP : (Str → Option Value) → Heap → Prop} {YP : World → Heap → Prop} {d : DefRec} {K : Params → PySem.W.Frag} {sp : PySem.W.Frag → Sp} {x : Str}
    (hn : l.most = some n) (hz : n ≤ sizeLine) (hdf : d.params.defaults = []) (hr : Room k callerA) (hY : ∀ (w : World) (h : Heap), YP w h → (K w.params).In h)
    (F : ∀ (w : World) (mg : Str → Option Value) (fa : Addr) (h : Heap), (K w.params).In h → h.Ns mainGlobals mg → mg d.name = some (.ref fa) →
      ∃ fd : FuncData, (∀ (s : Shared) (u : Value), BindsTo s fd ⟨[u], []⟩ [(x, u)]) ∧ ∀ base : Heap, (K w.params).In base → base.Ns mainGlobals mg → FnG l.prog w (K w.params) mg base k fa fd [x] (sp (K w.params)))
    (hsp : ∀ (K : PySem.W.Frag) (H : Hp) (a : Addr) (ns : List Int), ns.length ≤ n → SqL K H a (ns.map V.int) → (∀ b, b ≠ a → H b = none) → (H a ≠ none → ∃ o, H a = some (.frz o (.lst (ns.map V.int)))) → sp K [.ref a] H (fun v _ => v = .bl true) E0) :
    PySem.W.WalkO q loose XP YP l.row.toRowW d [] (fun f vs => PySem.call f vs) := by
  refine Att.attach_call hn hdf fun w s₀ s₁ mg mb fa o pm cd doc a vs ns G Y _ _ _ hmg hobj hints hlen hg => ?_
  obtain ⟨fd, hb, hF⟩ := F w mg fa _ (hY w _ Y) G.T.g hmg
  exact law_go (hY w _ Y) G.T.g G.T.b G.T.builtins G.T.nolimit hg hobj hints (Nat.le_trans hlen hz) hr hF hb fun H h1 h2 h3 => hsp _ H a ns hlen h1 h2 h3
end Sl
set_option Elab.async false
set_option linter.all false
set_option maxRecDepth 100000
set_option maxHeartbeats 4000000
namespace Sl
open PySem PySem.Spec PyProof.Rows L2
/-! ### xs.extend(t), t a tuple -/
def rExtT (K : PySem.W.Frag) : V → List V → Hp → VK → Prop := fun x vs H Q => ∃ l b xs zs, x = .ref l ∧ vs = [.ref b] ∧ H l = some (.lst xs) ∧ H b = some (.tup zs) ∧ xs.length + zs.length ≤ sizeLine ∧ Q .non (upd H l (.lst (xs ++ zs)))
/-- the tuple's object, as it lies -/
theorem tup_obj {h : Heap} {b : Addr} {its : Array Value} (t : IsTup h b its) : ∃ n dd sl, h.get? b = some { cls := .type "tuple", dict := dd, data := .seq its n, slots := sl } := by
  obtain ⟨⟨c, dd, dt, sl⟩, ho, hc, n, hd⟩ := t
  simp only at hc hd
  subst hc hd
  exact ⟨n, dd, sl, ho⟩

open PySem.AutoSeq1 in
theorem ext_tup (l b : Addr) (xs ys : Array Value) (n m : Nat) (dd : Option Addr) (sl : Array (Option Value)) (hl : ¬(!xs.isEmpty && Builtin.List.listTooLong (xs.size + ys.size)) = true) (hx : xs.size ≤ sizeLine) (hy : xs.size + ys.size ≤ sizeLine + 1) :
    Meets (Builtin.«list.extend» ⟨[.ref l, .ref b], []⟩) (fun _ R s => s.heap.get? l = some { cls := .type "list", dict := none, data := .seq xs n, slots := #[] } ∧
      s.heap.get? b = some { cls := .type "tuple", dict := dd, data := .seq ys m, slots := sl } ∧ R (.ok (.ret Value.none)) { s with heap := s.heap.update l (Obj.mapSeq fun x => x ++ ys), toks := s.toks }) := by
  refine .of_wp fun prog w A R s h => ?_
  obtain ⟨hp, g, d, tk, os⟩ := s
  obtain ⟨h1, h2, h⟩ := h
  have f1 := idx_int
  have f2 := PyProof.Rows.sub_tuple_tuple
  have f3 := PyProof.Rows.sub_list_list
  have f4 := PyProof.Rows.sub_tuple_list
  have f5 := PyProof.Rows.sub_list_tuple
  have hz : (xs ++ ys).size ≤ sizeLine + 1 := by
    rw [Array.size_append]
    exact hy
  wp_walk using (wpAny_updateSeq h1 rfl (hz := hx) (_hz' := hz)), wpAny_loadPart' h1, wpAny_loadPart' h2
  exact ⟨_, rfl, h⟩
theorem mt_extT {X : Cx} : MtM X "list.extend" (rExtT X.K) := by
  intro pins s σ H x vs v us Q I rx rv h
  obtain ⟨l, b, xs, zs, rfl, rfl, hH, hB, hz, q⟩ := h
  cases rx
  obtain ⟨u, rfl, ru⟩ := rv.one
  cases ru
  obtain ⟨z, its, n, r, e1, e⟩ := I.lstM hH
  obtain ⟨ys, r2, t2, z2⟩ := I.tuple (SqT.of (K := X.K) hB)
  have e2 := r2.length
  obtain ⟨m, dd, sl, e3⟩ := tup_obj t2
  have hs : its.toArray.size + ys.toArray.size ≤ sizeLine := by
    rw [List.size_toArray, List.size_toArray]
    omega
  refine call_meets F.slot_list_extend ⟨_, e, rfl⟩ F.entry_list_extend (F.args_list_extend_2 _ _) (ext_tup l b its.toArray ys.toArray n m dd sl (by rw [notLongL hs, Bool.and_false]; exact Bool.false_ne_true) (by omega) (by omega)) ⟨e, e3, ?_⟩
  exact ⟨.non, _, I.lset (its' := its ++ ys) hH e (by simp) (r.append r2) (by rw [List.length_append]; omega), rfl, q⟩

/-! ### t[:0:-1], t a tuple -/
theorem back_fields {prog : Program} {w : World} {A : Around} {E : Value → Shared → Prop} {s : Shared} {sl : Addr} {u t : Tok} {n : Nat} {Q : Int × Int × Nat → Shared → Prop} (hs : s.heap.IsSliceOf sl .none (.int 0 u) (.int (-1) t))
    (h : Q ((n : Int) - 1, -1, n - 1) s) : wpAny (model prog w) A (Builtin.Slice.sliceApplied (.ref sl) (pure (n : Int))) Q E s := by
  obtain ⟨os, hos, hcs, hds⟩ := id hs
  unfold Builtin.Slice.sliceApplied Builtin.Slice.sliceFields
  refine wpAny_bind (wpAny_bind (wpAny_field hos hds (x := .none) rfl ?_))
  refine wpAny_bind (wpAny_field hos hds (x := .int 0 u) rfl ?_)
  refine wpAny_bind (wpAny_field hos hds (x := .int (-1) t) rfl (wpAny_pure ?_))
  refine wpAny_bind (slicePart_int ?_)
  show wpAny _ _ (if ((-1 : Int) == 0) = true then _ else _) _ _ s
  rw [if_neg (by decide)]
  refine wpAny_bind (slicePart_none (wpAny_bind (slicePart_int (wpAny_bind (wpAny_pure ?_)))))
  have ea : Builtin.Slice.sliceAdjust none (some 0) (-1) (n : Int) = ((n : Int) - 1, min 0 ((n : Int) - 1)) := by
    unfold Builtin.Slice.sliceAdjust
    rfl
  show wpAny _ _ (match Builtin.Slice.sliceAdjust none (some 0) (-1) (n : Int) with | (lo, hi) => pure (lo, (-1 : Int), Builtin.Slice.slicePlaces lo hi (-1))) _ _ s
  rw [ea]
  have ep : Builtin.Slice.slicePlaces ((n : Int) - 1) (min 0 ((n : Int) - 1)) (-1) = n - 1 := by
    unfold Builtin.Slice.slicePlaces
    rw [if_neg (by decide)]
    show (if (n : Int) - 1 > min 0 ((n : Int) - 1) then ((n : Int) - 1 - min 0 ((n : Int) - 1) - 1) / 1 + 1 else 0).toNat = n - 1
    split
    · rw [Int.ediv_one]
      omega
    · omega
  show wpAny _ _ (pure ((n : Int) - 1, (-1 : Int), Builtin.Slice.slicePlaces ((n : Int) - 1) (min 0 ((n : Int) - 1)) (-1))) _ _ s
  rw [ep]
  exact wpAny_pure h
theorem back_pick (xs : List Value) : ((List.range (xs.length - 1)).filterMap fun (k : Nat) => xs.toArray[(((xs.length : Int) - 1) + (k : Int) * (-1)).toNat]?) = (xs.drop 1).reverse := by
  cases xs with
  | nil => rfl
  | cons x r =>
    show ((List.range ((r.length + 1) - 1)).filterMap fun (k : Nat) => (x :: r).toArray[((((r.length + 1 : Nat) : Int) - 1) + (k : Int) * (-1)).toNat]?) = r.reverse
    rw [Nat.add_sub_cancel]
    have key : ∀ (m : Nat), m ≤ r.length → ((List.range m).filterMap fun (k : Nat) => (x :: r).toArray[((((r.length + 1 : Nat) : Int) - 1) + (k : Int) * (-1)).toNat]?) = r.reverse.take m := by
      intro m
      induction m with
      | zero => intro _; rfl
      | succ m ih =>
        intro hm
        rw [List.range_succ, List.filterMap_append, ih (by omega), List.take_add_one]
        refine congrArg (r.reverse.take m ++ ·) ?_
        have hz : ((((r.length + 1 : Nat) : Int) - 1) + (m : Int) * (-1)).toNat = (r.length - 1 - m) + 1 := by omega
        have hg : (x :: r).toArray[((((r.length + 1 : Nat) : Int) - 1) + (m : Int) * (-1)).toNat]? = r.reverse[m]? := by
          rw [hz, List.getElem?_toArray, List.getElem?_cons_succ, List.getElem?_reverse (by omega)]
        show List.filterMap _ [m] = _
        rw [List.filterMap_cons, hg]
        cases r.reverse[m]? <;> rfl
    rw [key r.length (Nat.le_refl _), ← List.length_reverse (as := r), List.take_length]
theorem getItem_back {prog : Program} {w : World} {A : Around} {E : Value → Shared → Prop} {s : Shared} {t sl : Addr} {items : List Value} {u v : Tok} {Q : Value → Shared → Prop} (ht : IsTup s.heap t items.toArray) (hs : s.heap.IsSliceOf sl .none (.int 0 u) (.int (-1) v))
    (h : Q (.ref s.heap.objs.size) { s with heap := s.heap.push { cls := .type "tuple", data := .seq (items.drop 1).reverse.toArray } }) (hz : items.length ≤ sizeLine) : wpAny (model prog w) A (getItem (.ref t) (.ref sl)) Q E s := by
  obtain ⟨os, hos, hcs, hds⟩ := id hs
  have hT : s.TypeIs (.ref sl) "slice" := ⟨os, hos, hcs⟩
  have hsz : sizeOk (.seq (items.drop 1).reverse.toArray) := by
    show (items.drop 1).reverse.toArray.size ≤ sizeLine
    rw [List.size_toArray, List.length_reverse, List.length_drop]
    omega
  unfold getItem
  try with_reducible refine wpAny_holding ?_
  first | refine wpAny_bind (wpAny_pure ?_) | skip
  refine wpAny_bind (wpAny_sequenceKey ht.typeIs (by decide) ?_)
  refine wpAny_bind (wpAny_callSpecial?_slot (name := Str.ofString "__getitem__") ht.typeIs PyProof.Rows.slot_tuple_getitem (wpAny_call_entry PyProof.Rows.slot_tuple_getitem ht.typeIs entry_tuple_getitem ?_ (args_tuple_getitem _ _)))
  show wpAny _ _ (Builtin.Tuple.tupleItemsOf (.ref t) >>= _) _ _ s
  refine wpAny_bind (tupleItemsOf_ ht ?_)
  refine wpAny_bind (wpAny_typeOf hT ?_)
  rw [if_pos (by decide)]
  refine wpAny_bind (back_fields hs ?_)
  have hno : ¬ ((((items.toArray.size : Nat) : Int) - 1 == 0 && (-1 : Int) == 1 && (items.toArray.size - 1) == items.toArray.size) = true) := by
    rw [show ((-1 : Int) == 1) = false from rfl, Bool.and_false, Bool.false_and]
    exact Bool.false_ne_true
  show wpAny _ _ (if ((((items.toArray.size : Nat) : Int) - 1 == 0 && (-1 : Int) == 1 && (items.toArray.size - 1) == items.toArray.size)) = true then _ else _) _ _ s
  rw [if_neg hno, List.size_toArray, back_pick]
  first
    | exact wpAny_bind (m := Builtin.Tuple.tupleExact _) (wpAny_newObj_type (wpAny_pure ⟨_, rfl, wpAny_pure h⟩) hsz)
    | exact wpAny_bind (m := Builtin.Tuple.tupleExact _) (wpAny_newObj_type (wpAny_bind (wpAny_pure (wpAny_pure ⟨_, rfl, wpAny_pure h⟩))) hsz)
    | exact wpAny_bind (wpAny_bind (m := Builtin.Tuple.tupleExact _) (wpAny_newObj_type (wpAny_pure (wpAny_pure ⟨_, rfl, wpAny_pure h⟩)) hsz))
    | exact wpAny_bind (wpAny_bind (m := Builtin.Tuple.tupleExact _) (wpAny_newObj_type (wpAny_pure ⟨_, rfl, wpAny_pure h⟩) hsz))

/-- t[:0:-1] -/
def tBack (K : PySem.W.Frag) (te : TE) : TE := fun σ H Q => te σ H fun x H1 => ∃ a xs, x = .ref a ∧ SqT K H1 a xs ∧ ∀ p, H1 p = none → Q (.ref p) (upd H1 p (.tup (xs.drop 1).reverse))
theorem pe_back {X : Cx} {e : Expr} {te : TE} {k k2 : Nat} {p1 p2 p3 p4 pos : Pos} (he : PE X e te) : PE X (.Subscript e (.Slice none (some (.Constant (.int 0) k2 p4)) (some (.UnaryOp .USub (.Constant (.int 1) k p1) p2)) p3) pos) (tBack X.K te) := by
  refine ⟨fun pins s σ H Q I h => Subscript_ (thn (he.run pins s σ H _ I h) fun v s1 ⟨x, H1, I1, r1, q1⟩ => ?_)⟩
  obtain ⟨a, xs, ex, hx, q⟩ := q1
  subst ex
  cases r1
  have hst : PO X (some (.UnaryOp .USub (.Constant (.int 1) k p1) p2)) (tPart (tUn (rU fun i => .int (-i)) (tC (.int 1)))) := po_some (pe_un un_neg pe_int)
  have h0 : PO X (some (.Constant (.int 0) k2 p4)) (tPart (tC (.int 0))) := po_some pe_int
  refine wpAny_Slice (thn (po_none.run pins s1 σ H1 (fun o H2 => o = none ∧ H2 = H1) I1 ⟨rfl, rfl⟩) fun vl s2 ⟨l, H2, I2, pl, el, e2⟩ => ?_)
  subst el e2
  refine thn (h0.run pins s2 σ H2 (fun o H3 => o = some 0 ∧ H3 = H2) I2 ⟨0, rfl, rfl, rfl⟩) fun vu s3 ⟨u, H3, I3, pu, eu, e3⟩ => ?_
  subst eu e3
  refine thn (hst.run pins s3 σ H3 (fun o H4 => o = some (-1) ∧ H4 = H3) I3 ⟨1, rfl, -1, rfl, rfl, rfl⟩) fun vs s4 ⟨o, H4, I4, ps, eo, e4⟩ => ?_
  subst eo e4
  obtain rfl : vl = Value.none := by
    cases pl
    rfl
  obtain ⟨tu, rfl⟩ : ∃ t, vu = Value.int 0 t := by
    cases pu
    exact ⟨_, rfl⟩
  obtain ⟨tv, rfl⟩ : ∃ t, vs = Value.int (-1) t := by
    cases ps
    exact ⟨_, rfl⟩
  have I5 : Inv X pins σ H4 { s4 with heap := s4.heap.push { cls := .type "slice", data := .fields #[.none, .int 0 tu, .int (-1) tv] } } := I4.kept (t' := s4.toks) fun b ob q => Heap.get?_push_of_some _ q
  obtain ⟨its, r, ht, hz⟩ := I5.tuple hx
  have hlen := r.length
  show wpAny (model X.prog X.w) X.A (subscriptTail e (.Slice none (some (.Constant (.int 0) k2 p4)) (some (.UnaryOp .USub (.Constant (.int 1) k p1) p2)) p3) (.ref a) (.ref s4.heap.objs.size)) (EP X pins σ Q) X.xe { s4 with heap := s4.heap.push { cls := .type "slice", data := .fields #[.none, .int 0 tu, .int (-1) tv] } }
  refine tail_any (ops := [.ref a, .ref s4.heap.objs.size]) ht.typeIs (PyProof.Rows.slot_tuple_getitem.lookup) ?_ (by with_unfolding_all rfl)
  refine getItem_back ht (Heap.IsSliceOf.new _ _ _ _) ?_ (by omega)
  refine ⟨.ref _, _, I5.laid (t' := s4.toks) (o := .tup (xs.drop 1).reverse) (fun b ob q => Heap.get?_push_of_some _ q) (Nat.le_refl _) ?_, rfl, q _ (I5.hok.fresh (Nat.le_refl _))⟩
  exact ⟨by rw [List.length_reverse, List.length_drop]; omega, _, (r.drop 1).reverse, ⟨_, Heap.get?_push_size _ rfl, rfl, _, rfl⟩⟩
end Sl
set_option Elab.async false
set_option linter.all false
set_option maxRecDepth 100000
set_option maxHeartbeats 4000000
namespace Sl
open PySem PySem.Spec PyProof.Rows L2 Evl
/-- a def of the text: where it stands, its name, how its arguments bind -/
structure Ft (K : PySem.W.Frag) (mg : Str → Option Value) (x : Str) (st : Stmt) (ps : List Str) where
  f : Addr
  fd : FuncData
  F : Fun K x x st f fd
  g : mg x = some (.ref f)
  b : Binds K fd ps []
/-- constants of the module -/
theorem pe_gI {X : Cx} {x : Str} {i : Int} {pos : Pos} (hg : Gl X x) (h : ∃ t, X.mg x = some (.int i t)) (hd : (x == ("__debug__" : Str)) = false := by decide) : PE X (.Name x pos) (tC (.int i)) := by
  obtain ⟨t, h⟩ := h
  exact pe_glob hg h ⟨t, rfl⟩ hd
theorem pe_gS {X : Cx} {x : Str} {z : Str} {pos : Pos} (hg : Gl X x) (h : ∃ t, X.mg x = some (.str z t)) (hd : (x == ("__debug__" : Str)) = false := by decide) : PE X (.Name x pos) (tC (.str z)) := by
  obtain ⟨t, h⟩ := h
  exact pe_glob hg h ⟨t, rfl⟩ hd
theorem hu64 {A : Around} {k : Nat} (hr : Room k A) : A.units + 64 < cLine := hr.units
/-! ### types of data -/
def tyD : PyData → String
  | .none => "NoneType"
  | .bool _ => "bool"
  | .int _ => "int"
  | .str _ => "str"
  | .list _ => "list"
  | .tuple _ => "tuple"
  | .dict _ => "dict"
theorem tyX_da {K : PySem.W.Frag} {S : Addr → Prop} {H : Hp} {v : V} {d : PyData} (h : Da S H v d) : TyX K H v (.type (tyD d)) := by
  cases h with
  | non => exact .base .non
  | bl b => exact .base (.bl b)
  | int i => exact .base (.int i)
  | str x => exact .base (.str x)
  | lst _ h _ => exact .base (.lst h)
  | tup _ h _ => exact .base (.tup h)
  | dct _ h _ => exact .base (.dK h)
def isInt : PyData → Bool
  | .int _ => true
  | _ => false
def isBool : PyData → Bool
  | .bool _ => true
  | _ => false
def isNum (d : PyData) : Bool := isInt d || isBool d
def isStr : PyData → Bool
  | .str _ => true
  | _ => false
def isTup : PyData → Bool
  | .tuple _ => true
  | _ => false
def isLst : PyData → Bool
  | .list _ => true
  | _ => false
theorem kit_int (d : PyData) : kitB (tyD d) "int" = some (isNum d) := by
  cases d with
  | none => exact (by decide +kernel : kitB "NoneType" "int" = some false)
  | bool _ => exact (by decide +kernel : kitB "bool" "int" = some true)
  | int _ => exact (by decide +kernel : kitB "int" "int" = some true)
  | str _ => exact (by decide +kernel : kitB "str" "int" = some false)
  | list _ => exact (by decide +kernel : kitB "list" "int" = some false)
  | tuple _ => exact (by decide +kernel : kitB "tuple" "int" = some false)
  | dict _ => exact (by decide +kernel : kitB "dict" "int" = some false)
theorem kit_bool (d : PyData) : kitB (tyD d) "bool" = some (isBool d) := by
  cases d with
  | none => exact (by decide +kernel : kitB "NoneType" "bool" = some false)
  | bool _ => exact (by decide +kernel : kitB "bool" "bool" = some true)
  | int _ => exact (by decide +kernel : kitB "int" "bool" = some false)
  | str _ => exact (by decide +kernel : kitB "str" "bool" = some false)
  | list _ => exact (by decide +kernel : kitB "list" "bool" = some false)
  | tuple _ => exact (by decide +kernel : kitB "tuple" "bool" = some false)
  | dict _ => exact (by decide +kernel : kitB "dict" "bool" = some false)
theorem kit_str (d : PyData) : kitB (tyD d) "str" = some (isStr d) := by
  cases d with
  | none => exact (by decide +kernel : kitB "NoneType" "str" = some false)
  | bool _ => exact (by decide +kernel : kitB "bool" "str" = some false)
  | int _ => exact (by decide +kernel : kitB "int" "str" = some false)
  | str _ => exact (by decide +kernel : kitB "str" "str" = some true)
  | list _ => exact (by decide +kernel : kitB "list" "str" = some false)
  | tuple _ => exact (by decide +kernel : kitB "tuple" "str" = some false)
  | dict _ => exact (by decide +kernel : kitB "dict" "str" = some false)
theorem kit_tuple (d : PyData) : kitB (tyD d) "tuple" = some (isTup d) := by
  cases d with
  | none => exact (by decide +kernel : kitB "NoneType" "tuple" = some false)
  | bool _ => exact (by decide +kernel : kitB "bool" "tuple" = some false)
  | int _ => exact (by decide +kernel : kitB "int" "tuple" = some false)
  | str _ => exact (by decide +kernel : kitB "str" "tuple" = some false)
  | list _ => exact (by decide +kernel : kitB "list" "tuple" = some false)
  | tuple _ => exact (by decide +kernel : kitB "tuple" "tuple" = some true)
  | dict _ => exact (by decide +kernel : kitB "dict" "tuple" = some false)
theorem kit_list (d : PyData) : kitB (tyD d) "list" = some (isLst d) := by
  cases d with
  | none => exact (by decide +kernel : kitB "NoneType" "list" = some false)
  | bool _ => exact (by decide +kernel : kitB "bool" "list" = some false)
  | int _ => exact (by decide +kernel : kitB "int" "list" = some false)
  | str _ => exact (by decide +kernel : kitB "str" "list" = some false)
  | list _ => exact (by decide +kernel : kitB "list" "list" = some true)
  | tuple _ => exact (by decide +kernel : kitB "tuple" "list" = some false)
  | dict _ => exact (by decide +kernel : kitB "dict" "list" = some false)
section
variable {K : PySem.W.Frag} {S : Addr → Prop} {H : Hp} {v : V} {d : PyData} {σ : L2.St}
theorem rc_isi {T : String} {b : Bool} (h : Da S H v d) (hk : kitB (tyD d) T = some b) : RC (rIsi K) [v, .ty T] H (.bl b) := fun H1 e Q q =>
  ⟨v, .ty T, .type (tyD d), .type T, b, rfl, .ty T, tyX_da (h.same e), kit_ty hk, q H1 (Ex.refl H1)⟩
/-- isinstance(e, T) -/
theorem ev_isi {T : String} {b : Bool} {ta : TE} (ha : Ev ta σ H v) (h : Da S H v d) (hk : kitB (tyD d) T = some b) : Ev (tCB (rIsi K) (tCons ta (tCons (tC (.ty T)) tNil))) σ H (.bl b) :=
  ev_cb (ea_cons ha (ea_cons ev_c ea_nil)) (rc_isi h hk)
/-- isinstance(e, (T, U)) -/
theorem ev_isi2 {T U : String} {b c : Bool} {ta : TE} (ha : Ev ta σ H v) (h : Da S H v d) (hk : kitB (tyD d) T = some b) (hk2 : kitB (tyD d) U = some c) :
    Ev (tCB (rIsiT K) (tCons ta (tCons (tTup (tCons (tC (.ty T)) (tCons (tC (.ty U)) tNil))) tNil))) σ H (.bl (b || c)) := fun H1 e Q q =>
  ha H1 e _ fun H2 e2 => ⟨by show 2 ≤ sizeLine; decide, fun p hp => ⟨v, p, [.ty T, .ty U], .type (tyD d), [.type T, .type U], (b || c), rfl, upd_same, .cons (.ty T) (.cons (.ty U) .nil), tyX_da (h.same ((e.trans e2).trans (Ex.new hp))),
    kitAny_cons (kit_ty hk) (fun hb => kitAny_cons (kit_ty hk2) (fun hc => by rw [hb, hc]; exact kitAny_nil) (fun hc => by rw [hb, hc] <;> rfl)) (fun hb => by rw [hb] <;> rfl), q _ (e2.trans (Ex.new hp))⟩⟩
/-- a promise: on one datum, a value -/
def spD (pre : PyData → Prop) (g : PyData → V) : Sp := fun vs H Q _ => ∃ (S : Addr → Prop) (v : V) (d : PyData), vs = [v] ∧ Da S H v d ∧ pre d ∧ ∀ H', Ex H H' → Q (g d) H'
theorem ev_spD {pre : PyData → Prop} {g : PyData → V} {E : XK} {ta : TE} (ha : Ev ta σ H v) (h : Da S H v d) (p : pre d) : Ev (tCall (spD pre g) [] E (tCons ta tNil)) σ H (g d) :=
  ev_call (ea_cons ha ea_nil) fun H1 e Q q E => ⟨S, v, d, rfl, h.same e, p, fun H2 e2 => q H2 e2⟩
end

section
variable {K : PySem.W.Frag} {σ : L2.St} {H : Hp} {ta tb te : TE} {t : TT} {v : V}
/-! ### comprehensions over a text, a tuple -/
theorem el_lcStr {tl : TE} {z : Str} {j : Nat} {vs : List Nat} (f : Nat → Bool) (v : Nat → V) (h : Ev tl σ H (.str z)) (hz : z.cps.size ≤ 40000) (hw : ∀ x, wipe ((wipe σ vs).set j (some x)) vs = wipe σ vs)
    (ht : ∀ (i : Nat) (c : Nat) H1, Ex H H1 → z.cps[i]? = some c → EvT t ((wipe σ vs).set j (some (.str ⟨#[c]⟩))) H1 (f i)) (he : ∀ (i : Nat) (c : Nat) H1, Ex H H1 → z.cps[i]? = some c → f i = true → Ev te ((wipe σ vs).set j (some (.str ⟨#[c]⟩))) H1 (v i)) :
    EvL (tLc (iStr tl) (gName j) t te vs) σ H (given z.cps.size f v) := fun H0 e Q q => h H0 e _ fun H1 e1 => ⟨z, rfl, fun Dl hD =>
  lc_it walk_str (Cw H1 f v Dl) ⟨hD, Ex.new hD, upd_same⟩ (fun _ _ _ _ => trivial) (fun i x Ha Hb hi p y => by
    obtain ⟨rfl, c, hc, rfl⟩ := y
    exact ⟨hw _, cw_turn p (by omega) (ht i c H1 (e.trans e1) hc) (fun hf => he i c H1 (e.trans e1) hc hf)⟩) (fun H' p => q Dl H' (fresh_back e1 p.1) (e1.trans p.2.1) p.2.2)⟩
theorem el_lcTup {a : Addr} {xs : List V} {tl : TE} {j : Nat} {vs : List Nat} (f : Nat → Bool) (v : Nat → V) (h : Ev tl σ H (.ref a)) (hx : SqT K H a xs) (hz : xs.length ≤ 40000) (hw : ∀ x, wipe ((wipe σ vs).set j (some x)) vs = wipe σ vs)
    (ht : ∀ (i : Nat) (x : V) H1, Ex H H1 → xs[i]? = some x → EvT t ((wipe σ vs).set j (some x)) H1 (f i)) (he : ∀ (i : Nat) (x : V) H1, Ex H H1 → xs[i]? = some x → f i = true → Ev te ((wipe σ vs).set j (some x)) H1 (v i)) :
    EvL (tLc (iTup K tl) (gName j) t te vs) σ H (given xs.length f v) := fun H0 e Q q => h H0 e _ fun H1 e1 => ⟨a, rfl, ⟨xs, ex_t (e.trans e1) hx⟩, fun Dl hD =>
  lc_it (walk_tup (xs := xs)) (Cw H1 f v Dl) ⟨hD, Ex.new hD, upd_same⟩ (fun i H' _ p => ex_t ((e.trans e1).trans p.2.1) hx) (fun i x Ha Hb hi p y => by
    obtain ⟨rfl, hc⟩ := y
    exact ⟨hw _, cw_turn p (by omega) (ht i x H1 (e.trans e1) hc) (fun hf => he i x H1 (e.trans e1) hc hf)⟩) (fun H' p => q Dl H' (fresh_back e1 p.1) (e1.trans p.2.1) p.2.2)⟩
/-- over a tuple that is made on the spot -/
theorem el_lcNT {xs : List V} {tl : TE} {j : Nat} {vs : List Nat} (f : Nat → Bool) (v : Nat → V) (h : EvU tl σ H xs) (hz : xs.length ≤ 40000) (hw : ∀ x, wipe ((wipe σ vs).set j (some x)) vs = wipe σ vs)
    (ht : ∀ (i : Nat) (x : V) H1, Ex H H1 → xs[i]? = some x → EvT t ((wipe σ vs).set j (some x)) H1 (f i)) (he : ∀ (i : Nat) (x : V) H1, Ex H H1 → xs[i]? = some x → f i = true → Ev te ((wipe σ vs).set j (some x)) H1 (v i)) :
    EvL (tLc (iTup K tl) (gName j) t te vs) σ H (given xs.length f v) := fun H0 e Q q => h H0 e _ fun a H1 ha e1 hx => ⟨a, rfl, ⟨xs, st_of hx⟩, fun Dl hD =>
  lc_it (walk_tup (xs := xs)) (Cw H1 f v Dl) ⟨hD, Ex.new hD, upd_same⟩ (fun i H' _ p => st_of (p.2.1 a _ hx)) (fun i x Ha Hb hi p y => by
    obtain ⟨rfl, hc⟩ := y
    exact ⟨hw _, cw_turn p (by omega) (ht i x H1 (e.trans e1) hc) (fun hf => he i x H1 (e.trans e1) hc hf)⟩) (fun H' p => q Dl H' (fresh_back e1 p.1) (e1.trans p.2.1) p.2.2)⟩
theorem et_yes : EvT tYes σ H true := fun H1 _ _ q => q H1 (Ex.refl H1)
theorem given_all {n : Nat} {v : Nat → V} : given n (fun _ => true) v = (List.range n).map v := by
  unfold given
  rw [List.filter_eq_self.mpr (fun _ _ => rfl)]
theorem given_map {α : Type} {g : α → V} : ∀ {xs : List α} {v : Nat → V}, (∀ i x, xs[i]? = some x → v i = g x) → given xs.length (fun _ => true) v = xs.map g := by
  intro xs v h
  rw [given_all]
  apply List.ext_getElem?
  intro i
  rw [List.getElem?_map, List.getElem?_map]
  by_cases hi : i < xs.length
  · rw [List.getElem?_range hi, List.getElem?_eq_getElem hi]
    exact congrArg some (h i _ (List.getElem?_eq_getElem hi))
  · rw [List.getElem?_eq_none (by simpa using Nat.le_of_not_lt hi), List.getElem?_eq_none (Nat.le_of_not_lt hi)] <;> rfl
/-- all(xs), any(xs) of a new list -/
theorem ev_all {bs : List Bool} (h : EvL te σ H (bs.map V.bl)) : Ev (tCB (rAll K) (tCons te tNil)) σ H (.bl (bs.all id)) := fun H1 e Q q =>
  h H1 e _ fun p H2 _ e2 hp => ⟨p, bs, rfl, sq_of hp, q H2 e2⟩
theorem ev_any {bs : List Bool} (h : EvL te σ H (bs.map V.bl)) : Ev (tCB (rAny K) (tCons te tNil)) σ H (.bl (bs.any id)) := fun H1 e Q q =>
  h H1 e _ fun p H2 _ e2 hp => ⟨p, bs, rfl, sq_of hp, q H2 e2⟩
/-! ### lengths, items, signs -/
theorem ev_lenT {a : Addr} {xs : List V} (h : Ev te σ H (.ref a)) (hx : SqT K H a xs) : Ev (tCB (rLenS K) (tCons te tNil)) σ H (.int (xs.length : Int)) := fun H1 e Q q =>
  h H1 e _ fun H2 e2 => ⟨a, xs, rfl, .inr (ex_t (e.trans e2) hx), q H2 e2⟩
def rLenStr : List V → Hp → VK → Prop := fun xs H Q => ∃ z : Str, xs = [.str z] ∧ z.length ≤ sizeLine ∧ Q (.int z.length) H
theorem ev_lenStr {z : Str} (h : Ev te σ H (.str z)) (hz : z.length ≤ 100000) : Ev (tCB rLenStr (tCons te tNil)) σ H (.int (z.length : Int)) := fun H1 e Q q =>
  h H1 e _ fun H2 e2 => ⟨z, rfl, sz_of hz, q H2 e2⟩
theorem rv_inSign {c : Nat} {z : Str} : RV rInS (.str ⟨#[c]⟩) (.str z) H (.bl (decide (c ∈ z.cps.toList))) := fun H1 e Q q => ⟨c, z, rfl, rfl, q H1 (Ex.refl H1)⟩
theorem rv_notInSign {c : Nat} {z : Str} : RV rNotInS (.str ⟨#[c]⟩) (.str z) H (.bl (!decide (c ∈ z.cps.toList))) := fun H1 e Q q => ⟨c, z, rfl, rfl, q H1 (Ex.refl H1)⟩
end

section
variable {K : PySem.W.Frag} {σ : L2.St} {H : Hp} {ta tb tc te : TE} {t : TT} {v x y z w : V} {r r' : R2}
/-! ### a < b < c -/
theorem ev_chain {b c : Bool} (ha : Ev ta σ H x) (hb : Ev tb σ H y) (hr : RV r x y H (.bl c)) (h0 : c = false → b = false) (h1 : c = true → Ev tc σ H w ∧ RV r' y w H (.bl b)) : Ev (tChain r r' ta tb tc) σ H (.bl b) := fun H1 e Q q =>
  ha H1 e _ fun H2 e2 => hb H2 (e.trans e2) _ fun H3 e3 => hr H3 ((e.trans e2).trans e3) _ fun H4 e4 => ⟨c, rfl, by
    cases c with
    | true =>
      obtain ⟨hw, hz⟩ := h1 rfl
      show tc σ H4 _
      exact hw H4 (((e.trans e2).trans e3).trans e4) _ fun H5 e5 => hz H5 ((((e.trans e2).trans e3).trans e4).trans e5) Q fun H6 e6 => q H6 ((((e2.trans e3).trans e4).trans e5).trans e6)
    | false =>
      have hq := q H4 ((e2.trans e3).trans e4)
      rw [h0 rfl] at hq
      exact hq⟩
/-! ### texts -/
def rAddStr : R2 := fun x y H Q => ∃ i j : Str, x = .str i ∧ y = .str j ∧ i.length + j.length ≤ sizeLine ∧ Q (.str (i ++ j)) H
theorem rv_addStr {a b : Str} (hz : a.length + b.length ≤ 100000) : RV rAddStr (.str a) (.str b) H (.str (a ++ b)) := fun H1 e Q q => ⟨a, b, rfl, rfl, sz_of hz, q H1 (Ex.refl H1)⟩
def rItemStr : R2 := fun x y H Q => ∃ (z : Str) (i : Int) (c : Nat), x = .str z ∧ y = .int i ∧ 0 ≤ i ∧ i < 2 ^ 63 ∧ i < z.length ∧ z.cps[i.toNat]? = some c ∧ Q (.str ⟨#[c]⟩) H
theorem rv_itemStr {z : Str} {j c : Nat} (hc : z.cps[j]? = some c) (hz : z.length ≤ 100000) : RV rItemStr (.str z) (.int (j : Int)) H (.str ⟨#[c]⟩) := fun H1 e Q q => by
  have hl : j < z.cps.size := (Array.getElem?_eq_some_iff.mp hc).1
  have hl2 : j < z.length := hl
  exact ⟨z, (j : Int), c, rfl, rfl, by omega, by omega, by omega, hc, q H1 (Ex.refl H1)⟩
/-! ### a value that is a tuple, new or not -/
def EvW (te : TE) (σ : L2.St) (H : Hp) (xs : List V) : Prop := ∀ H1, Ex H H1 → ∀ Q : VK, (∀ p H2, Ex H1 H2 → H2 p = some (.tup xs) → Q (.ref p) H2) → te σ H1 Q
theorem EvW.of {xs : List V} (h : EvU te σ H xs) : EvW te σ H xs := fun H1 e Q q => h H1 e Q fun p H2 _ e2 hp => q p H2 e2 hp
theorem ew_var {i : Nat} {a : Addr} {xs : List V} (h : Ev te σ H (.ref a)) (hx : H a = some (.tup xs)) : EvW te σ H xs := fun H1 e Q q => h H1 e Q fun H2 e2 => q a H2 e2 (e2 _ _ (e _ _ hx))
theorem cutV_from (xs : List V) (k : Nat) : cutV xs (some (k : Int)) none = xs.drop k := by
  unfold cutV
  rw [HT.sIx_nat, HT.sIx_none, List.take_of_length_le (by rw [List.length_drop]; exact Nat.le_refl _)]
  by_cases h : k ≤ xs.length
  · rw [Nat.min_eq_left h]
  · rw [Nat.min_eq_right (by omega), List.drop_eq_nil_of_le (Nat.le_refl _), List.drop_eq_nil_of_le (by omega)]
theorem cutV_upto (xs : List V) (k : Nat) : cutV xs none (some (k : Int)) = xs.take k := by
  unfold cutV
  rw [HT.sIx_nat, HT.sIx_none]
  show List.take (min k xs.length - 0) (List.drop 0 xs) = _
  rw [List.drop_zero, Nat.sub_zero]
  by_cases h : k ≤ xs.length
  · rw [Nat.min_eq_left h]
  · rw [Nat.min_eq_right (by omega), List.take_of_length_le (Nat.le_refl _), List.take_of_length_le (by omega)]
/-- t[k:] -/
theorem ew_from {a : Addr} {xs : List V} {k : Nat} (h : Ev te σ H (.ref a)) (hk : Ev tb σ H (.int (k : Int))) (hx : H a = some (.tup xs)) : EvW (tSl (rSlA K) te (tPart tb) tNoPart) σ H (xs.drop k) := fun H1 e Q q =>
  h H1 e _ fun H2 e2 => hk H2 (e.trans e2) _ fun H3 e3 => ⟨(k : Int), rfl, a, xs, rfl, st_of (((e.trans e2).trans e3) _ _ hx), fun hw => by
    have h0 := hw.1
    rw [HT.sIx_nat] at h0
    have hd : xs.drop k = xs := by
      by_cases hk0 : k = 0
      · rw [hk0, List.drop_zero]
      · have : xs.length = 0 := by omega
        rw [List.length_eq_zero_iff.mp this, List.drop_nil]
    refine q a H3 (e2.trans e3) ?_
    rw [hd]
    exact ((e.trans e2).trans e3) _ _ hx, fun hw p hp => by
    rw [cutV_from]
    exact q p _ ((e2.trans e3).trans (Ex.new hp)) upd_same⟩
/-- t[:k] -/
theorem ew_upto {a : Addr} {xs : List V} {k : Nat} (h : Ev te σ H (.ref a)) (hk : Ev tb σ H (.int (k : Int))) (hx : H a = some (.tup xs)) : EvW (tSl (rSlA K) te tNoPart (tPart tb)) σ H (xs.take k) := fun H1 e Q q =>
  h H1 e _ fun H2 e2 => hk H2 (e.trans e2) _ fun H3 e3 => ⟨(k : Int), rfl, a, xs, rfl, st_of (((e.trans e2).trans e3) _ _ hx), fun hw => by
    have h0 := hw.2
    rw [HT.sIx_nat] at h0
    have hd : xs.take k = xs := List.take_of_length_le (by omega)
    refine q a H3 (e2.trans e3) ?_
    rw [hd]
    exact ((e.trans e2).trans e3) _ _ hx, fun hw p hp => by
    rw [cutV_upto]
    exact q p _ ((e2.trans e3).trans (Ex.new hp)) upd_same⟩
/-- t[:0:-1] -/
theorem ew_back {a : Addr} {xs : List V} (h : Ev te σ H (.ref a)) (hx : H a = some (.tup xs)) : EvW (tBack K te) σ H (xs.drop 1).reverse := fun H1 e Q q =>
  h H1 e _ fun H2 e2 => ⟨a, xs, rfl, st_of ((e.trans e2) _ _ hx), fun p hp => q p _ (e2.trans (Ex.new hp)) upd_same⟩
/-- a comprehension over such a tuple, each turn a plain value -/
theorem el_lcW {xs : List V} {tl : TE} {j : Nat} {vs : List Nat} (f : Nat → Bool) (v : Nat → V) (h : EvW tl σ H xs) (hz : xs.length ≤ 40000) (hw : ∀ x, wipe ((wipe σ vs).set j (some x)) vs = wipe σ vs)
    (ht : ∀ (i : Nat) (x : V) H1, Ex H H1 → xs[i]? = some x → EvT t ((wipe σ vs).set j (some x)) H1 (f i)) (he : ∀ (i : Nat) (x : V) H1, Ex H H1 → xs[i]? = some x → f i = true → Ev te ((wipe σ vs).set j (some x)) H1 (v i)) :
    EvL (tLc (iTup K tl) (gName j) t te vs) σ H (given xs.length f v) := fun H0 e Q q => h H0 e _ fun a H1 e1 hx => ⟨a, rfl, ⟨xs, st_of hx⟩, fun Dl hD =>
  lc_it (walk_tup (xs := xs)) (Cw H1 f v Dl) ⟨hD, Ex.new hD, upd_same⟩ (fun i H' _ p => st_of (p.2.1 a _ hx)) (fun i x Ha Hb hi p y => by
    obtain ⟨rfl, hc⟩ := y
    exact ⟨hw _, cw_turn p (by omega) (ht i x H1 (e.trans e1) hc) (fun hf => he i x H1 (e.trans e1) hc hf)⟩) (fun H' p => q Dl H' (fresh_back e1 p.1) (e1.trans p.2.1) p.2.2)⟩
/-! ### objects that a comprehension makes: G v i: what stands behind v, kept by whatever is added -/
/-- each item is new or old; G tells what it is -/
def EvG (te : TE) (σ : L2.St) (H : Hp) (G : V → Hp → Prop) : Prop := ∀ H1, Ex H H1 → ∀ Q : VK, (∀ v H2, Ex H1 H2 → G v H2 → Q v H2) → te σ H1 Q
theorem EvG.ev (h : Ev te σ H v) {G : V → Hp → Prop} (g : ∀ H1, Ex H H1 → G v H1) : EvG te σ H G := fun H1 e Q q => h H1 e Q fun H2 e2 => q v H2 e2 (g H2 (e.trans e2))
theorem EvG.imp {G G' : V → Hp → Prop} (h : EvG te σ H G) (g : ∀ v H1, Ex H H1 → G v H1 → G' v H1) : EvG te σ H G' := fun H1 e Q q => h H1 e Q fun v H2 e2 gv => q v H2 e2 (g v H2 (e.trans e2) gv)
/-- items one by one -/
inductive Its (G : Nat → V → Hp → Prop) (H : Hp) : Nat → List V → Prop
  | nil : Its G H 0 []
  | snoc {n : Nat} {vs : List V} {v : V} : Its G H n vs → G n v H → Its G H (n + 1) (vs ++ [v])
theorem Its.keep {G : Nat → V → Hp → Prop} {H H' : Hp} (k : ∀ i v, G i v H → G i v H') : ∀ {n : Nat} {vs : List V}, Its G H n vs → Its G H' n vs
  | _, _, .nil => .nil
  | _, _, .snoc h g => .snoc (Its.keep k h) (k _ _ g)
theorem Its.len {G : Nat → V → Hp → Prop} {H : Hp} : ∀ {n : Nat} {vs : List V}, Its G H n vs → vs.length = n
  | _, _, .nil => rfl
  | _, _, .snoc h _ => by rw [List.length_append, Its.len h] <;> rfl
theorem Its.get {G : Nat → V → Hp → Prop} {H : Hp} : ∀ {n : Nat} {vs : List V} {i : Nat} {v : V}, Its G H n vs → vs[i]? = some v → G i v H
  | _, _, i, v, .nil, e => by simp at e
  | _, _, i, v, .snoc (n := n) (vs := vs) (v := w) h g, e => by
    have hl := h.len
    by_cases hi : i < vs.length
    · rw [List.getElem?_append_left hi] at e
      exact Its.get h e
    · have hi2 : i = n := by
        have := (List.getElem?_eq_some_iff.mp e).1
        rw [List.length_append, List.length_singleton] at this
        omega
      subst hi2
      rw [List.getElem?_append_right (by omega), hl, Nat.sub_self] at e
      have e2 : w = v := Option.some.inj e
      rw [← e2]
      exact g
/-- a comprehension over a tuple, no test: turn i gives what G D i tells, D the list that is being made -/
theorem eg_lcW {xs : List V} {tl : TE} {j : Nat} {vs : List Nat} {G : Addr → Nat → V → Hp → Prop} (gk : ∀ D i v H1 H2, Kp (fun a => a = D) H1 H2 → G D i v H1 → G D i v H2) (h : EvW tl σ H xs) (hz : xs.length ≤ 40000) (hw : ∀ x, wipe ((wipe σ vs).set j (some x)) vs = wipe σ vs)
    (he : ∀ D, H D = none → ∀ (i : Nat) (x : V) H1, Ex H H1 → (∃ us, H1 D = some (.lst us)) → xs[i]? = some x → EvG te ((wipe σ vs).set j (some x)) H1 (G D i)) :
    ∀ H1, Ex H H1 → ∀ Q : VK, (∀ p us H2, H1 p = none → Ex H1 H2 → H2 p = some (.lst us) → Its (G p) H2 xs.length us → Q (.ref p) H2) → tLc (iTup K tl) (gName j) tYes te vs σ H1 Q := fun H0 e Q q => h H0 e _ fun a H1 e1 hx => ⟨a, rfl, ⟨xs, st_of hx⟩, fun Dl hD =>
  lc_it (walk_tup (xs := xs)) (fun i H' => Ex H1 H' ∧ ∃ us, H' Dl = some (.lst us) ∧ Its (G Dl) H' i us) ⟨Ex.new hD, [], upd_same, .nil⟩ (fun i H' _ p => st_of (p.1 a _ hx)) (fun i x Ha Hb hi p y => by
    obtain ⟨rfl, hc⟩ := y
    obtain ⟨p1, us, p2, p3⟩ := p
    refine ⟨hw _, ?_⟩
    show te _ _ _
    refine he Dl (fresh_back (e.trans e1) hD) i x _ ((e.trans e1).trans p1) ⟨us, p2⟩ hc _ (Ex.refl _) _ fun v H4 e4 g => ⟨us, e4 _ _ p2, sz_lt (by have := p3.len; omega), ?_⟩
    have kp : Kp (fun a => a = Dl) H4 (upd H4 Dl (.lst (us ++ [v]))) := fun b o nb hb => by
      rw [upd_ne nb]
      exact hb
    refine ⟨Ex.mut (p1.trans e4) hD, _, upd_same, .snoc (Its.keep (fun i v g => gk Dl i v _ _ kp g) (Its.keep (fun i v g => gk Dl i v _ _ (Kp.of e4) g) p3)) (gk Dl i v _ _ kp g)⟩) (fun H' p => by
    obtain ⟨p1, us, p2, p3⟩ := p
    exact q Dl us H' (fresh_back e1 hD) (e1.trans p1) p2 p3)⟩
/-! ### the last of a list -/
theorem Paired.last {α β : Type} {R : α → β → Prop} : ∀ {as : List α} {bs : List β}, Paired R as bs → as ≠ [] → ∃ as' a bs' b, as = as' ++ [a] ∧ bs = bs' ++ [b] ∧ Paired R as' bs' ∧ R a b
  | [a], [b], .cons r .nil, _ => ⟨[], a, [], b, rfl, rfl, .nil, r⟩
  | a :: a2 :: as, b :: b2 :: bs, .cons r t, _ => by
    obtain ⟨as', x, bs', y, e1, e2, p, q⟩ := Paired.last t (List.cons_ne_nil _ _)
    exact ⟨a :: as', x, b :: bs', y, by rw [e1] <;> rfl, by rw [e2] <;> rfl, .cons r p, q⟩
theorem Paired.app {α β : Type} {R : α → β → Prop} : ∀ {as cs : List α} {bs ds : List β}, Paired R as bs → Paired R cs ds → Paired R (as ++ cs) (bs ++ ds)
  | _, _, _, _, .nil, s => s
  | _, _, _, _, .cons r t, s => .cons r (Paired.app t s)
end
end Sl
set_option Elab.async false
set_option linter.all false
set_option maxRecDepth 100000
set_option maxHeartbeats 4000000
namespace Sl
open PySem PySem.Spec PyProof.Rows L2 Evl
theorem dict_eq_str (l : Addr) (es : Array DictEntry) (n : Nat) (dd : Option Addr) (sl : Array (Option Value)) (b : Str) (u : Tok) :
    Meets (Builtin.«dict.__eq__» ⟨[.ref l, .str b u], []⟩) (fun _ R s => s.heap.get? l = some { cls := .type "dict", dict := dd, data := .dict es n, slots := sl } ∧ R (.ok (.ret .notImplemented)) s) := by
  refine .of_wp fun prog w A R s h => ?_
  obtain ⟨hp, g, d, tk, os⟩ := s
  obtain ⟨hl, h⟩ := h
  have f1 := PySem.F.sub_str_dict
  wp_walk using wpAny_loadPart' hl
  exact ⟨_, rfl, h⟩
theorem str_eq_dict (b : Str) (u : Tok) (l : Addr) (es : Array DictEntry) (n : Nat) (dd : Option Addr) (sl : Array (Option Value)) :
    Meets (Builtin.«str.__eq__» ⟨[.str b u, .ref l], []⟩) (fun _ R s => s.heap.get? l = some { cls := .type "dict", dict := dd, data := .dict es n, slots := sl } ∧ R (.ok (.ret .notImplemented)) s) := by
  refine .of_wp fun prog w A R s h => ?_
  obtain ⟨hp, g, d, tk, os⟩ := s
  obtain ⟨hl, h⟩ := h
  have f1 := PySem.F.sub_dict_str
  wp_walk using wpAny_loadPart' hl
  exact ⟨_, rfl, h⟩
theorem rc_dict_str {A : Around} {s : Shared} {l : Addr} {o : Obj} {es : Array DictEntry} {n : Nat} (b : Str) (u : Tok) (ho : s.heap.get? l = some o) (hc : o.cls = .type "dict") (hd : o.data = .dict es n) (hu : A.units < cLine) : SeqAt.RcAt A s (.ref l) (.str b u) false := by
  intro prog w E Q h
  obtain ⟨c, dd, dt, sl⟩ := o
  simp only at hc hd
  subst hc hd
  exact SeqAt.rc_eq_decline_or (k := false) ⟨_, ho, rfl⟩ (typeIs_str s b u) (by decide) PySem.F.sub_str_dict PySem.F.slot_dict_eq PySem.F.slot_str_eq_refl
    (fun _ hq => call_meets PySem.F.slot_dict_eq ⟨_, ho, rfl⟩ PySem.F.entry_dict_eq (PySem.F.args_dict_eq_2 _ _) (dict_eq_str l es n dd sl b u) ⟨ho, hq⟩)
    (fun _ hq => call_meets PySem.F.slot_str_eq_refl (typeIs_str s b u) PySem.F.entry_str_eq (PySem.F.args_str_eq_2 _ _) (str_eq_dict b u l es n dd sl) ⟨ho, hq⟩)
    (fun _ hq => wpAny_of_eq (rfl : isSame (.ref l) (.str b u) = pure false) hq) (.inr hu) h
def isThe (d : PyData) (z : Str) : Bool := match d with
  | .str x => x == z
  | _ => false
/-- x == z, z a text, x any datum -/
def rEqStr : R2 := fun x y H Q => ∃ (S : Addr → Prop) (d : PyData) (z : Str), y = .str z ∧ Da S H x d ∧ Q (.bl (isThe d z)) H
theorem op_eqStr {X : Cx} (hu : X.A.units + 64 < cLine) : OpR X (compareOp .Eq) rEqStr := by
  intro pins s σ H x y v u Q I rx ry h
  obtain ⟨S, d, z, rfl, hd, q⟩ := h
  obtain ⟨t, rfl⟩ := ry
  obtain ⟨as, rd, _⟩ := Da.reads I hd rx
  have hu' : X.A.units < cLine := by omega
  have fin : ∀ k, k = isThe d z → EP X pins σ Q (.bool k) s := fun k e => ⟨.bl k, H, I, rfl, by rw [e]; exact q⟩
  cases rd with
  | none => exact SeqAt.RcAt.none_str z t _ _ _ _ (fin _ rfl)
  | bool b => exact SeqAt.RcAt.bool_str b z t _ _ _ _ (fin _ rfl)
  | int i t2 => exact SeqAt.RcAt.int_str i t2 z t _ _ _ _ (fin _ rfl)
  | str y t2 => exact SeqAt.RcAt.str_str y t2 z t _ _ _ _ (fin _ rfl)
  | list h1 h2 h3 h4 => exact SeqAt.RcAt.list_str z t ⟨_, h1, h2, _, h3⟩ hu' _ _ _ _ (fin _ rfl)
  | tuple h1 h2 h3 h4 => exact SeqAt.RcAt.tuple_str z t ⟨_, h1, h2, _, h3⟩ hu' _ _ _ _ (fin _ rfl)
  | dict h1 h2 h3 h4 h5 => exact rc_dict_str z t h1 h2 h3 hu' _ _ _ _ (fin _ rfl)
/-- x == (), x a tuple -/
def rEqNil (K : PySem.W.Frag) : R2 := fun x y H Q => ∃ (a b : Addr) (xs : List V), x = .ref a ∧ y = .ref b ∧ SqT K H a xs ∧ SqT K H b [] ∧ Q (.bl xs.isEmpty) H
theorem op_eqNil {X : Cx} (hu : X.A.units + 64 < cLine) : OpR X (compareOp .Eq) (rEqNil X.K) := by
  intro pins s σ H x y v u Q I rx ry h
  obtain ⟨a, b, xs, rfl, rfl, ha, hb, q⟩ := h
  cases rx
  cases ry
  obtain ⟨its, r1, p1, _⟩ := I.tuple ha
  obtain ⟨its2, r2, p2, _⟩ := I.tuple hb
  cases r2
  obtain ⟨o1, e1, c1, n1, d1⟩ := p1
  obtain ⟨o2, e2, c2, n2, d2⟩ := p2
  refine SeqAt.RcAt.tuples (e := fun _ => false) ⟨o1, e1, c1, n1, d1⟩ ⟨o2, e2, c2, n2, d2⟩ (by omega) (fun j h1 h2 => absurd h2 (by simp)) _ _ _ _ ⟨.bl xs.isEmpty, H, I, ?_, q⟩
  show Value.bool _ = Value.bool xs.isEmpty
  refine congrArg Value.bool ?_
  have hl := r1.length
  cases xs with
  | nil =>
    have : its = [] := List.length_eq_zero_iff.mp hl.symm
    rw [this]
    rfl
  | cons x r =>
    have h0 : its.toArray.size = r.length + 1 := by rw [List.size_toArray, ← hl] <;> rfl
    rw [h0]
    simp
section
variable {K : PySem.W.Frag} {S : Addr → Prop} {H : Hp} {v : V} {d : PyData} {σ : L2.St} {ta tb : TE}
theorem rv_eqStr {z : Str} (h : Da S H v d) : RV rEqStr v (.str z) H (.bl (isThe d z)) := fun H1 e Q q => ⟨S, d, z, rfl, h.same e, q H1 (Ex.refl H1)⟩
theorem ev_eqNil {a : Addr} {xs : List V} (h : Ev ta σ H (.ref a)) (hx : SqT K H a xs) : Ev (tOp (rEqNil K) ta (tTup tNil)) σ H (.bl xs.isEmpty) := fun H1 e Q q =>
  h H1 e _ fun H2 e2 => ⟨Nat.zero_le _, fun p hp => ⟨a, p, xs, rfl, rfl, ex_t ((e.trans e2).trans (Ex.new hp)) hx, st_of upd_same, q _ (e2.trans (Ex.new hp))⟩⟩
end
section
variable {K : PySem.W.Frag} {σ : L2.St} {H : Hp} {te : TE} {tz : TS} {D : Ends}
/-- x = e, whatever is told of it; the rest behind -/
theorem q_asgR {i : Nat} (R : V → Hp → Prop) (h : ∀ Q : VK, (∀ v H1, R v H1 → Q v H1) → te σ H Q) (k : ∀ v H1, R v H1 → tz D (σ.set i (some v)) H1) : tSeq (tAsg te (gName i)) tz D σ H := h _ k
theorem s_asgR {i : Nat} (R : V → Hp → Prop) (h : ∀ Q : VK, (∀ v H1, R v H1 → Q v H1) → te σ H Q) (k : ∀ v H1, R v H1 → D.nx (σ.set i (some v)) H1) : tAsg te (gName i) D σ H := h _ k
theorem s_retR (R : V → Hp → Prop) (h : ∀ Q : VK, (∀ v H1, R v H1 → Q v H1) → te σ H Q) (k : ∀ v H1, R v H1 → D.rt v H1) : tRet te D σ H := h _ k
theorem q_dropR (R : Hp → Prop) (h : ∀ Q : VK, (∀ v H1, R H1 → Q v H1) → te σ H Q) (k : ∀ H1, R H1 → tz D σ H1) : tSeq (tDrop te) tz D σ H := h _ fun _ => k
theorem s_dropR (R : Hp → Prop) (h : ∀ Q : VK, (∀ v H1, R H1 → Q v H1) → te σ H Q) (k : ∀ H1, R H1 → D.nx σ H1) : tDrop te D σ H := h _ fun _ => k
/-- a statement of any kind, cut by what holds behind it -/
theorem q_any {tu : TS} (M : L2.St → Hp → Prop) (h : ∀ nx, (∀ σ' H', M σ' H' → nx σ' H') → tu { D with nx := nx } σ H) (k : ∀ σ' H', M σ' H' → tz D σ' H') : tSeq tu tz D σ H := h _ k
end
end Sl
set_option Elab.async false
set_option linter.all false
set_option maxRecDepth 100000
set_option maxHeartbeats 4000000
namespace Sl
open PySem PySem.Spec PyProof.Rows L2 Evl
section
variable {prog : Program} {w : World} {A : Around} {E : Value → Shared → Prop} {s : Shared} {T : String} {r d : Addr} {n : Nat} {P : Nat → Value → Prop} {OK : Heap → Prop}
theorem tuple_src {Q : Value → Shared → Prop} (hT : T ≠ "tuple") (src : PySem.W.KdlSrc prog w T r d n P OK) (hh : A.handled = none) (hok : OK s.heap) (hn : n ≤ sizeLine)
    (h : ∀ (h' : Heap) (tk : Nat) (acc : Array Value), (∀ b o, s.heap.get? b = some o → h'.get? b = some o) → ItemsOf P acc n → Q (.ref h'.objs.size) { s with heap := h'.push { cls := .type "tuple", data := .seq acc }, toks := tk }) :
    wpAny (model prog w) A (call (.type "tuple") [.ref r]) Q E s := by
  refine callType_codes (Q₁ := fun obj z => z.TypeIs obj "tuple" ∧ Q obj z) F.called_tuple (F.typeCall_tuple_1 _) F.entry_object_init ?_ fun obj z hz => ⟨hz.1, F.args_object_init_2 obj _, object_init_meets F.called_tuple.init.lookup F.called_tuple.made (by decide) prog w A.in1 _ z ⟨hz.1, rfl, hz.2⟩⟩
  refine codeAny_of_tree ?_
  show wpAny _ A.in1.in1 (do checkBuiltinCall "tuple.__new__" ⟨[.type "tuple", .ref r], []⟩; again (.builtin "tuple.__new__" ⟨[.type "tuple", .ref r], []⟩)) _ _ s
  refine wpAny_bind (wpAny_of_eq (F.newCall_tuple_1 _) (wpAny_pure ⟨plainId_quiet F.plain_tuple_new _, codeAny_builtin F.entry_tuple_new ?_⟩))
  rw [Around.under_plainId F.plain_tuple_new _]
  have hsub := sub_tuple_self
  have hinit := init_tuple_lookup
  have hmh := madeHere_tuple
  have hTI : s.TypeIs (.ref r) T := src.type s hok
  have hh1 : A.in1.in1.handled = none := hh
  have hne := src.notTuple
  wp_walk using wpAny_typeOf hTI, PySem.W.kdu_collect src (A := A.in1.in1) hh1 hok hn
  intro h' tk acc hk hacc
  show wpAny _ _ (Builtin.Tuple.tupleExact acc.toList.toArray >>= fun v => ret v) _ _ _
  unfold Builtin.Tuple.tupleExact
  have e : acc.toList.toArray = acc := by simp
  rw [e]
  refine wpAny_bind (wpAny_newObj_type ?_ (by show acc.size ≤ sizeLine; rw [hacc.1]; exact hn))
  exact wpAny_pure ⟨⟨_, Heap.get?_push_size _ rfl, rfl⟩, h h' tk acc hk hacc⟩
end
/-- tuple(d): its keys -/
def rTupD : List V → Hp → VK → Prop := fun xs H Q => ∃ (a : Addr) (kvs : List (Key × V)), xs = [.ref a] ∧ H a = some (.dK kvs) ∧ ∀ p, H p = none → Q (.ref p) (upd H p (.tup (kvs.map fun kv => kV kv.1)))
theorem call_tupD {X : Cx} (hc : X.calm = true) : CallR X (.type "tuple") rTupD := by
  intro pins s σ H xs us Q I r h
  obtain ⟨a, kvs, rfl, hd, q⟩ := h
  obtain ⟨u, rfl, rx⟩ := vals1 r
  cases rx
  obtain ⟨z, lo, vs, rel, dd⟩ := (show ObjOk X.prog X.w H s.heap a (.dK kvs) from I.hok a _ hd)
  obtain ⟨ep, hat⟩ := dd.dictAt
  have ek : (kvs.map fun kv => kV kv.1) = vs.map fun p => kV p.1 := by
    have e := congrArg (List.map kV) rel.keys
    rw [List.map_map, List.map_map] at e
    exact e
  refine tuple_src (by decide) (PySem.W.kdl_dict (knd := mixKind X.prog X.w) (kvs := vs) (ep := ep) lo) (I.ok.hd hc) hat (by rw [← rel.length]; exact z) fun h' tk acc hk hacc => ?_
  have hv : Vals (vs.map fun p => kV p.1) acc.toList := keys_at (by rw [Array.length_toList]; exact hacc.1) fun j v e => hacc.2 j v (by rw [← Array.getElem?_toList]; exact e)
  have I1 := I.kept (t' := tk) hk
  refine ⟨.ref h'.objs.size, _, I1.laid (t' := tk) (o := .tup (kvs.map fun kv => kV kv.1)) (fun b o e => Heap.get?_push_of_some _ e) (Nat.le_refl _) ?_, rfl, q _ (I1.hok.fresh (Nat.le_refl _))⟩
  exact ⟨by rw [List.length_map]; exact z, acc.toList, by rw [ek]; exact hv, ⟨_, Heap.get?_push_size _ rfl, rfl, _, by rw [Array.toArray_toList]⟩⟩
end Sl
set_option Elab.async false
set_option linter.all false
set_option maxRecDepth 100000
set_option maxHeartbeats 4000000
namespace Sl
open PySem PySem.Spec PyProof.Rows L2 Evl
theorem hu65 {A : Around} {k : Nat} (hr : Room k A) : A.units + 65 < cLine := by
  have := hr.un
  omega
theorem hu1010 {A : Around} {k : Nat} (hr : Room (k + 60) A) : A.units + 1010 < cLine := by
  have := hr.un
  omega
/-- x == [], x a list -/
def rEqLNil (K : PySem.W.Frag) : R2 := fun x y H Q => ∃ (a b : Addr) (xs : List V), x = .ref a ∧ y = .ref b ∧ SqL K H a xs ∧ SqL K H b [] ∧ Q (.bl xs.isEmpty) H
theorem op_eqLNil {X : Cx} (hu : X.A.units + 64 < cLine) : OpR X (compareOp .Eq) (rEqLNil X.K) := by
  intro pins s σ H x y v u Q I rx ry h
  obtain ⟨a, b, xs, rfl, rfl, ha, hb, q⟩ := h
  cases rx
  cases ry
  obtain ⟨its, r1, p1, _⟩ := I.list ha
  obtain ⟨its2, r2, p2, _⟩ := I.list hb
  cases r2
  have hl := r1.length
  cases xs with
  | nil =>
    have hi : its = [] := List.length_eq_zero_iff.mp hl.symm
    subst hi
    refine SeqAt.RcAt.lists (e := fun _ => false) p1.isList p2.isList rfl (by omega) (fun j h1 h2 => absurd h2 (by simp)) _ _ _ _ ⟨.bl true, H, I, rfl, q⟩
  | cons x r =>
    have h0 : its.toArray.size = r.length + 1 := by rw [List.size_toArray, ← hl] <;> rfl
    refine SeqAt.RcAt.lists_lengths p1.isList p2.isList ?_ (by omega) _ _ _ _ ⟨.bl false, H, I, rfl, q⟩
    rw [h0]
    rfl
section
variable {K : PySem.W.Frag} {S : Addr → Prop} {H : Hp} {v x y : V} {d : PyData} {σ : L2.St} {ta tb te : TE} {t : TT} {tu tz : TS} {D : Ends}
theorem ev_eqLNil {xs : List V} (h : EvL ta σ H xs) : Ev (tOp (rEqLNil K) ta (tLst tNil)) σ H (.bl xs.isEmpty) := fun H1 e Q q =>
  h H1 e _ fun a H2 _ e2 h2 => ⟨Nat.zero_le _, fun p hp => ⟨a, p, xs, rfl, rfl, sq_of ((Ex.new hp) _ _ h2), sq_of upd_same, q _ (e2.trans (Ex.new hp))⟩⟩
theorem ev_lenS {a : Addr} {xs : List V} (h : Ev te σ H (.ref a)) (hx : SqL K H a xs ∨ SqT K H a xs) : Ev (tCB (rLenS K) (tCons te tNil)) σ H (.int (xs.length : Int)) := fun H1 e Q q =>
  h H1 e _ fun H2 e2 => ⟨a, xs, rfl, hx.imp (ex_l (e.trans e2)) (ex_t (e.trans e2)), q H2 e2⟩
theorem rv_ixSL {p : Addr} {xs : List V} {i : Int} (h : SqL K H p xs) (ha : atI xs i = some v) : RV (rIx K) (.ref p) (.int i) H v := fun H1 e _ q => .inl ⟨p, xs, i, v, rfl, rfl, ex_l e h, ha, q H1 (Ex.refl H1)⟩
theorem rv_ixST {p : Addr} {xs : List V} {i : Int} (h : SqT K H p xs) (ha : atI xs i = some v) : RV (rIx K) (.ref p) (.int i) H v := fun H1 e _ q => .inr (.inl ⟨p, xs, i, v, rfl, rfl, ex_t e h, ha, q H1 (Ex.refl H1)⟩)
/-- a loop over a tuple, new or not -/
theorem q_forWn {xs : List V} {tl : TE} {j : Nat} (h : EvW tl σ H xs) (Pv : Addr → Nat → L2.St → Hp → Prop) (h0 : ∀ p H1, Ex H H1 → H1 p = some (.tup xs) → Pv p 0 σ H1) (hl : ∀ p i σ' H', Pv p i σ' H' → H' p = some (.tup xs))
    (hs : ∀ p i x σ' H', xs[i]? = some x → Pv p i σ' H' → tu { D with nx := Pv p (i + 1), ct := Pv p (i + 1), bk := tz D } (σ'.set j (some x)) H') (hd : ∀ p σ' H', Pv p xs.length σ' H' → tz D σ' H') : tSeq (tFor (iTup K tl) (gName j) tu) tz D σ H :=
  h H (Ex.refl H) _ fun p H1 e hp => ⟨p, rfl, ⟨xs, st_of hp⟩, for_tup (D := { D with nx := tz D }) (Pv p) (h0 p H1 e hp) (fun i σ' H' _ q => st_of (hl p i σ' H' q)) (hs p) (hd p)⟩
/-- xs.extend(a new list) -/
theorem s_extL {l : Addr} {xs ys : List V} (hl : H l = some (.lst xs)) (ha : Ev ta σ H (.ref l)) (h : EvL te σ H ys) (hz : xs.length + ys.length ≤ 100000) (k : ∀ H1, Ex H H1 → D.nx σ (upd H1 l (.lst (xs ++ ys)))) :
    tDrop (tBM K "list" rExtend ta (tCons te tNil)) D σ H := ha H (Ex.refl H) _ fun H1 e1 =>
  ⟨.inl ⟨rfl, xs, sq_of (e1 l _ hl)⟩, h H1 e1 _ fun p H2 hp e2 h2 => ⟨l, p, xs, ys, rfl, rfl, e2 _ _ (e1 _ _ hl), h2, sz_of hz, k H2 (e1.trans e2)⟩⟩
theorem el_cat {xs ys : List V} (ha : EvL ta σ H xs) (hb : EvL tb σ H ys) (hz : xs.length + ys.length ≤ 100000) : EvL (tOp rCat ta tb) σ H (xs ++ ys) := fun H1 e Q q =>
  ha H1 e _ fun a H2 ha0 e2 h2 => hb H2 (e.trans e2) _ fun b H3 _ e3 h3 => ⟨a, b, xs, ys, rfl, rfl, e3 _ _ h2, h3, sz_of hz, fun p hp => q p _ (fresh_back (e2.trans e3) hp) ((e2.trans e3).trans (Ex.new hp)) upd_same⟩
/-- max of a new list -/
theorem ev_maxL {ns : List Int} {m : Int} (h : EvL te σ H (ns.map V.int)) (hn : 0 < ns.length) (hm : ∀ z, z ∈ ns → (∀ y, y ∈ ns → y ≤ z) → z = m) : Ev (tCB (rMax K) (tCons te tNil)) σ H (.int m) := fun H1 e Q q =>
  h H1 e _ fun p H2 _ e2 hp => ⟨p, ns, rfl, sq_of hp, hn, fun z hz hz2 => by
    have hq := q H2 e2
    rw [← hm z hz hz2] at hq
    exact hq⟩
end
end Sl
set_option Elab.async false
set_option linter.all false
set_option maxRecDepth 100000
set_option maxHeartbeats 4000000
namespace Sl
open PySem PySem.Spec PyProof.Rows L2 Evl
/-! ### tuples of texts at the top, and walks over texts -/
structure GT (K : PySem.W.Frag) (mg : Str → Option Value) (x : Str) (zs : List Str) where
  a : Addr
  g : mg x = some (.ref a)
  t : ∀ H : Hp, SqT K H a (zs.map V.str)
theorem pe_gT {X : Cx} {x : Str} {zs : List Str} {pos : Pos} (hg : Gl X x) (T : GT X.K X.mg x zs) (hd : (x == ("__debug__" : Str)) = false := by decide) : PE X (.Name x pos) (tC (.ref T.a)) :=
  pe_glob (v := .ref T.a) hg T.g rfl hd
theorem ea_dict_str {A : Around} {s : Shared} {l : Addr} {o : Obj} {es : Array DictEntry} {n : Nat} (b : Str) (u : Tok) (ho : s.heap.get? l = some o) (hc : o.cls = .type "dict") (hd : o.data = .dict es n) (hu : A.units < cLine) : SeqAt.EqAt A s (.ref l) (.str b u) false := fun prog w E Q h => by
  unfold eqBool
  refine wpAny_holding ?_
  refine wpAny_ite_split (fun hab => absurd (eq_of_beq hab) nofun) (fun _ => ?_)
  exact wpAny_bind (rc_dict_str b u ho hc hd hu prog w E _ (wpAny_truthy_bool h))
theorem ea_reads_str {A : Around} {s : Shared} {u : Value} {d : PyData} {as : List Addr} (z : Str) (t : Tok) (rd : Reads s.heap u d as) (hu : A.units < cLine) : SeqAt.EqAt A s u (.str z t) (isThe d z) := by
  cases rd with
  | none => exact SeqAt.EqAt.none_str z t
  | bool b => exact SeqAt.EqAt.bool_str b z t
  | int i t2 => exact SeqAt.EqAt.int_str i t2 z t
  | str y t2 => exact SeqAt.EqAt.str_str y t2 z t
  | list h1 h2 h3 h4 => exact SeqAt.EqAt.list_str z t ⟨_, h1, h2, _, h3⟩ hu
  | tuple h1 h2 h3 h4 => exact SeqAt.EqAt.tuple_str z t ⟨_, h1, h2, _, h3⟩ hu
  | dict h1 h2 h3 h4 h5 => exact ea_dict_str z t h1 h2 h3 hu
def isOne (d : PyData) (z : Str) : Bool := match d with
  | .tuple [x] => isThe x z
  | _ => false
/-- x == t, x a tuple of data, t a tuple of one text -/
def rEqT1 (K : PySem.W.Frag) : R2 := fun x y H Q => ∃ (S : Addr → Prop) (a b : Addr) (xs : List V) (ds : List PyData) (z : Str), x = .ref a ∧ y = .ref b ∧ H a = some (.tup xs) ∧ DaAll S H xs ds ∧ SqT K H b [.str z] ∧ Q (.bl (isOne (.tuple ds) z)) H
theorem op_eqT1 {X : Cx} (hu : X.A.units + 64 < cLine) : OpR X (compareOp .Eq) (rEqT1 X.K) := by
  intro pins s σ H x y v u Q I rx ry h
  obtain ⟨S, a, b, xs, ds, z, rfl, rfl, ha, hda, hb, q⟩ := h
  cases rx
  cases ry
  obtain ⟨its, r1, ⟨o1, e1, c1, n1, d1⟩, _⟩ := I.tuple (SqT.of (K := X.K) ha)
  obtain ⟨its2, r2, ⟨o2, e2, c2, n2, d2⟩, _⟩ := I.tuple hb
  cases r2 with
  | @cons _ w2 _ _ r21 r22 =>
  cases r22
  obtain ⟨t, rfl⟩ := r21
  have hu' : X.A.in1.units < cLine := by
    rw [Around.in1_units]
    omega
  cases hda with
  | nil =>
    cases r1
    refine SeqAt.RcAt.tuples (e := fun _ => false) ⟨o1, e1, c1, n1, d1⟩ ⟨o2, e2, c2, n2, d2⟩ (by omega) (fun j h1 h2 => absurd h1 (by simp)) _ _ _ _ ⟨.bl false, H, I, rfl, q⟩
  | @cons v0 vr d0 dr h0 hr =>
    cases r1 with
    | @cons _ u0 _ us r0 rr =>
    obtain ⟨as, rd, _⟩ := Da.reads I h0 r0
    refine SeqAt.RcAt.tuples (e := fun _ => isThe d0 z) ⟨o1, e1, c1, n1, d1⟩ ⟨o2, e2, c2, n2, d2⟩ (by omega) (fun j h1 h2 => ?_) _ _ _ _ ⟨.bl (isOne (.tuple (d0 :: dr)) z), H, I, ?_, q⟩
    · have hj : j = 0 := by
        have : j < 1 := h2
        omega
      subst hj
      exact ea_reads_str z t rd hu'
    · show Value.bool _ = Value.bool _
      refine congrArg Value.bool ?_
      have hl : dr.length = us.length := (hr.length.symm.trans rr.length)
      cases dr with
      | nil =>
        cases us with
        | nil => 
          show ((List.range 1).all (fun _ => isThe d0 z) && _) = isThe d0 z
          simp [List.range_succ]
        | cons _ _ => cases hl
      | cons d1 dr =>
        cases us with
        | nil => cases hl
        | cons _ _ =>
          show (_ && _) = false
          simp
/-! ### <= of ints and truths -/
theorem int_le_bi (a : Bool) (b : Int) (u : Tok) : Gives (Builtin.«int.__le__» ⟨[.bool a, .int b u], []⟩) (.val (Value.bool (decide ((if a = true then (1 : Int) else 0) ≤ b)))) :=
  .of_wp fun M A E s Q h => by obtain ⟨hp, g, d, tk, os⟩ := s; wp_walk; exact ⟨_, rfl, h⟩
theorem int_ge_bi (a : Bool) (b : Int) (u : Tok) : Gives (Builtin.«int.__ge__» ⟨[.bool a, .int b u], []⟩) (.val (Value.bool (decide ((if a = true then (1 : Int) else 0) ≥ b)))) :=
  .of_wp fun M A E s Q h => by obtain ⟨hp, g, d, tk, os⟩ := s; wp_walk; exact ⟨_, rfl, h⟩
def numV : V → Option Int
  | .int i => some i
  | .bl b => some (if b then 1 else 0)
  | _ => none
def rLeN : R2 := fun x y H Q => ∃ i j : Int, numV x = some i ∧ numV y = some j ∧ Q (.bl (decide (i ≤ j))) H
theorem op_leN {X : Cx} : OpR X (compareOp .LtE) rLeN := by
  intro pins s σ H x y v u Q I rx ry h
  obtain ⟨i, j, hi, hj, q⟩ := h
  have fin : ∀ k, k = decide (i ≤ j) → EP X pins σ Q (.bool k) s := fun k e => ⟨.bl k, H, I, rfl, by rw [e]; exact q⟩
  cases x with
  | int a =>
    cases hi
    obtain ⟨t, rfl⟩ := rx
    cases y with
    | int b =>
      cases hj
      obtain ⟨t2, rfl⟩ := ry
      exact PyProof.Rows.le_int (fin _ rfl)
    | bl b =>
      cases hj
      cases ry
      exact SeqAt.rc_sub_first_or (op := .LtE) (typeIs_int s _ t) rfl (by decide) PySem.F.sub_bool_int PySem.F.slot_bool_ge
        (call_gives PySem.F.slot_bool_ge rfl PySem.F.entry_int_ge (PySem.F.args_int_ge_2 _ _) (int_ge_bi b _ t) ⟨nofun, fin _ (by apply decide_eq_decide.mpr; exact Iff.rfl)⟩) (.inl rfl)
    | _ => cases hj
  | bl a =>
    cases hi
    cases rx
    cases y with
    | int b =>
      cases hj
      obtain ⟨t2, rfl⟩ := ry
      exact SeqAt.rc_left_or (op := .LtE) rfl (typeIs_int s _ t2) (by decide) PySem.F.sub_int_bool PySem.F.slot_bool_le
        (call_gives PySem.F.slot_bool_le rfl PySem.F.entry_int_le (PySem.F.args_int_le_2 _ _) (int_le_bi a _ t2) ⟨nofun, fin _ rfl⟩) (.inl rfl)
    | bl b =>
      cases hj
      cases ry
      exact PyProof.Rows.le_bool (fin _ rfl)
    | _ => cases hj
  | _ => cases hi
theorem rv_leN {H : Hp} {x y : V} {i j : Int} (hi : numV x = some i) (hj : numV y = some j) : RV rLeN x y H (.bl (decide (i ≤ j))) := fun H1 e Q q => ⟨i, j, hi, hj, q H1 (Ex.refl H1)⟩
section
variable {K : PySem.W.Frag} {S : Addr → Prop} {H : Hp} {v x y : V} {d : PyData} {σ : L2.St} {ta tb te : TE} {t : TT} {tu tz : TS} {D : Ends}
theorem rv_eqT1 {a b : Addr} {xs : List V} {ds : List PyData} {z : Str} (ha : H a = some (.tup xs)) (hda : DaAll S H xs ds) (hb : ∀ H, SqT K H b [.str z]) : RV (rEqT1 K) (.ref a) (.ref b) H (.bl (isOne (.tuple ds) z)) :=
  fun H1 e Q q => ⟨S, a, b, xs, ds, z, rfl, rfl, e _ _ ha, hda.same e, hb H1, q H1 (Ex.refl H1)⟩
/-- a loop over a text -/
theorem q_forSn {z : Str} {tl : TE} {j : Nat} (h : Ev tl σ H (.str z)) (Pv : Nat → L2.St → Hp → Prop) (h0 : ∀ H1, Ex H H1 → Pv 0 σ H1)
    (hs : ∀ i c σ' H', z.cps[i]? = some c → Pv i σ' H' → tu { D with nx := Pv (i + 1), ct := Pv (i + 1), bk := tz D } (σ'.set j (some (.str ⟨#[c]⟩))) H') (hd : ∀ σ' H', Pv z.cps.size σ' H' → tz D σ' H') : tSeq (tFor (iStr tl) (gName j) tu) tz D σ H :=
  h H (Ex.refl H) _ fun H1 e => ⟨z, rfl, fun i m σ' H' => m = z.cps.size - i ∧ i ≤ z.cps.size ∧ Pv i σ' H', ⟨_, rfl, Nat.zero_le _, h0 H1 e⟩, fun i m σ' H' ⟨hm, hi, hp⟩ => by
    by_cases hc : i < z.cps.size
    · refine .inr ⟨hc, Pv (i + 1), fun σ2 H2 hp2 => ⟨z.cps.size - (i + 1), by omega, rfl, hc, hp2⟩, fun x H2 ⟨e2, c, hc2, ex⟩ => ?_⟩
      subst e2
      subst ex
      exact hs i c σ' H2 hc2 hp
    · have e3 : i = z.cps.size := by omega
      subst e3
      exact .inl ⟨Nat.le_refl _, hd σ' H' hp⟩⟩
end
end Sl
set_option Elab.async false
set_option linter.all false
set_option maxRecDepth 100000
set_option maxHeartbeats 4000000
namespace K1
open PySem
/-! ### what the law and the program reckon, over data -/
mutual
/-- how much stands in a datum: one for each thing in it, and its signs and bits -/
def wt : PyData → Nat
  | .none => 1
  | .bool _ => 1
  | .int i => 1 + i.natAbs.log2
  | .str s => 1 + s.length
  | .list xs => 1 + wtAll xs
  | .tuple xs => 1 + wtAll xs
  | .dict kvs => 1 + wtKv kvs
def wtAll : List PyData → Nat
  | [] => 0
  | x :: xs => wt x + wtAll xs
def wtKv : List (PyData × PyData) → Nat
  | [] => 0
  | (k, v) :: r => wt k + wt v + wtKv r
end
mutual
/-- the nodes of a datum read as a shape -/
def cnt : PyData → Nat
  | .tuple xs => 1 + cntTl xs
  | _ => 1
def cntTl : List PyData → Nat
  | [] => 0
  | _ :: xs => cntAll xs
def cntAll : List PyData → Nat
  | [] => 0
  | x :: xs => cnt x + cntAll xs
end
mutual
/-- its levels -/
def hgt : PyData → Nat
  | .tuple xs => 1 + hgtTl xs
  | _ => 1
def hgtTl : List PyData → Nat
  | [] => 0
  | _ :: xs => hgtAll xs
def hgtAll : List PyData → Nat
  | [] => 0
  | x :: xs => max (hgt x) (hgtAll xs)
end
def capital : Str := "ABCDEFGHIJKLMNOPQRSTUVWXYZ"
def small : Str := "abcdefghijklmnopqrstuvwxyz"
def digits : Str := "0123456789"
def signs : Str := "abcdefghijklmnopqrstuvwxyzABCDEFGHIJKLMNOPQRSTUVWXYZ0123456789"
def nameOk (s : Str) : Bool := decide (1 ≤ s.length) && decide (s.length ≤ 8) && (match s.cps[0]? with | some c => decide (c ∈ capital.cps.toList) | none => false) && s.cps.toList.all fun c => decide (c ∈ signs.cps.toList)
/-- may a tuple with this first item and so many parts be a node -/
def headOk (x : PyData) (n : Nat) : Bool := match x with
  | .str s => if s = "->" then n == 2 else nameOk s && decide (n ≤ 3)
  | _ => false
mutual
def wf : PyData → Bool
  | .int i => decide (0 ≤ i) && decide (i ≤ 199)
  | .tuple xs => wfTl xs
  | _ => false
def wfTl : List PyData → Bool
  | [] => false
  | x :: xs => headOk x xs.length && wfAll xs
def wfAll : List PyData → Bool
  | [] => true
  | x :: xs => wf x && wfAll xs
end
def smallD (d : PyData) : Bool := decide (cnt d ≤ 200) && decide (hgt d ≤ 30)
def shapeD (d : PyData) : Bool := smallD d && wf d
mutual
/-- the variables as they stand, from left to right -/
def leaves : PyData → List Int
  | .int i => [i]
  | .tuple xs => leavesTl xs
  | _ => []
def leavesTl : List PyData → List Int
  | [] => []
  | _ :: xs => leavesAll xs
def leavesAll : List PyData → List Int
  | [] => []
  | x :: xs => leaves x ++ leavesAll xs
end
/-- the first of each -/
def firsts : List Int → List Int → List Int
  | acc, [] => acc
  | acc, x :: xs => if x ∈ acc then firsts acc xs else firsts (acc ++ [x]) xs
def varsD (d : PyData) : List Int := firsts [] (leaves d)
def lookD (d : PyData) : Option (Nat × Nat) := if wf d then some (cnt d, hgt d) else none
theorem firsts_append : ∀ (acc xs ys : List Int), firsts acc (xs ++ ys) = firsts (firsts acc xs) ys
  | _, [], _ => rfl
  | acc, x :: xs, ys => by
    show (if x ∈ acc then firsts acc (xs ++ ys) else firsts (acc ++ [x]) (xs ++ ys)) = firsts (if x ∈ acc then firsts acc xs else firsts (acc ++ [x]) xs) ys
    split <;> exact firsts_append _ xs ys
theorem mem_firsts : ∀ {acc xs : List Int} {y : Int}, y ∈ firsts acc xs ↔ y ∈ acc ∨ y ∈ xs
  | acc, [], y => by simp [firsts]
  | acc, x :: xs, y => by
    unfold firsts
    split
    · rename_i h
      rw [mem_firsts]
      constructor
      · rintro (a | a)
        · exact .inl a
        · exact .inr (List.mem_cons_of_mem _ a)
      · rintro (a | a)
        · exact .inl a
        · rcases List.mem_cons.mp a with e | a
          · rw [e]
            exact .inl h
          · exact .inr a
    · rw [mem_firsts]
      simp only [List.mem_append, List.mem_cons, List.not_mem_nil, or_false]
      constructor
      · rintro ((a | a) | a)
        · exact .inl a
        · exact .inr (.inl a)
        · exact .inr (.inr a)
      · rintro (a | a | a)
        · exact .inl (.inl a)
        · exact .inl (.inr a)
        · exact .inr a
/-- what is new, one after another: the law's way of adding a part's variables -/
theorem firsts_filter : ∀ (xs acc pre : List Int), (∀ y, y ∈ pre → y ∈ acc ∨ True) → firsts acc xs = acc ++ (firsts [] xs).filter (fun y => decide (y ∉ acc)) := by
  have gen : ∀ (xs acc a2 : List Int), firsts (acc ++ a2.filter (fun y => decide (y ∉ acc))) xs = acc ++ (firsts a2 xs).filter (fun y => decide (y ∉ acc)) := by
    intro xs
    induction xs with
    | nil => intro acc a2; rfl
    | cons x xs ih =>
      intro acc a2
      by_cases h2 : x ∈ a2
      · have hin : x ∈ acc ++ a2.filter (fun y => decide (y ∉ acc)) := by
          by_cases ha : x ∈ acc
          · exact List.mem_append_left _ ha
          · exact List.mem_append_right _ (List.mem_filter.mpr ⟨h2, by simpa using ha⟩)
        show (if x ∈ acc ++ a2.filter _ then _ else _) = acc ++ (if x ∈ a2 then firsts a2 xs else firsts (a2 ++ [x]) xs).filter _
        rw [if_pos hin, if_pos h2]
        exact ih acc a2
      · by_cases ha : x ∈ acc
        · have hin : x ∈ acc ++ a2.filter (fun y => decide (y ∉ acc)) := List.mem_append_left _ ha
          show (if x ∈ acc ++ a2.filter _ then _ else _) = acc ++ (if x ∈ a2 then firsts a2 xs else firsts (a2 ++ [x]) xs).filter _
          rw [if_pos hin, if_neg h2]
          have e := ih acc (a2 ++ [x])
          rw [List.filter_append, show List.filter (fun y => decide (y ∉ acc)) [x] = [] by simp [ha], List.append_nil] at e
          exact e
        · have hin : ¬ x ∈ acc ++ a2.filter (fun y => decide (y ∉ acc)) := by
            intro q
            rcases List.mem_append.mp q with q | q
            · exact ha q
            · exact h2 (List.mem_filter.mp q).1
          show (if x ∈ acc ++ a2.filter _ then _ else _) = acc ++ (if x ∈ a2 then firsts a2 xs else firsts (a2 ++ [x]) xs).filter _
          rw [if_neg hin, if_neg h2]
          have e := ih acc (a2 ++ [x])
          rw [List.filter_append, show List.filter (fun y => decide (y ∉ acc)) [x] = [x] by simp [ha], ← List.append_assoc] at e
          exact e
  intro xs acc pre _
  have e := gen xs acc []
  rw [List.filter_nil, List.append_nil] at e
  exact e
theorem cnt_pos (d : PyData) : 1 ≤ cnt d := by
  cases d <;> simp [cnt] <;> omega
theorem hgt_pos (d : PyData) : 1 ≤ hgt d := by
  cases d <;> simp [hgt] <;> omega
theorem wt_pos (d : PyData) : 1 ≤ wt d := by
  cases d <;> simp [wt] <;> omega
mutual
theorem cnt_wt : ∀ d : PyData, cnt d ≤ wt d
  | .none | .bool _ | .int _ | .str _ | .list _ | .dict _ => by simp [cnt, wt] <;> omega
  | .tuple [] => by simp [cnt, cntTl, wt]
  | .tuple (x :: xs) => by
    have h := cntAll_wt xs
    have p := wt_pos x
    simp only [cnt, cntTl, wt, wtAll]
    omega
theorem cntAll_wt : ∀ ds : List PyData, cntAll ds ≤ wtAll ds
  | [] => Nat.le_refl _
  | d :: ds => Nat.add_le_add (cnt_wt d) (cntAll_wt ds)
end
theorem wtAll_get : ∀ {ds : List PyData} {i : Nat} {d : PyData}, ds[i]? = some d → wt d ≤ wtAll ds
  | [], _, _, h => by simp at h
  | x :: xs, 0, d, h => by
    simp at h
    subst h
    simp only [wtAll]
    omega
  | x :: xs, i + 1, d, h => by
    have q := wtAll_get (ds := xs) (i := i) (d := d) (by simpa using h)
    simp only [wtAll]
    omega
theorem wtAll_len : ∀ ds : List PyData, ds.length ≤ wtAll ds
  | [] => Nat.le_refl _
  | d :: ds => by
    have h := wt_pos d
    have q := wtAll_len ds
    simp only [wtAll, List.length_cons]
    omega
theorem wtAll_append : ∀ (as bs : List PyData), wtAll (as ++ bs) = wtAll as + wtAll bs
  | [], _ => by simp [wtAll]
  | a :: as, bs => by
    simp only [List.cons_append, wtAll, wtAll_append as bs]
    omega
theorem cntTl_drop (ds : List PyData) : cntTl ds = cntAll (ds.drop 1) := by cases ds <;> rfl
theorem hgtTl_drop (ds : List PyData) : hgtTl ds = hgtAll (ds.drop 1) := by cases ds <;> rfl
theorem leavesTl_drop (ds : List PyData) : leavesTl ds = leavesAll (ds.drop 1) := by cases ds <;> rfl
theorem wtAll_drop (ds : List PyData) : wtAll (ds.drop 1) ≤ wtAll ds := by
  cases ds with
  | nil => exact Nat.le_refl _
  | cons d ds =>
    show wtAll ds ≤ wt d + wtAll ds
    omega
end K1
set_option Elab.async false
set_option linter.all false
set_option maxRecDepth 100000
set_option maxHeartbeats 4000000
namespace K1
open PySem L2 Sl
/-! ### the text by places -/
def top (i : Nat) : Stmt := PySem.Challenge.pw_shapelang_k01_shapes.main.body.getD i (.Pass ⟨0, 0, 0, 0⟩)
abbrev s_is_integer : Stmt := top 7
theorem sc_is_integer : FnScope ["value"] ["value"] (defScope s_is_integer) := ⟨rfl, rfl, rfl, by decide +kernel, rfl, by decide +kernel, by decide +kernel⟩
abbrev s_is_name : Stmt := top 8
theorem sc_is_name : FnScope ["value", "sign"] ["value"] (defScope s_is_name) := ⟨rfl, rfl, rfl, by decide +kernel, rfl, by decide +kernel, by decide +kernel⟩
abbrev s_is_variable : Stmt := top 14
theorem sc_is_variable : FnScope ["value"] ["value"] (defScope s_is_variable) := ⟨rfl, rfl, rfl, by decide +kernel, rfl, by decide +kernel, by decide +kernel⟩
abbrev s_formed_nodes : Stmt := top 15
theorem sc_formed_nodes : FnScope ["value", "levels", "many", "part", "known"] ["value", "levels"] (defScope s_formed_nodes) := ⟨rfl, rfl, rfl, by decide +kernel, rfl, by decide +kernel, by decide +kernel⟩
abbrev s_nodes_of : Stmt := top 16
theorem sc_nodes_of : FnScope ["value"] ["value"] (defScope s_nodes_of) := ⟨rfl, rfl, rfl, by decide +kernel, rfl, by decide +kernel, by decide +kernel⟩
abbrev s_is_shape : Stmt := top 17
theorem sc_is_shape : FnScope ["value"] ["value"] (defScope s_is_shape) := ⟨rfl, rfl, rfl, by decide +kernel, rfl, by decide +kernel, by decide +kernel⟩
abbrev s_variables_of : Stmt := top 18
theorem sc_variables_of : FnScope ["shape", "found", "waiting", "part"] ["shape"] (defScope s_variables_of) := ⟨rfl, rfl, rfl, by decide +kernel, rfl, by decide +kernel, by decide +kernel⟩
abbrev s_count_nodes : Stmt := top 19
theorem sc_count_nodes : FnScope ["shape", "part"] ["shape"] (defScope s_count_nodes) := ⟨rfl, rfl, rfl, by decide +kernel, rfl, by decide +kernel, by decide +kernel⟩
abbrev s_law_draws : Stmt := top 21
theorem sc_law_draws : FnScope ["_law_script", "_law_cell", "_law_great", "_law_mixed"] ["_law_script"] (defScope s_law_draws) := ⟨rfl, rfl, rfl, by decide +kernel, rfl, by decide +kernel, by decide +kernel⟩
abbrev s_law_next : Stmt := top 22
theorem sc_law_next : FnScope ["_law_drawn", "_law_many", "_law_mixed", "_law_digit"] ["_law_drawn", "_law_many"] (defScope s_law_next) := ⟨rfl, rfl, rfl, by decide +kernel, rfl, by decide +kernel, by decide +kernel⟩
abbrev s_law_one : Stmt := top 23
theorem sc_law_one : FnScope ["_law_drawn", "_law_items"] ["_law_drawn", "_law_items"] (defScope s_law_one) := ⟨rfl, rfl, rfl, by decide +kernel, rfl, by decide +kernel, by decide +kernel⟩
abbrev s_law_same : Stmt := top 24
theorem sc_law_same : FnScope ["_law_found", "_law_due", "_law_k"] ["_law_found", "_law_due"] (defScope s_law_same) := ⟨rfl, rfl, rfl, by decide +kernel, rfl, by decide +kernel, by decide +kernel⟩
abbrev s_law_vars : Stmt := top 25
theorem sc_law_vars : FnScope ["_law_shape", "_law_found", "_law_part", "_law_one_here"] ["_law_shape"] (defScope s_law_vars) := ⟨rfl, rfl, rfl, by decide +kernel, rfl, by decide +kernel, by decide +kernel⟩
abbrev s_law_leaf : Stmt := top 26
theorem sc_law_leaf : FnScope ["_law_drawn", "_law_limit"] ["_law_drawn", "_law_limit"] (defScope s_law_leaf) := ⟨rfl, rfl, rfl, by decide +kernel, rfl, by decide +kernel, by decide +kernel⟩
abbrev s_law_sized : Stmt := top 27
theorem sc_law_sized : FnScope ["_law_drawn", "_law_many", "_law_limit", "_law_count", "_law_rest", "_law_name", "_law_left", "_law_parts", "_law_more"] ["_law_drawn", "_law_many", "_law_limit"] (defScope s_law_sized) := ⟨rfl, rfl, rfl, by decide +kernel, rfl, by decide +kernel, by decide +kernel⟩
abbrev s_law_tower : Stmt := top 28
theorem sc_law_tower : FnScope ["_law_drawn", "_law_many", "_law_shape", "_law_k"] ["_law_drawn", "_law_many", "_law_shape"] (defScope s_law_tower) := ⟨rfl, rfl, rfl, by decide +kernel, rfl, by decide +kernel, by decide +kernel⟩
abbrev s_law_other : Stmt := top 29
theorem sc_law_other : FnScope ["_law_drawn", "_law_shape", "_law_part", "_law_spot"] ["_law_drawn", "_law_shape", "_law_part"] (defScope s_law_other) := ⟨rfl, rfl, rfl, by decide +kernel, rfl, by decide +kernel, by decide +kernel⟩
abbrev s_law_odd : Stmt := top 30
theorem sc_law_odd : FnScope ["_law_drawn", "_law_some"] ["_law_drawn"] (defScope s_law_odd) := ⟨rfl, rfl, rfl, by decide +kernel, rfl, by decide +kernel, by decide +kernel⟩
abbrev s_law_named : Stmt := top 31
theorem sc_law_named : FnScope ["_law_name", "_law_many", "_law_signs", "_law_sign"] ["_law_name", "_law_many"] (defScope s_law_named) := ⟨rfl, rfl, rfl, by decide +kernel, rfl, by decide +kernel, by decide +kernel⟩
abbrev s_law_look : Stmt := top 32
theorem sc_law_look : FnScope ["_law_value", "_law_rows", "_law_part", "_law_row"] ["_law_value"] (defScope s_law_look) := ⟨rfl, rfl, rfl, by decide +kernel, rfl, by decide +kernel, by decide +kernel⟩
abbrev s_law_right : Stmt := top 33
theorem sc_law_right : FnScope ["_law_value", "_law_held", "_law_size", "_law_due", "_law_told"] ["_law_value"] (defScope s_law_right) := ⟨rfl, rfl, rfl, by decide +kernel, rfl, by decide +kernel, by decide +kernel⟩
abbrev s_law : Stmt := top 34
theorem sc_law : FnScope ["_law_script", "_law_drawn", "_law_turn", "_law_signs", "_law_name", "_law_many", "_law_shape", "_law_high", "_law_value"] ["_law_script"] (defScope s_law) := ⟨rfl, rfl, rfl, by decide +kernel, rfl, by decide +kernel, by decide +kernel⟩
/-- what the top has left -/
structure Tx (K : PySem.W.Frag) (mg : Str → Option Value) where
  m_isinstance : mg "isinstance" = none
  m_len : mg "len" = none
  m_int : mg "int" = none
  m_str : mg "str" = none
  m_bool : mg "bool" = none
  m_tuple : mg "tuple" = none
  m_list : mg "list" = none
  m_sum : mg "sum" = none
  m_max : mg "max" = none
  m_min : mg "min" = none
  m_abs : mg "abs" = none
  m_repr : mg "repr" = none
  m_range : mg "range" = none
  g_VARIABLES : ∃ t, mg "VARIABLES" = some (.int 199 t)
  g_NODES : ∃ t, mg "NODES" = some (.int 200 t)
  g_DEPTH : ∃ t, mg "DEPTH" = some (.int 30 t)
  g_CAPITAL : ∃ t, mg "CAPITAL" = some (.str "ABCDEFGHIJKLMNOPQRSTUVWXYZ" t)
  g_LETTERS_AND_DIGITS : ∃ t, mg "LETTERS_AND_DIGITS" = some (.str "ABCDEFGHIJKLMNOPQRSTUVWXYZabcdefghijklmnopqrstuvwxyz0123456789" t)
  g_LONGEST : ∃ t, mg "LONGEST" = some (.int 8 t)
  g_TOO_MANY : ∃ t, mg "TOO_MANY" = some (.int 1000 t)
  g_MOST_PARTS : ∃ t, mg "MOST_PARTS" = some (.int 3 t)
  g_INT : GT K mg "INT" ["Int"]
  g_BOOL : GT K mg "BOOL" ["Bool"]
  is_integer : Ft K mg "is_integer" s_is_integer ["value"]
  is_name : Ft K mg "is_name" s_is_name ["value"]
  is_variable : Ft K mg "is_variable" s_is_variable ["value"]
  formed_nodes : Ft K mg "formed_nodes" s_formed_nodes ["value", "levels"]
  nodes_of : Ft K mg "nodes_of" s_nodes_of ["value"]
  is_shape : Ft K mg "is_shape" s_is_shape ["value"]
  variables_of : Ft K mg "variables_of" s_variables_of ["shape"]
  count_nodes : Ft K mg "count_nodes" s_count_nodes ["shape"]
  law_draws : Ft K mg "_law_draws" s_law_draws ["_law_script"]
  law_next : Ft K mg "_law_next" s_law_next ["_law_drawn", "_law_many"]
  law_one : Ft K mg "_law_one" s_law_one ["_law_drawn", "_law_items"]
  law_same : Ft K mg "_law_same" s_law_same ["_law_found", "_law_due"]
  law_vars : Ft K mg "_law_vars" s_law_vars ["_law_shape"]
  law_leaf : Ft K mg "_law_leaf" s_law_leaf ["_law_drawn", "_law_limit"]
  law_sized : Ft K mg "_law_sized" s_law_sized ["_law_drawn", "_law_many", "_law_limit"]
  law_tower : Ft K mg "_law_tower" s_law_tower ["_law_drawn", "_law_many", "_law_shape"]
  law_other : Ft K mg "_law_other" s_law_other ["_law_drawn", "_law_shape", "_law_part"]
  law_odd : Ft K mg "_law_odd" s_law_odd ["_law_drawn"]
  law_named : Ft K mg "_law_named" s_law_named ["_law_name", "_law_many"]
  law_look : Ft K mg "_law_look" s_law_look ["_law_value"]
  law_right : Ft K mg "_law_right" s_law_right ["_law_value"]
  law : Ft K mg "law" s_law ["_law_script"]
end K1
set_option Elab.async false
set_option linter.all false
set_option maxRecDepth 100000
set_option maxHeartbeats 4000000
namespace K1
open PySem PySem.Spec PyProof.Rows L2 Evl Sl
section
variable {P : Program} {w : World} {K : PySem.W.Frag} {mg : Str → Option Value} {base : Heap}
theorem spD_len {pre : PyData → Prop} {g : PyData → V} : ∀ vs H Q E, spD pre g vs H Q E → vs.length = 1 := fun vs H Q E h => by
  obtain ⟨S, v, d, rfl, _⟩ := h
  rfl
theorem ok_is_integer (T : Tx K mg) : FnOk P w K mg base CX0 1 T.is_integer.f T.is_integer.fd ["value"] (spD (fun _ => True) fun d => .bl (isInt d)) := by
  refine T.is_integer.F.ok sc_is_integer spD_len (fun cdv A outer s H vs Q E hr h => ?_)
  obtain ⟨S, v, d, rfl, hd, _, q⟩ := h
  refine ⟨_, pss_one (ps_ret (pe_and (pe_callB call_isi (by rfl) T.m_isinstance (by decide +kernel) (pa_cons (pv 0) (pa_cons (pe_bltn (v := .ty "int") (by rfl) T.m_int (by decide +kernel) rfl) pa_nil))) (pe_one (pe_not (pe_callB call_isi (by rfl) T.m_isinstance (by decide +kernel) (pa_cons (pv 0) (pa_cons (pe_bltn (v := .ty "bool") (by rfl) T.m_bool (by decide +kernel) rfl) pa_nil))))))), ?_⟩
  refine s_ret (v := .bl (isInt d)) ?_ q
  refine ev_is (ev_andV (ev_isi (ev_var rfl) hd (kit_int d)) fun _ => ev_notV (ev_isi (ev_var rfl) hd (kit_bool d))) ?_
  cases d <;> rfl
theorem all_range {α : Type} {p : α → Bool} : ∀ {xs : List α} {f : Nat → Bool}, (∀ i x, xs[i]? = some x → f i = p x) → ((List.range xs.length).map f).all id = xs.all p := by
  intro xs f h
  have e : (List.range xs.length).map f = xs.map p := by
    apply List.ext_getElem?
    intro i
    rw [List.getElem?_map, List.getElem?_map]
    by_cases hi : i < xs.length
    · rw [List.getElem?_range hi, List.getElem?_eq_getElem hi]
      exact congrArg some (h i _ (List.getElem?_eq_getElem hi))
    · rw [List.getElem?_eq_none (by simpa using Nat.le_of_not_lt hi), List.getElem?_eq_none (Nat.le_of_not_lt hi)] <;> rfl
  rw [e, List.all_map]
  rfl
def nameD : PyData → Bool
  | .str s => nameOk s
  | _ => false
def Sz (d : PyData) : Prop := wt d ≤ 20000
def ldSigns : Str := "ABCDEFGHIJKLMNOPQRSTUVWXYZabcdefghijklmnopqrstuvwxyz0123456789"
theorem ld_mem (c : Nat) : decide (c ∈ ldSigns.cps.toList) = decide (c ∈ signs.cps.toList) := by
  have h : List.Perm ldSigns.cps.toList signs.cps.toList := by decide +kernel
  exact decide_eq_decide.mpr h.mem_iff
def capHead (x : Str) : Bool := match x.cps[0]? with
  | some c => decide (c ∈ capital.cps.toList)
  | none => false
theorem ok_is_name (T : Tx K mg) : FnOk P w K mg base CX0 2 T.is_name.f T.is_name.fd ["value"] (spD Sz fun d => .bl (nameD d)) := by
  refine FnOk.mono (j := 1) ?_ (by decide)
  refine T.is_name.F.ok sc_is_name spD_len (fun cdv A outer s H vs Q E hr h => ?_)
  obtain ⟨S, v, d, rfl, hd, hz, q⟩ := h
  refine ⟨_, pss_cons (ps_if (PW.pt (pw_or (pt_not (pt_val (pe_callB call_isi (by rfl) T.m_isinstance (by decide +kernel) (pa_cons (pv 0) (pa_cons (pe_bltn (v := .ty "str") (by rfl) T.m_str (by decide +kernel) rfl) pa_nil))))) (pw_or (pt_not (pt_chain op_le op_le pe_int (pe_callB call_len_str (by rfl) T.m_len (by decide +kernel) (pa_cons (pv 0) pa_nil)) (pe_gI (by rfl) T.g_LONGEST))) (pw_or1 (pt_cmpR op_notInS (pe_item_str (pv 0) pe_int (fun _ _ => rfl)) (pe_gS (by rfl) T.g_CAPITAL) (by rfl)))))) (pss_one (ps_ret pe_bl)) pss_nil)
      (pss_cons (ps_for PassesOwn.never rfl (pi_str (pv 0)) (pg_name (i := 1) sc_is_name.nd rfl (Or.inl rfl)) (pss_one (ps_if (pt_cmpR op_notInS (pv 1) (pe_gS (by rfl) T.g_LETTERS_AND_DIGITS) (by rfl)) (pss_one (ps_ret pe_bl)) pss_nil)))
      (pss_one (ps_ret pe_bl))), ?_⟩
  by_cases hs : isStr d = true
  · cases hd with
    | str x =>
      have q : ∀ H', Ex H H' → Q (.bl (nameOk x)) H' := q
      have hx : x.length ≤ 20000 := by
        have : 1 + x.length ≤ 20000 := hz
        omega
      have hn : nameOk x = ((decide (1 ≤ (x.length : Int)) && decide ((x.length : Int) ≤ 8)) && capHead x && x.cps.toList.all fun c => decide (c ∈ signs.cps.toList)) := by
        have : (decide (1 ≤ (x.length : Int)) && decide ((x.length : Int) ≤ 8)) = (decide (1 ≤ x.length) && decide (x.length ≤ 8)) := by
          congr 1 <;> (apply decide_eq_decide.mpr; omega)
        rw [this]
        rfl
      refine q_when (b := !true || (!(decide (1 ≤ (x.length : Int)) && decide ((x.length : Int) ≤ 8)) || !capHead x)) (et_or (et_not (et_B (ev_isi (ev_var rfl) (Da.str (S := S) x) (kit_str _)))) fun _ => et_or (et_not (et_test (ev_chain (c := decide (1 ≤ (x.length : Int))) ev_c (ev_lenStr (ev_var rfl) (by omega)) rv_I0 (fun e => by rw [e] <;> rfl) fun e => ⟨ev_c, by rw [e]; exact rv_I0⟩))) fun hch => ?_) (fun hb H1 e1 => ?_) (fun hb H1 e1 => ?_)
      · have hc0 : 0 < x.cps.size := by
          have hb' : (decide (1 ≤ (x.length : Int)) && decide ((x.length : Int) ≤ 8)) = true := by
            cases hh : (decide (1 ≤ (x.length : Int)) && decide ((x.length : Int) ≤ 8)) with
            | true => rfl
            | false =>
              rw [hh] at hch
              cases hch
          rw [Bool.and_eq_true, decide_eq_true_eq] at hb'
          have h1 : 1 ≤ x.length := by omega
          exact h1
        obtain ⟨c, hc⟩ : ∃ c, x.cps[0]? = some c := ⟨_, Array.getElem?_eq_getElem hc0⟩
        refine et_is (et_test (ev_op (ev_op (ev_var rfl) ev_c (rv_itemStr (j := 0) hc (by omega))) ev_c rv_notInSign)) ?_
        unfold capHead
        rw [hc]
        rfl
      · refine s_ret ev_c fun H2 e2 => ?_
        have hq := q H2 (e1.trans e2)
        have hf : nameOk x = false := by
          rw [hn]
          generalize (decide (1 ≤ (x.length : Int)) && decide ((x.length : Int) ≤ 8)) = b1 at hb ⊢
          generalize capHead x = b2 at hb ⊢
          revert hb
          cases b1 <;> cases b2 <;> simp
        rw [hf] at hq
        exact hq
      · have hb' : (decide (1 ≤ (x.length : Int)) && decide ((x.length : Int) ≤ 8)) = true ∧ capHead x = true := by
          generalize (decide (1 ≤ (x.length : Int)) && decide ((x.length : Int) ≤ 8)) = b1 at hb ⊢
          generalize capHead x = b2 at hb ⊢
          revert hb
          cases b1 <;> cases b2 <;> simp
        rw [hb'.1, hb'.2, Bool.true_and, Bool.true_and] at hn
        refine q_forSn (z := x) (ev_var rfl) (fun i σ' H' => Ex H H' ∧ (x.cps.toList.take i).all (fun c => decide (c ∈ signs.cps.toList)) = true ∧ ∃ y, σ' = [some (.str x), y]) (fun H2 e2 => ⟨e1.trans e2, rfl, _, rfl⟩) (fun i c σ' H' hc h => ?_) (fun σ' H' h => ?_)
        · obtain ⟨hE, hall, y, rfl⟩ := h
          have hc2 : x.cps.toList[i]? = some c := by rw [Array.getElem?_toList]; exact hc
          refine s_if (et_test (ev_op (ev_var rfl) ev_c rv_notInSign)) (fun hb2 H2 e2 => ?_) (fun hb2 H2 e2 => ?_)
          · refine s_ret ev_c fun H3 e3 => ?_
            have hq := q H3 ((hE.trans e2).trans e3)
            have hf : nameOk x = false := by
              rw [hn]
              have hm : c ∈ x.cps.toList := List.mem_of_getElem? hc2
              apply Bool.eq_false_iff.mpr
              intro ha
              have := List.all_eq_true.mp ha c hm
              rw [← ld_mem] at this
              have hb3 : (!decide (c ∈ ldSigns.cps.toList)) = true := hb2
              rw [this] at hb3
              cases hb3
            rw [hf] at hq
            exact hq
          · refine ⟨hE.trans e2, ?_, _, rfl⟩
            have ht : x.cps.toList.take (i + 1) = x.cps.toList.take i ++ [c] := by
              rw [List.take_add_one, hc2]
              rfl
            rw [ht, List.all_append, hall, Bool.true_and]
            show (decide (c ∈ signs.cps.toList) && true) = true
            rw [Bool.and_true, ← ld_mem]
            have hb3 : (!decide (c ∈ ldSigns.cps.toList)) = false := hb2
            cases hd2 : decide (c ∈ ldSigns.cps.toList) with
            | true => rfl
            | false =>
              rw [hd2] at hb3
              cases hb3
        · obtain ⟨hE, hall, y, rfl⟩ := h
          refine s_ret ev_c fun H3 e3 => ?_
          have hq := q H3 (hE.trans e3)
          have hf : nameOk x = true := by
            rw [hn, ← hall]
            congr 1
            rw [List.take_of_length_le]
            rw [Array.length_toList] <;> exact Nat.le_refl _
          rw [hf] at hq
          exact hq
    | _ => cases hs
  · have hs' : isStr d = false := Bool.eq_false_iff.mpr hs
    have hn : nameD d = false := by cases d <;> first | rfl | cases hs'
    refine q_when (b := true) (et_is (et_or (b := true) (et_not (et_B (ev_isi (ev_var rfl) hd (kit_str _)))) fun e => ?_) (by rw [hs'] <;> rfl)) (fun hb H1 e1 => ?_) (fun hb => nomatch hb)
    · rw [hs'] at e
      cases e
    · refine s_ret ev_c fun H2 e2 => ?_
      have hq : Q (.bl (nameD d)) H2 := q H2 (e1.trans e2)
      rw [hn] at hq
      exact hq
end
end K1
set_option Elab.async false
set_option linter.all false
set_option maxRecDepth 100000
set_option maxHeartbeats 4000000
namespace K1
open PySem PySem.Spec PyProof.Rows L2 Evl Sl
section
variable {P : Program} {w : World} {K : PySem.W.Frag} {mg : Str → Option Value} {base : Heap}
theorem fn_none {f : Addr} {fd : FuncData} {ps : List Str} {sp : Sp} {k : Nat} (no : ∀ vs H Q E, ¬ sp vs H Q E) : FnOk P w K mg base CX0 k f fd ps sp :=
  ⟨fun vs H Q E h => absurd h (no vs H Q E), fun A outer s H args us vs Q E _ _ _ _ h => absurd h (no vs H Q E)⟩
/-! ### what formed_nodes reckons -/
def goodN (n : Nat) (d : PyData) : Bool := wf d && (decide (hgt d ≤ n) && decide (cnt d ≤ 200))
def fN (n : Nat) (d : PyData) : Nat := if goodN n d then cnt d else 1000
def fS (n : Nat) : List PyData → Nat
  | [] => 0
  | d :: ds => fN n d + fS n ds
theorem fS_app (n : Nat) : ∀ a b : List PyData, fS n (a ++ b) = fS n a + fS n b
  | [], _ => by simp [fS]
  | d :: a, b => by
    simp only [List.cons_append, fS, fS_app n a b]
    omega
theorem fS_good (n : Nat) : ∀ ds : List PyData, ds.all (goodN n) = true → fS n ds = cntAll ds ∧ wfAll ds = true ∧ hgtAll ds ≤ n
  | [], _ => ⟨rfl, rfl, Nat.zero_le _⟩
  | d :: ds, h => by
    rw [List.all_cons, Bool.and_eq_true] at h
    obtain ⟨h1, h2⟩ := h
    obtain ⟨i1, i2, i3⟩ := fS_good n ds h2
    have hd : fN n d = cnt d := by unfold fN; rw [h1]; rfl
    unfold goodN at h1
    rw [Bool.and_eq_true, Bool.and_eq_true, decide_eq_true_eq, decide_eq_true_eq] at h1
    refine ⟨?_, ?_, ?_⟩
    · show fN n d + fS n ds = cnt d + cntAll ds
      rw [hd, i1]
    · show (wf d && wfAll ds) = true
      rw [h1.1, i2] <;> rfl
    · show max (hgt d) (hgtAll ds) ≤ n
      omega
theorem fS_bad (n : Nat) : ∀ ds : List PyData, ds.all (goodN n) = false → 1000 ≤ fS n ds ∧ (wfAll ds && (decide (hgtAll ds ≤ n) && decide (cntAll ds ≤ 200))) = false
  | [], h => by cases h
  | d :: ds, h => by
    rw [List.all_cons] at h
    by_cases h1 : goodN n d = true
    · rw [h1, Bool.true_and] at h
      obtain ⟨i1, i2⟩ := fS_bad n ds h
      refine ⟨?_, ?_⟩
      · show 1000 ≤ fN n d + fS n ds
        omega
      · apply Bool.eq_false_iff.mpr
        intro q
        rw [Bool.and_eq_true, Bool.and_eq_true, decide_eq_true_eq, decide_eq_true_eq] at q
        obtain ⟨q1, q2, q3⟩ := q
        have q1' : (wf d && wfAll ds) = true := q1
        have q2' : max (hgt d) (hgtAll ds) ≤ n := q2
        have q3' : cnt d + cntAll ds ≤ 200 := q3
        rw [Bool.and_eq_true] at q1'
        have : (wfAll ds && (decide (hgtAll ds ≤ n) && decide (cntAll ds ≤ 200))) = true := by
          rw [q1'.2, decide_eq_true (by omega : hgtAll ds ≤ n), decide_eq_true (by omega : cntAll ds ≤ 200)] <;> rfl
        rw [this] at i2
        cases i2
    · have h1' : goodN n d = false := Bool.eq_false_iff.mpr h1
      refine ⟨?_, ?_⟩
      · show 1000 ≤ fN n d + fS n ds
        have : fN n d = 1000 := by unfold fN; rw [h1']; rfl
        omega
      · apply Bool.eq_false_iff.mpr
        intro q
        rw [Bool.and_eq_true, Bool.and_eq_true, decide_eq_true_eq, decide_eq_true_eq] at q
        obtain ⟨q1, q2, q3⟩ := q
        have q1' : (wf d && wfAll ds) = true := q1
        have q2' : max (hgt d) (hgtAll ds) ≤ n := q2
        have q3' : cnt d + cntAll ds ≤ 200 := q3
        rw [Bool.and_eq_true] at q1'
        have : goodN n d = true := by
          unfold goodN
          rw [q1'.1, decide_eq_true (by omega : hgt d ≤ n), decide_eq_true (by omega : cnt d ≤ 200)] <;> rfl
        rw [this] at h1'
        cases h1'
theorem fN_node (n : Nat) (x : PyData) (ds : List PyData) (hh : headOk x ds.length = true) : fN (n + 1) (.tuple (x :: ds)) = if 1 + fS n ds ≤ 200 then 1 + fS n ds else 1000 := by
  have e1 : wf (.tuple (x :: ds)) = wfAll ds := by
    show (headOk x ds.length && wfAll ds) = wfAll ds
    rw [hh] <;> rfl
  have e2 : hgt (.tuple (x :: ds)) = 1 + hgtAll ds := rfl
  have e3 : cnt (.tuple (x :: ds)) = 1 + cntAll ds := rfl
  unfold fN goodN
  rw [e1, e2, e3]
  by_cases ha : ds.all (goodN n) = true
  · obtain ⟨i1, i2, i3⟩ := fS_good n ds ha
    rw [i1, i2, decide_eq_true (by omega : 1 + hgtAll ds ≤ n + 1), Bool.true_and, Bool.true_and]
    by_cases hc : 1 + cntAll ds ≤ 200
    · rw [decide_eq_true hc, if_pos rfl, if_pos hc]
    · rw [decide_eq_false hc, if_neg Bool.false_ne_true, if_neg hc]
  · obtain ⟨i1, i2⟩ := fS_bad n ds (Bool.eq_false_iff.mpr ha)
    rw [if_neg (by omega : ¬ (1 + fS n ds ≤ 200))]
    rw [if_neg]
    intro q
    rw [Bool.and_eq_true, Bool.and_eq_true, decide_eq_true_eq, decide_eq_true_eq] at q
    rw [q.1, decide_eq_true (by omega : hgtAll ds ≤ n), decide_eq_true (by omega : cntAll ds ≤ 200)] at i2
    cases i2
theorem fN_le (n : Nat) (d : PyData) : fN n d ≤ 1000 := by
  unfold fN goodN
  split
  · rename_i h
    rw [Bool.and_eq_true, Bool.and_eq_true, decide_eq_true_eq, decide_eq_true_eq] at h
    omega
  · exact Nat.le_refl _
/-- a child that makes the loop go on -/
def stepN (n : Nat) (d : PyData) : Bool := match d with
  | .tuple _ => true
  | .int i => decide (1 ≤ n) && (decide (0 ≤ i) && decide (i ≤ 199))
  | _ => false
theorem step_int {n : Nat} {i : Int} (h : stepN n (.int i) = true) : fN n (.int i) = 1 := by
  have h : (decide (1 ≤ n) && (decide (0 ≤ i) && decide (i ≤ 199))) = true := h
  rw [Bool.and_eq_true, decide_eq_true_eq] at h
  unfold fN goodN
  have e1 : wf (.int i) = (decide (0 ≤ i) && decide (i ≤ 199)) := rfl
  have e2 : hgt (.int i) = 1 := rfl
  have e3 : cnt (.int i) = 1 := rfl
  rw [e1, e2, e3, h.2, decide_eq_true h.1] <;> rfl
theorem step_bad {n : Nat} {d : PyData} (h : stepN n d = false) : goodN n d = false := by
  cases d with
  | tuple ds => cases h
  | int i =>
    have h : (decide (1 ≤ n) && (decide (0 ≤ i) && decide (i ≤ 199))) = false := h
    unfold goodN
    have e1 : wf (.int i) = (decide (0 ≤ i) && decide (i ≤ 199)) := rfl
    have e2 : hgt (.int i) = 1 := rfl
    have e3 : cnt (.int i) = 1 := rfl
    rw [e1, e2, e3]
    cases h1 : decide (1 ≤ n) with
    | false => rw [Bool.false_and, Bool.and_false]
    | true =>
      rw [h1, Bool.true_and] at h
      rw [h] <;> rfl
  | _ => rfl
theorem isOne_known {d : PyData} {n : Nat} (h : (isOne d "Int" || isOne d "Bool") = true) (hn : 1 ≤ n) : fN n d = 1 := by
  have h1 : ∃ z : Str, (z = "Int" ∨ z = "Bool") ∧ d = .tuple [.str z] := by
    rw [Bool.or_eq_true] at h
    rcases h with h | h
    all_goals
      unfold isOne at h
      split at h
      · rename_i x
        unfold isThe at h
        split at h
        · rename_i y
          exact ⟨y, by first | exact .inl (eq_of_beq h) | exact .inr (eq_of_beq h), rfl⟩
        · cases h
      · cases h
  obtain ⟨z, hz, rfl⟩ := h1
  have hh : headOk (.str z) 0 = true := by
    rcases hz with rfl | rfl <;> decide +kernel
  unfold fN goodN
  have e1 : wf (.tuple [.str z]) = (headOk (.str z) 0 && true) := rfl
  have e2 : hgt (.tuple [.str z]) = 1 := rfl
  have e3 : cnt (.tuple [.str z]) = 1 := rfl
  rw [e1, e2, e3, hh, decide_eq_true hn] <;> rfl
/-- value, levels: what formed_nodes gives, for fewer than n levels -/
def spFN (n : Nat) : Sp := fun vs H Q _ => ∃ (S : Addr → Prop) (v : V) (ds : List PyData) (l : Nat), vs = [v, .int (l : Int)] ∧ Da S H v (.tuple ds) ∧ Sz (.tuple ds) ∧ l < n ∧ ∀ H', Ex H H' → Q (.int ((fN l (.tuple ds) : Nat) : Int)) H'
end
end K1
set_option Elab.async false
set_option linter.all false
set_option maxRecDepth 100000
set_option maxHeartbeats 4000000
namespace K1
open PySem PySem.Spec PyProof.Rows L2 Evl Sl
section
variable {P : Program} {w : World} {K : PySem.W.Frag} {mg : Str → Option Value} {base : Heap}
def varD : PyData → Bool
  | .int i => decide (0 ≤ i) && decide (i ≤ 199)
  | _ => false
theorem ok_is_variable (T : Tx K mg) : FnOk P w K mg base CX0 2 T.is_variable.f T.is_variable.fd ["value"] (spD Sz fun d => .bl (varD d)) := by
  have G_is_integer := ok_is_integer (P := P) (w := w) (base := base) T
  refine T.is_variable.F.ok sc_is_variable spD_len (fun cdv A outer s H vs Q E hr h => ?_)
  obtain ⟨S, v, d, rfl, hd, hz, q⟩ := h
  have q : ∀ H', Ex H H' → Q (.bl (varD d)) H' := q
  refine ⟨_, pss_one (ps_ret (pe_and (pe_call G_is_integer (hr.mono (by omega)) (by rfl) T.is_integer.g T.is_integer.F.kp T.is_integer.b .nil pass0 (pa_cons (pv 0) pa_nil)) (pe_one (pe_chain op_le op_le pe_int (pv 0) (pe_gI (by rfl) T.g_VARIABLES))))), ?_⟩
  refine s_ret (v := .bl (varD d)) ?_ fun H2 e2 => q H2 e2
  refine ev_is (ev_andV (a := isInt d) (b := varD d) (ev_spD (ev_var rfl) hd trivial) fun hi => ?_) ?_
  · cases hd with
    | int i =>
      refine ev_chain (c := decide (0 ≤ i)) ev_c (ev_var rfl) rv_I0 (fun e => ?_) fun e => ⟨ev_c, ?_⟩
      · show (decide (0 ≤ i) && decide (i ≤ 199)) = false
        rw [e] <;> rfl
      · have z : (.bl (varD (.int i)) : V) = .bl (decide (i ≤ 199)) := by
          show V.bl (decide (0 ≤ i) && decide (i ≤ 199)) = _
          rw [e] <;> rfl
        rw [z]
        exact rv_I0
    | _ => cases hi
  · cases d with
    | int i => rfl
    | _ => rfl
theorem spFN_len {n : Nat} : ∀ vs H Q E, spFN n vs H Q E → vs.length = 2 := fun vs H Q E h => by
  obtain ⟨S, v, ds, l, rfl, _⟩ := h
  rfl
theorem ok_formed (T : Tx K mg) : ∀ n : Nat, FnOk P w K mg base CX0 (n + 3) T.formed_nodes.f T.formed_nodes.fd ["value", "levels"] (spFN n)
  | 0 => fn_none fun vs H Q E h => by
    obtain ⟨S, v, ds, l, _, _, _, h, _⟩ := h
    exact absurd h (Nat.not_lt_zero _)
  | n + 1 => by
    have G_formed_nodes := ok_formed T n
    have G_is_name := ok_is_name (P := P) (w := w) (base := base) T
    refine T.formed_nodes.F.ok sc_formed_nodes spFN_len (fun cdv A outer s H vs Q E hr h => ?_)
    obtain ⟨S, v, ds, l, rfl, hd, hz, hl, q⟩ := h
    refine ⟨_, pss_cons (ps_if (PW.pt (pw_or (pt_cmpR op_eq (pv 1) pe_int (nomark _)) (pw_or1 (pt_cmpR op_eq (pe_callB call_len_seq (by rfl) T.m_len (by decide +kernel) (pa_cons (pv 0) pa_nil)) pe_int (nomark _))))) (pss_one (ps_ret (pe_gI (by rfl) T.g_TOO_MANY))) pss_nil)
      (pss_cons (ps_if (pt_cmpR (op_eqStr (hu64 hr)) (pe_ix ix_tup (pv 0) pe_int (fun _ _ => rfl)) pe_str (nomark _)) (pss_one (ps_if (pt_cmpR op_ne (pe_callB call_len_seq (by rfl) T.m_len (by decide +kernel) (pa_cons (pv 0) pa_nil)) pe_int (nomark _)) (pss_one (ps_ret (pe_gI (by rfl) T.g_TOO_MANY))) pss_nil)) (pss_one (ps_if (PW.pt (pw_or (pt_cmpR op_gt (pe_callB call_len_seq (by rfl) T.m_len (by decide +kernel) (pa_cons (pv 0) pa_nil)) (pe_op op_add (pe_gI (by rfl) T.g_MOST_PARTS) pe_int) (nomark _)) (pw_or1 (pt_not (pt_val (pe_call G_is_name (hr.mono (by omega)) (by rfl) T.is_name.g T.is_name.F.kp T.is_name.b .nil pass0 (pa_cons (pe_ix ix_tup (pv 0) pe_int (fun _ _ => rfl)) pa_nil))))))) (pss_one (ps_ret (pe_gI (by rfl) T.g_TOO_MANY))) pss_nil)))
      (pss_cons (ps_set (i := 2) sc_formed_nodes.nd rfl (Or.inl rfl) pe_int)
      (pss_cons (ps_for PassesOwn.never rfl (pi_tup (pe_slice sl_tupA (pv 0) (po_some pe_int) po_none)) (pg_name (i := 3) sc_formed_nodes.nd rfl (Or.inl rfl)) (pss_one (ps_if (pt_val (pe_callB call_isi (by rfl) T.m_isinstance (by decide +kernel) (pa_cons (pv 3) (pa_cons (pe_bltn (v := .ty "tuple") (by rfl) T.m_tuple (by decide +kernel) rfl) pa_nil)))) (pss_cons (ps_set (i := 4) sc_formed_nodes.nd rfl (Or.inl rfl) (pe_and (pe_cmpR op_gt (pv 1) pe_int (nomark _)) (pe_one (pe_or (pe_cmpR (op_eqT1 (hu64 hr)) (pv 3) (pe_gT (by rfl) T.g_INT) (nomark _)) (pe_one (pe_cmpR (op_eqT1 (hu64 hr)) (pv 3) (pe_gT (by rfl) T.g_BOOL) (nomark _)))))))
      (pss_one (ps_set (i := 2) sc_formed_nodes.nd rfl (Or.inl rfl) (pe_op op_add (pv 2) (pe_ifExp (pt_val (pv 4)) pe_int (pe_call G_formed_nodes (hr.mono (by omega)) (by rfl) T.formed_nodes.g T.formed_nodes.F.kp T.formed_nodes.b .nil pass0 (pa_cons (pv 3) (pa_cons (pe_op op_sub (pv 1) pe_int) pa_nil)))))))) (pss_one (ps_if (PW.pt (pw_and (pt_val (pe_callB call_isi (by rfl) T.m_isinstance (by decide +kernel) (pa_cons (pv 3) (pa_cons (pe_bltn (v := .ty "int") (by rfl) T.m_int (by decide +kernel) rfl) pa_nil)))) (pw_and (pt_cmpR op_gt (pv 1) pe_int (nomark _)) (pw_and (pt_chain op_leN op_leN pe_int (pv 3) (pe_gI (by rfl) T.g_VARIABLES)) (pw_and1 (pt_not (pt_val (pe_callB call_isi (by rfl) T.m_isinstance (by decide +kernel) (pa_cons (pv 3) (pa_cons (pe_bltn (v := .ty "bool") (by rfl) T.m_bool (by decide +kernel) rfl) pa_nil)))))))))) (pss_one (ps_aug (i := 2) sc_formed_nodes.nd rfl (Or.inl rfl) pe_int ip_add)) (pss_one (ps_ret (pe_gI (by rfl) T.g_TOO_MANY))))))))
      (pss_one (ps_ret (pe_ifExp (pt_cmpR op_le (pv 2) (pe_gI (by rfl) T.g_NODES) (nomark _)) (pv 2) (pe_gI (by rfl) T.g_TOO_MANY))))))), ?_⟩
    cases hd with
    | @tup a xs _ nS ha hda =>
      have hlen := hda.length
      have hw : 1 + wtAll ds ≤ 20000 := hz
      have hwl := wtAll_len ds
      refine q_when (b := decide (l = 0) || decide (ds.length = 0)) (et_is (et_or (et_test (ev_op (ev_var rfl) ev_c (rv_eq rfl))) fun _ => et_test (ev_op (ev_lenT (ev_var rfl) (st_of ha)) ev_c (rv_eq rfl))) ?_) (fun hb H1 e1 => ?_) (fun hb H1 e1 => ?_)
      · congr 1
        · apply decide_eq_decide.mpr
          constructor
          · intro z
            have := V.int.inj z
            omega
          · intro z
            rw [z] <;> rfl
        · apply decide_eq_decide.mpr
          constructor
          · intro z
            have := V.int.inj z
            omega
          · intro z
            have : xs.length = 0 := by omega
            rw [this] <;> rfl
      · refine s_ret ev_c fun H2 e2 => ?_
        have hq := q H2 (e1.trans e2)
        have hf : fN l (.tuple ds) = 1000 := by
          rw [Bool.or_eq_true, decide_eq_true_eq, decide_eq_true_eq] at hb
          unfold fN goodN
          rcases hb with hb | hb
          · subst hb
            have : ¬ hgt (.tuple ds) ≤ 0 := by
              have := hgt_pos (.tuple ds)
              omega
            rw [decide_eq_false this, Bool.false_and, Bool.and_false] <;> rfl
          · have : ds = [] := List.length_eq_zero_iff.mp hb
            subst this
            rfl
        rw [hf] at hq
        exact hq
      · rw [Bool.or_eq_false_iff, decide_eq_false_iff_not, decide_eq_false_iff_not] at hb
        obtain ⟨m, rfl⟩ : ∃ m, l = m + 1 := ⟨l - 1, by omega⟩
        cases hda with
        | nil => exact absurd rfl hb.2
        | @cons v0 vr d0 dr h0 hr0 =>
        have hlr := hr0.length
        have hz0 : Sz d0 := by
          have : 1 + (wt d0 + wtAll dr) ≤ 20000 := hz
          show wt d0 ≤ 20000
          omega
        have hwr : wtAll dr ≤ 20000 := by
          have : 1 + (wt d0 + wtAll dr) ≤ 20000 := hz
          omega
        have bad : headOk d0 dr.length = false → fN (m + 1) (.tuple (d0 :: dr)) = 1000 := fun hh => by
          have e1 : wf (.tuple (d0 :: dr)) = (headOk d0 dr.length && wfAll dr) := rfl
          unfold fN goodN
          rw [e1, hh, Bool.false_and, Bool.false_and] <;> rfl
        refine q_any (fun σ' H' => σ' = [some (.ref a), some (.int ((m + 1 : Nat) : Int)), none, none, none] ∧ Ex H H' ∧ headOk d0 dr.length = true) (fun nx hnx => ?_) (fun σ' H' hh => ?_)
        · have ha1 := e1 _ _ ha
          refine s_if (et_test (ev_op (ev_op (ev_var rfl) ev_c (rv_ixT (st_of ha1) (atI_nat (j := 0) rfl))) ev_c (rv_eqStr (h0.same e1)))) (fun hb3 H3 e3 => ?_) (fun hb3 H3 e3 => ?_)
          · have hd0 : d0 = .str "->" := by
              cases d0 with
              | str z =>
                have ez : z = "->" := eq_of_beq hb3
                rw [ez]
              | _ => cases hb3
            have hok : headOk d0 dr.length = (dr.length == 2) := by rw [hd0] <;> rfl
            refine s_if (b := !(dr.length == 2)) (et_is (et_test (ev_op (ev_lenT (ev_var rfl) (st_of (e3 _ _ ha1))) ev_c (rv_ne rfl))) ?_) (fun hb4 H4 e4 => ?_) (fun hb4 H4 e4 => ?_)
            · rw [Bool.eq_iff_iff, Bool.not_eq_true', Bool.not_eq_true', beq_eq_false_iff_ne, decide_eq_false_iff_not]
              simp only [List.length_cons]
              constructor
              · intro z z2
                apply z
                rw [hlr, z2]
                rfl
              · intro z z2
                have := V.int.inj z2
                omega
            · refine s_ret ev_c fun H5 e5 => ?_
              have hq := q H5 (((e1.trans e3).trans e4).trans e5)
              rw [bad (by rw [hok]; cases hh : dr.length == 2 <;> rw [hh] at hb4 <;> first | rfl | cases hb4)] at hq
              exact hq
            · exact hnx _ _ ⟨rfl, (e1.trans e3).trans e4, by rw [hok]; cases hh : dr.length == 2 <;> rw [hh] at hb4 <;> first | rfl | cases hb4⟩
          · have hok : headOk d0 dr.length = (nameD d0 && decide (dr.length ≤ 3)) := by
              cases d0 with
              | str z =>
                have nz : z ≠ "->" := fun e => by
                  rw [e] at hb3
                  cases hb3
                show (if z = "->" then _ else _) = (nameOk z && _)
                rw [if_neg nz]
              | _ => rfl
            refine s_if (b := !decide (dr.length ≤ 3) || !nameD d0) (et_or (et_is (et_test (ev_op (ev_lenT (ev_var rfl) (st_of (e3 _ _ ha1))) (ev_op ev_c ev_c rv_I0) rv_I0)) ?_) fun _ => et_not (et_B (ev_spD (ev_op (ev_var rfl) ev_c (rv_ixT (st_of (e3 _ _ ha1)) (atI_nat (j := 0) rfl))) (h0.same (e1.trans e3)) hz0))) (fun hb4 H4 e4 => ?_) (fun hb4 H4 e4 => ?_)
            · rw [Bool.eq_iff_iff, Bool.not_eq_true', decide_eq_false_iff_not, decide_eq_true_eq]
              simp only [List.length_cons]
              omega
            · refine s_ret ev_c fun H5 e5 => ?_
              have hq := q H5 (((e1.trans e3).trans e4).trans e5)
              rw [bad (by rw [hok]; revert hb4; cases nameD d0 <;> cases decide (dr.length ≤ 3) <;> simp)] at hq
              exact hq
            · exact hnx _ _ ⟨rfl, (e1.trans e3).trans e4, by rw [hok]; revert hb4; cases nameD d0 <;> cases decide (dr.length ≤ 3) <;> simp⟩
        · obtain ⟨rfl, eH, hok⟩ := hh
          have hfin := fN_node m d0 dr hok
          refine q_asg ev_c fun H5 e5 => ?_
          have ha5 : H5 a = some (.tup (v0 :: vr)) := e5 _ _ (eH _ _ ha)
          refine q_forWn (xs := vr) (ew_from (k := 1) (ev_var rfl) ev_c ha5) (fun p i σ' H' => Ex H H' ∧ H' p = some (.tup vr) ∧ ∃ y3 y4 : Option V, σ' = [some (.ref a), some (.int ((m + 1 : Nat) : Int)), some (.int ((1 + fS m (dr.take i) : Nat) : Int)), y3, y4])
            (fun p H6 e6 hp => ⟨(eH.trans e5).trans e6, hp, none, none, rfl⟩) (fun p i σ' H' h => h.2.1) (fun p i x σ' H' hx h => ?_) (fun p σ' H' h => ?_)
          · obtain ⟨hE, hp, y3, y4, rfl⟩ := h
            obtain ⟨d2, hd2, hx2⟩ := (hr0.same hE).get hx
            have hw2 := wtAll_get hd2
            have htk : fS m (dr.take (i + 1)) = fS m (dr.take i) + fN m d2 := by
              have : dr.take (i + 1) = dr.take i ++ [d2] := by
                rw [List.take_add_one, hd2] <;> rfl
              rw [this, fS_app]
              rfl
            have stop : stepN m d2 = false → fN (m + 1) (.tuple (d0 :: dr)) = 1000 := fun hs => by
              have hg := step_bad hs
              have hall : dr.all (goodN m) = false := by
                apply Bool.eq_false_iff.mpr
                intro z
                have := List.all_eq_true.mp z d2 (List.mem_of_getElem? hd2)
                rw [hg] at this
                cases this
              have := (fS_bad m dr hall).1
              rw [hfin, if_neg (by omega)]
            refine s_if (et_B (ev_isi (ev_var rfl) hx2 (kit_tuple d2))) (fun hb6 H6 e6 => ?_) (fun hb6 H6 e6 => ?_)
            · cases hx2 with
              | @tup a2 xs2 ds2 nS2 ha2 hda2 =>
                have ha6 := e6 _ _ ha2
                have hda6 := hda2.same e6
                refine q_asg (v := .bl (decide (1 < ((m + 1 : Nat) : Int)) && (isOne (.tuple ds2) "Int" || isOne (.tuple ds2) "Bool"))) (ev_andV (ev_op (ev_var rfl) ev_c rv_I0) fun _ => ev_orV (ev_op (ev_var rfl) ev_c (rv_eqT1 ha6 hda6 (T.g_INT.t))) fun _ => ev_op (ev_var rfl) ev_c (rv_eqT1 ha6 hda6 (T.g_BOOL.t))) fun H7 e7 => ?_
                refine s_asg (v := .int ((1 + fS m (dr.take (i + 1)) : Nat) : Int)) (ev_is (ev_op (y := .int ((fN m (.tuple ds2) : Nat) : Int)) (ev_var rfl) (ev_if (et_B (ev_var rfl)) (fun hk => ev_is ev_c ?_) (fun hk => ?_)) rv_I0) ?_) fun H8 e8 => ⟨((hE.trans e6).trans e7).trans e8, e8 _ _ (e7 _ _ (e6 _ _ hp)), _, _, rfl⟩
                · rw [Bool.and_eq_true, decide_eq_true_eq] at hk
                  rw [isOne_known hk.2 (by omega)]
                  rfl
                · refine ev_call (vs := [.ref a2, .int (m : Int)]) (ea_cons (ev_var rfl) (ea_cons (ev_is (ev_op (ev_var rfl) ev_c rv_I0) ?_) ea_nil)) fun H9 e9 Q' q' E' => ⟨S, _, ds2, m, rfl, .tup nS2 (e9 _ _ (e7 _ _ ha6)) (hda6.same (e7.trans e9)), ?_, by omega, fun H10 e10 => q' H10 e10⟩
                  · refine congrArg V.int ?_
                    show ((m + 1 : Nat) : Int) - 1 = (m : Int)
                    omega
                  · show wt (.tuple ds2) ≤ 20000
                    omega
                · refine congrArg V.int ?_
                  show ((1 + fS m (dr.take i) : Nat) : Int) + ((fN m (.tuple ds2) : Nat) : Int) = _
                  rw [htk]
                  omega
              | _ => cases hb6
            · refine s_if (b := stepN m d2) ?_ (fun hb7 H7 e7 => ?_) (fun hb7 H7 e7 => ?_)
              · have hx6 := hx2.same e6
                cases hx2 with
                | tup => cases hb6
                | int j =>
                  refine et_is (et_and (a := true) (b := decide (1 < ((m + 1 : Nat) : Int)) && ((decide (0 ≤ j) && decide (j ≤ 199)) && true)) (et_B (ev_isi (ev_var rfl) hx6 (kit_int _))) fun _ => et_and (et_test (ev_op (ev_var rfl) ev_c rv_I0)) fun _ => et_and (et_test (ev_chain (c := decide (0 ≤ j)) ev_c (ev_var rfl) (rv_leN rfl rfl) (fun e => by rw [e] <;> rfl) fun e => ⟨ev_c, by rw [e]; exact rv_leN rfl rfl⟩)) fun _ => et_not (et_B (ev_isi (ev_var rfl) hx6 (kit_bool _)))) ?_
                  show (true && (decide (1 < ((m + 1 : Nat) : Int)) && ((decide (0 ≤ j) && decide (j ≤ 199)) && true))) = (decide (1 ≤ m) && (decide (0 ≤ j) && decide (j ≤ 199)))
                  rw [Bool.true_and, Bool.and_true]
                  congr 1
                  apply decide_eq_decide.mpr
                  omega
                | bl j =>
                  refine et_is (et_and (a := true) (b := decide (1 < ((m + 1 : Nat) : Int)) && ((decide ((0 : Int) ≤ if j then 1 else 0) && decide ((if j then (1 : Int) else 0) ≤ 199)) && false)) (et_B (ev_isi (ev_var rfl) hx6 (kit_int _))) fun _ => et_and (et_test (ev_op (ev_var rfl) ev_c rv_I0)) fun _ => et_and (et_test (ev_chain (c := decide ((0 : Int) ≤ if j then 1 else 0)) ev_c (ev_var rfl) (rv_leN rfl rfl) (fun e => by rw [e] <;> rfl) fun e => ⟨ev_c, by rw [e]; exact rv_leN rfl rfl⟩)) fun _ => et_not (et_B (ev_isi (ev_var rfl) hx6 (kit_bool _)))) ?_
                  rw [Bool.and_false, Bool.and_false, Bool.and_false] <;> rfl
                | _ => exact et_is (et_and (a := false) (b := true) (et_B (ev_isi (ev_var rfl) hx6 (kit_int _))) fun h => nomatch h) rfl
              · refine s_aug (a := ((1 + fS m (dr.take i) : Nat) : Int)) (b := 1) rfl ev_c fun H8 e8 => ⟨((hE.trans e6).trans e7).trans e8, e8 _ _ (e7 _ _ (e6 _ _ hp)), some x, y4, ?_⟩
                have hone : fN m d2 = 1 := by
                  cases d2 with
                  | tuple _ => cases hb6
                  | int j => exact step_int hb7
                  | _ => cases hb7
                have e : ((1 + fS m (dr.take i) : Nat) : Int) + 1 = ((1 + fS m (dr.take (i + 1)) : Nat) : Int) := by
                  rw [htk, hone]
                  omega
                rw [← e]
                rfl
              · refine s_ret ev_c fun H8 e8 => ?_
                have hq := q H8 (((hE.trans e6).trans e7).trans e8)
                rw [stop hb7] at hq
                exact hq
          · obtain ⟨hE, hp, y3, y4, rfl⟩ := h
            have htk : dr.take vr.length = dr := List.take_of_length_le (by omega)
            rw [htk]
            refine s_ret (v := .int ((fN (m + 1) (.tuple (d0 :: dr)) : Nat) : Int)) (ev_if (b := decide (1 + fS m dr ≤ 200)) (et_is (et_test (ev_op (ev_var rfl) ev_c rv_I0)) ?_) (fun hb6 => ev_is (ev_var rfl) ?_) (fun hb6 => ev_is ev_c ?_)) fun H6 e6 => q H6 (hE.trans e6)
            · apply decide_eq_decide.mpr
              omega
            · rw [hfin, if_pos (of_decide_eq_true hb6)]
            · rw [hfin, if_neg (of_decide_eq_false hb6)]
              rfl
/-! ### the promises of nodes_of and is_shape -/
def nodesD (d : PyData) : Nat := if goodN 30 d then cnt d else 1000
theorem ok_nodes_of (T : Tx K mg) : FnOk P w K mg base CX0 35 T.nodes_of.f T.nodes_of.fd ["value"] (spD Sz fun d => .int ((nodesD d : Nat) : Int)) := by
  have G_formed_nodes := ok_formed (P := P) (w := w) (base := base) T 31
  have G_is_variable := ok_is_variable (P := P) (w := w) (base := base) T
  refine T.nodes_of.F.ok sc_nodes_of spD_len (fun cdv A outer s H vs Q E hr h => ?_)
  obtain ⟨S, v, d, rfl, hd, hz, q⟩ := h
  refine ⟨_, pss_cons (ps_if (pt_val (pe_callB call_isi (by rfl) T.m_isinstance (by decide +kernel) (pa_cons (pv 0) (pa_cons (pe_bltn (v := .ty "tuple") (by rfl) T.m_tuple (by decide +kernel) rfl) pa_nil)))) (pss_one (ps_ret (pe_call G_formed_nodes (hr.mono (by omega)) (by rfl) T.formed_nodes.g T.formed_nodes.F.kp T.formed_nodes.b .nil pass0 (pa_cons (pv 0) (pa_cons (pe_gI (by rfl) T.g_DEPTH) pa_nil))))) pss_nil)
      (pss_one (ps_ret (pe_ifExp (pt_val (pe_call G_is_variable (hr.mono (by omega)) (by rfl) T.is_variable.g T.is_variable.F.kp T.is_variable.b .nil pass0 (pa_cons (pv 0) pa_nil))) pe_int (pe_gI (by rfl) T.g_TOO_MANY)))), ?_⟩
  refine q_when (et_B (ev_isi (ev_var rfl) hd (kit_tuple d))) (fun hb H1 e1 => ?_) (fun hb H1 e1 => ?_)
  · cases hd with
    | @tup a xs ds nS ha hda =>
      refine s_ret (v := .int ((nodesD (.tuple ds) : Nat) : Int)) (ev_call (vs := [.ref a, .int ((30 : Nat) : Int)]) (ea_cons (ev_var rfl) (ea_cons ev_c ea_nil)) fun H2 e2 Q' q' E' => ⟨S, _, ds, 30, rfl, .tup nS ((e1.trans e2) _ _ ha) (hda.same (e1.trans e2)), hz, by omega, fun H3 e3 => q' H3 e3⟩) fun H2 e2 => q H2 (e1.trans e2)
    | _ => cases hb
  · refine s_ret (v := .int ((nodesD d : Nat) : Int)) (ev_if (et_B (ev_spD (ev_var rfl) (hd.same e1) hz)) (fun hv => ev_is ev_c ?_) (fun hv => ev_is ev_c ?_)) fun H2 e2 => q H2 (e1.trans e2)
    · have : nodesD d = 1 := by
        cases d with
        | int i =>
          have hv : (decide (0 ≤ i) && decide (i ≤ 199)) = true := hv
          have e1 : wf (.int i) = (decide (0 ≤ i) && decide (i ≤ 199)) := rfl
          unfold nodesD goodN
          rw [e1, hv]
          rfl
        | _ => cases hv
      rw [this] <;> rfl
    · have : nodesD d = 1000 := by
        have hg : wf d = false := by
          cases d with
          | int i => exact hv
          | tuple ds => cases hb
          | _ => rfl
        unfold nodesD goodN
        rw [hg] <;> rfl
      rw [this] <;> rfl
theorem ok_is_shape (T : Tx K mg) : FnOk P w K mg base CX0 36 T.is_shape.f T.is_shape.fd ["value"] (spD Sz fun d => .bl (shapeD d)) := by
  have G_nodes_of := ok_nodes_of (P := P) (w := w) (base := base) T
  refine T.is_shape.F.ok sc_is_shape spD_len (fun cdv A outer s H vs Q E hr h => ?_)
  obtain ⟨S, v, d, rfl, hd, hz, q⟩ := h
  refine ⟨_, pss_one (ps_ret (pe_cmpR op_le (pe_call G_nodes_of (hr.mono (by omega)) (by rfl) T.nodes_of.g T.nodes_of.F.kp T.nodes_of.b .nil pass0 (pa_cons (pv 0) pa_nil)) (pe_gI (by rfl) T.g_NODES) (nomark _))), ?_⟩
  refine s_ret (v := .bl (shapeD d)) (ev_is (ev_op (ev_spD (ev_var rfl) hd hz) ev_c rv_I0) ?_) q
  refine congrArg V.bl ?_
  unfold shapeD smallD nodesD goodN
  by_cases h2 : hgt d ≤ 30 <;> by_cases h3 : cnt d ≤ 200 <;> cases hw : wf d <;> simp [h2, h3] <;> omega
end
end K1
set_option Elab.async false
set_option linter.all false
set_option maxRecDepth 100000
set_option maxHeartbeats 4000000
namespace K1
open PySem PySem.Spec PyProof.Rows L2 Evl Sl
section
variable {P : Program} {w : World} {K : PySem.W.Frag} {mg : Str → Option Value} {base : Heap}
def nodeD : PyData → Bool
  | .int i => decide (0 ≤ i) && decide (i ≤ 199)
  | .tuple (x :: xs) => headOk x xs.length
  | _ => false
theorem Paired.keepP {α β : Type} {R R' : α → β → Prop} (h : ∀ a b, R a b → R' a b) : ∀ {as : List α} {bs : List β}, Paired R as bs → Paired R' as bs
  | _, _, .nil => .nil
  | _, _, .cons r t => .cons (h _ _ r) (Paired.keepP h t)
theorem upd_kp {H : Hp} {l : Addr} {o : HO} {S : Addr → Prop} (h : S l) : Kp S H (upd H l o) := fun a u n e => by
  rw [upd_ne (fun z => n (by rw [z]; exact h))]
  exact e
theorem its_paired {G : Nat → V → Hp → Prop} {H : Hp} {α : Type} {R : V → α → Prop} : ∀ {n : Nat} {vs : List V} {xs : List α}, Its G H n vs → xs.length = n → (∀ i v x, xs[i]? = some x → G i v H → R v x) → Paired R vs xs := by
  intro n vs xs h
  induction h generalizing xs with
  | nil =>
    intro hl _
    have : xs = [] := List.length_eq_zero_iff.mp hl
    subst this
    exact .nil
  | @snoc n vs v h g ih =>
    intro hl k
    have hne : xs ≠ [] := fun z => by rw [z] at hl; cases hl
    obtain ⟨x, e⟩ : ∃ x, xs = xs.dropLast ++ [x] := ⟨xs.getLast hne, (List.dropLast_concat_getLast hne).symm⟩
    have hd : xs.dropLast.length = n := by rw [List.length_dropLast, hl] <;> rfl
    rw [e]
    refine Paired.app (ih hd fun i v y hy g' => k i v y ?_ g') (.cons (k n v x ?_ g) .nil)
    · rw [e, List.getElem?_append_left (List.getElem?_eq_some_iff.mp hy).1]
      exact hy
    · rw [e, List.getElem?_append_right (by omega), hd, Nat.sub_self]
      rfl
theorem wfAll_app : ∀ (a b : List PyData), wfAll (a ++ b) = (wfAll a && wfAll b)
  | [], b => by simp [wfAll]
  | x :: a, b => by
    show (wf x && wfAll (a ++ b)) = ((wf x && wfAll a) && wfAll b)
    rw [wfAll_app a b, Bool.and_assoc]
def kids : PyData → List PyData
  | .tuple ds => ds.drop 1
  | _ => []
theorem wf_node (d : PyData) : wf d = (nodeD d && wfAll (kids d)) := by
  cases d with
  | tuple ds =>
    cases ds with
    | nil => rfl
    | cons x xs => rfl
  | int i =>
    show _ = (_ && true)
    rw [Bool.and_true]
    rfl
  | _ => rfl
theorem wtAll_single (d : PyData) : wtAll [d] = wt d := rfl
theorem kids_wt (d : PyData) : wtAll (kids d) + 1 ≤ wt d := by
  cases d with
  | tuple ds =>
    have := wtAll_drop ds
    show wtAll (ds.drop 1) + 1 ≤ 1 + wtAll ds
    omega
  | _ =>
    have := wt_pos
    simp only [kids, wtAll, wt]
    omega
theorem Paired.da {S : Addr → Prop} {H : Hp} : ∀ {vs : List V} {ds : List PyData}, DaAll S H vs ds → Paired (Da S H) vs ds
  | _, _, .nil => .nil
  | _, _, .cons h t => .cons h (Paired.da t)
end
end K1
set_option Elab.async false
set_option linter.all false
set_option maxRecDepth 100000
set_option maxHeartbeats 4000000
namespace K1
open PySem PySem.Spec PyProof.Rows L2 Evl Sl
section
variable {P : Program} {w : World} {K : PySem.W.Frag} {mg : Str → Option Value} {base : Heap}
theorem leavesAll_app : ∀ (a b : List PyData), leavesAll (a ++ b) = leavesAll a ++ leavesAll b
  | [], _ => rfl
  | x :: a, b => by
    show leaves x ++ leavesAll (a ++ b) = (leaves x ++ leavesAll a) ++ leavesAll b
    rw [leavesAll_app a b, List.append_assoc]
theorem wtAll_rev (ds : List PyData) : wtAll ds.reverse = wtAll ds := by
  induction ds with
  | nil => rfl
  | cons d ds ih =>
    rw [List.reverse_cons, wtAll_append, ih]
    show wtAll ds + (wt d + 0) = wt d + wtAll ds
    omega
theorem wfAll_rev (ds : List PyData) : wfAll ds.reverse = wfAll ds := by
  induction ds with
  | nil => rfl
  | cons d ds ih =>
    rw [List.reverse_cons, wfAll_app, ih]
    show (wfAll ds && (wf d && true)) = (wf d && wfAll ds)
    rw [Bool.and_true, Bool.and_comm]
def keysOf (acc : List Int) : List (Key × V) := acc.map fun i => (Sum.inl i, V.bl true)
theorem putK_keys (acc : List Int) (i : Int) : putK (keysOf acc) (Sum.inl i) (.bl true) = keysOf (if i ∈ acc then acc else acc ++ [i]) := by
  have hany : ((keysOf acc).any fun kv => decide (kv.1 = (Sum.inl i : Key))) = decide (i ∈ acc) := by
    unfold keysOf
    rw [List.any_map, Bool.eq_iff_iff, List.any_eq_true, decide_eq_true_eq]
    constructor
    · rintro ⟨x, hx, e⟩
      have e2 : (Sum.inl x : Key) = Sum.inl i := of_decide_eq_true e
      rw [← Sum.inl.inj e2]
      exact hx
    · intro h
      exact ⟨i, h, decide_eq_true rfl⟩
  unfold putK
  rw [hany]
  by_cases h : i ∈ acc
  · rw [decide_eq_true h, if_pos rfl, if_pos h]
    unfold keysOf
    rw [List.map_map]
    apply List.map_congr_left
    intro x _
    show (if (Sum.inl x : Key) = Sum.inl i then (Sum.inl x, V.bl true) else (Sum.inl x, V.bl true)) = _
    split <;> rfl
  · rw [decide_eq_false h, if_neg Bool.false_ne_true, if_neg h]
    unfold keysOf
    rw [List.map_append]
    rfl
theorem firsts_cons (acc xs : List Int) (i : Int) : firsts acc (i :: xs) = firsts (if i ∈ acc then acc else acc ++ [i]) xs := by
  show (if i ∈ acc then firsts acc xs else firsts (acc ++ [i]) xs) = _
  split <;> rfl
/-- on a shape: a new tuple of its variables -/
def spVars : Sp := fun vs H Q _ => ∃ (S : Addr → Prop) (v : V) (d : PyData), vs = [v] ∧ Da S H v d ∧ Sz d ∧ wf d = true ∧ ∀ p H', H p = none → Ex H H' → H' p = some (.tup ((varsD d).map V.int)) → Q (.ref p) H'
theorem ok_variables_of (T : Tx K mg) : FnOk P w K mg base CX0 1 T.variables_of.f T.variables_of.fd ["shape"] spVars := by
  refine T.variables_of.F.ok sc_variables_of (fun vs H Q E h => ?_) (fun cdv A outer s H vs Q E hr h => ?_)
  · obtain ⟨S, v, d, rfl, _⟩ := h
    rfl
  obtain ⟨S, v, d, rfl, hd, hz, hwf, q⟩ := h
  refine ⟨_, pss_cons (ps_set (i := 1) sc_variables_of.nd rfl (Or.inl rfl) pe_dnewK)
      (pss_cons (ps_set (i := 2) sc_variables_of.nd rfl (Or.inl rfl) (pe_lst (pa_cons (pv 0) pa_nil)))
      (pss_cons (ps_while PassesOwn.never (pt_truth (pv 2) (by intro _; rfl)) (pss_cons (ps_set (i := 3) sc_variables_of.nd rfl (Or.inl rfl) (pe_bm0 PySem.F.plainAttrs_list PySem.F.slot_list_pop PySem.F.type_list_pop mt_pop (pv 2)))
      (pss_one (ps_if (pt_val (pe_callB call_isi (by rfl) T.m_isinstance (by decide +kernel) (pa_cons (pv 3) (pa_cons (pe_bltn (v := .ty "tuple") (by rfl) T.m_tuple (by decide +kernel) rfl) pa_nil)))) (pss_one (ps_expr (pe_bm PySem.F.plainAttrs_list PySem.F.slot_list_extend PySem.F.type_list_extend mt_extT (pv 2) (pa_cons (pe_back (pv 3)) pa_nil)))) (pss_one (ps_dput (hu_of hr) (pv 1) (pv 3) pe_bl rfl))))))
      (pss_one (ps_ret (pe_callTy (call_tupD rfl) (by rfl) T.m_tuple (by decide +kernel) (pa_cons (pv 1) pa_nil)))))), ?_⟩
  refine q_asgR (fun u Hz => ∃ D, u = .ref D ∧ H D = none ∧ Hz = upd H D (.dK [])) (fun Q' q' D hD => q' _ _ ⟨D, rfl, hD, rfl⟩) ?_
  rintro _ H0 ⟨D, rfl, hD, hH0⟩
  have e0 : Ex H H0 := by
    rw [hH0]
    exact Ex.new hD
  have hD0 : H0 D = some (.dK []) := by
    rw [hH0]
    exact upd_same
  refine q_asgL (el_lst (ea_cons (ev_var rfl) ea_nil) (by show 1 ≤ 100000; decide)) fun l H1 hl e1 hl1 => ?_
  have hlH : H l = none := fresh_back e0 hl
  have nlD : l ≠ D := fun e => by
    rw [e, hD0] at hl
    cases hl
  refine q_while (fun m σ' H' => ∃ (ws : List V) (its : List PyData) (acc : List Int) (y3 : Option V), σ' = [some v, some (.ref D), some (.ref l), y3] ∧ Ex H H' ∧ H' l = some (.lst ws) ∧ H' D = some (.dK (keysOf acc)) ∧
    Paired (Da (fun a => a = l ∨ a = D) H') ws its ∧ wfAll its = true ∧ firsts acc (leavesAll its.reverse) = varsD d ∧ acc.length + wtAll its ≤ 20000 ∧ m = wtAll its) (wt d) ?_ ?_
  · refine ⟨[v], [d], [], none, rfl, e0.trans e1, hl1, e1 _ _ hD0, .cons ?_ .nil, ?_, ?_, ?_, rfl⟩
    · exact (((hd.only hlH).more hD)).same (e0.trans e1)
    · show (wf d && true) = true
      rw [hwf] <;> rfl
    · show firsts [] (leaves d ++ []) = varsD d
      rw [List.append_nil]
      rfl
    · show 0 + (wt d + 0) ≤ 20000
      have : wt d ≤ 20000 := hz
      omega
  · rintro m σ' H' ⟨ws, its, acc, y3, rfl, hE, hw, hDk, hp, hwa, hg, hW, rfl⟩
    refine ⟨!ws.isEmpty, fun Ha ea Q' q' => ⟨.ref l, rfl, _, .inl ⟨ws, sq_of (ea _ _ hw), rfl⟩, q' Ha (Ex.refl Ha)⟩, fun hb Ha ea => ?_, fun hb Ha ea => ?_⟩
    · have hne : ws ≠ [] := fun z => by
        rw [z] at hb
        cases hb
      obtain ⟨ws', w1, its', d1, rfl, rfl, hp', hx⟩ := Paired.last hp hne
      have hwaa := ea _ _ hw
      have hlen := hp'.length
      have hwl := wtAll_len its'
      rw [wfAll_app, Bool.and_eq_true] at hwa
      have hw1 : wf d1 = true := by
        have : (wf d1 && true) = true := hwa.2
        rw [Bool.and_true] at this
        exact this
      rw [wtAll_append, wtAll_single] at hW
      rw [List.reverse_append, leavesAll_app] at hg
      have hg1 : firsts acc (leaves d1 ++ leavesAll its'.reverse) = varsD d := by
        have : firsts acc ((leaves d1 ++ []) ++ leavesAll its'.reverse) = varsD d := hg
        rw [List.append_nil] at this
        exact this
      have hpos := wt_pos d1
      refine ⟨fun σ2 H2 => ∃ m', m' < wtAll (its' ++ [d1]) ∧ ∃ (ws : List V) (its : List PyData) (acc : List Int) (y3 : Option V), σ2 = [some v, some (.ref D), some (.ref l), y3] ∧ Ex H H2 ∧ H2 l = some (.lst ws) ∧ H2 D = some (.dK (keysOf acc)) ∧
        Paired (Da (fun a => a = l ∨ a = D) H2) ws its ∧ wfAll its = true ∧ firsts acc (leavesAll its.reverse) = varsD d ∧ acc.length + wtAll its ≤ 20000 ∧ m' = wtAll its, fun σ2 H2 z => z, ?_⟩
      refine q_asgR (fun u Hz => u = w1 ∧ Hz = upd Ha l (.lst ws')) (fun Q' q' => ⟨.ref l, rfl, .inl ⟨rfl, _, sq_of hwaa⟩, l, _, w1, rfl, rfl, hwaa, ?_, ?_⟩) ?_
      · rw [List.length_append, List.length_singleton, Nat.add_sub_cancel, List.getElem?_append_right (Nat.le_refl _), Nat.sub_self]
        rfl
      · rw [List.dropLast_concat]
        exact q' _ _ ⟨rfl, rfl⟩
      rintro _ H2 ⟨rfl, hH2e⟩
      have kp2 : Kp (fun a => a = l ∨ a = D) Ha H2 := by
        rw [hH2e]
        exact upd_kp (.inl rfl)
      have hl2 : H2 l = some (.lst ws') := by
        rw [hH2e]
        exact upd_same
      have hD2 : H2 D = some (.dK (keysOf acc)) := by
        rw [hH2e, upd_ne (Ne.symm nlD)]
        exact ea _ _ hDk
      have hE2 : Ex H H2 := by
        rw [hH2e]
        exact (hE.trans ea).mut hlH
      have hx2 : Da (fun a => a = l ∨ a = D) H2 _ d1 := (hx.same ea).keep kp2 fun _ z => z
      have hp2 : Paired (Da (fun a => a = l ∨ a = D) H2) ws' its' := Paired.keepP (fun a b r => (r.same ea).keep kp2 fun _ z => z) hp'
      refine s_if (et_B (ev_isi (ev_var rfl) hx2 (kit_tuple d1))) (fun hb5 H5 e5 => ?_) (fun hb5 H5 e5 => ?_)
      · cases hx2 with
        | @tup a xs1 ds1 na ha hda =>
          have hl5 := e5 _ _ hl2
          have ha5 : H5 a = some (.tup xs1) := e5 _ _ ha
          have hda5 := ((hda.same e5).drop 1).reverse
          have hln := hda5.length
          have hk := kids_wt (.tuple ds1)
          have hk1 : kids (.tuple ds1) = ds1.drop 1 := rfl
          rw [hk1] at hk
          have hwl2 := wtAll_len (ds1.drop 1)
          rw [List.length_reverse, List.length_reverse] at hln
          refine ⟨.ref l, rfl, .inl ⟨rfl, _, sq_of hl5⟩, ?_⟩
          refine ew_back (ev_var rfl) ha5 H5 (Ex.refl H5) _ fun p H6 e6 hp6 => ?_
          have kp : Kp (fun a => a = l ∨ a = D) H6 (upd H6 l (.lst (ws' ++ (xs1.drop 1).reverse))) := upd_kp (.inl rfl)
          refine ⟨l, p, ws', _, rfl, rfl, e6 _ _ hl5, hp6, sz_of (by rw [List.length_reverse]; omega), ?_⟩
          refine ⟨wtAll (its' ++ (ds1.drop 1).reverse), ?_, _, its' ++ (ds1.drop 1).reverse, acc, _, rfl, ((hE2.trans e5).trans e6).mut hlH, upd_same, ?_, Paired.app (Paired.keepP (fun a b r => (r.same (e5.trans e6)).keep kp fun _ z => z) hp2) (Paired.keepP (fun a b r => (r.same e6).keep kp fun _ z => z) (Paired.da hda5)), ?_, ?_, ?_, rfl⟩
          · rw [wtAll_append, wtAll_append, wtAll_rev, wtAll_single]
            omega
          · rw [upd_ne (Ne.symm nlD)]
            exact e6 _ _ (e5 _ _ hD2)
          · rw [wfAll_app, hwa.1, wfAll_rev, Bool.true_and]
            rw [wf_node, Bool.and_eq_true] at hw1
            exact hw1.2
          · rw [List.reverse_append, List.reverse_reverse, leavesAll_app, ← leavesTl_drop]
            exact hg1
          · rw [wtAll_append, wtAll_rev]
            omega
        | _ => cases hb5
      · cases hx2 with
        | int i =>
          have hD5 := e5 _ _ hD2
          refine ⟨.ref D, rfl, .int i, rfl, D, _, rfl, DPut.k (k := Sum.inl i) hD5 ?_, ?_⟩
          · unfold keysOf
            rw [List.length_map]
            exact sz_lt (by omega)
          · rw [putK_keys]
            have kp : Kp (fun a => a = l ∨ a = D) H5 (upd H5 D (.dK (keysOf (if i ∈ acc then acc else acc ++ [i])))) := upd_kp (.inr rfl)
            refine ⟨wtAll its', ?_, ws', its', _, _, rfl, (hE2.trans e5).mut hD, ?_, upd_same, Paired.keepP (fun a b r => (r.same e5).keep kp fun _ z => z) hp2, hwa.1, ?_, ?_, rfl⟩
            · rw [wtAll_append, wtAll_single]
              omega
            · rw [upd_ne nlD]
              exact e5 _ _ hl2
            · rw [← firsts_cons]
              exact hg1
            · have : (if i ∈ acc then acc else acc ++ [i]).length ≤ acc.length + 1 := by
                split
                · omega
                · rw [List.length_append] <;> exact Nat.le_refl _
              omega
        | tup => cases hb5
        | _ => cases hw1
    · have hws : ws = [] := by
        cases ws with
        | nil => rfl
        | cons _ _ => cases hb
      subst hws
      cases hp
      have hg2 : acc = varsD d := hg
      refine s_retR (fun u Hz => ∃ p, u = .ref p ∧ Ha p = none ∧ Hz = upd Ha p (.tup ((varsD d).map V.int))) (fun Q' q' => ⟨.ref D, rfl, D, keysOf acc, rfl, ea _ _ hDk, fun p hp => ?_⟩) ?_
      · have e : (keysOf acc).map (fun kv => kV kv.1) = (varsD d).map V.int := by
          rw [hg2]
          unfold keysOf
          rw [List.map_map]
          rfl
        rw [e]
        exact q' _ _ ⟨p, rfl, hp, rfl⟩
      · rintro _ Hz ⟨p, rfl, hp, rfl⟩
        exact q p _ (fresh_back (hE.trans ea) hp) ((hE.trans ea).trans (Ex.new hp)) upd_same
end
end K1
set_option Elab.async false
set_option linter.all false
set_option maxRecDepth 100000
set_option maxHeartbeats 4000000
namespace K1
open PySem PySem.Spec PyProof.Rows L2 Evl Sl
section
variable {P : Program} {w : World} {K : PySem.W.Frag} {mg : Str → Option Value} {base : Heap}
theorem ev_sum {σ : L2.St} {H : Hp} {te : TE} {ns : List Int} (h : EvL te σ H (ns.map V.int)) : Ev (tCB (rSum K) (tCons te tNil)) σ H (.int ns.sum) := fun H1 e Q q =>
  h H1 e _ fun p H2 _ e2 hp => ⟨p, ns, rfl, sq_of hp, q H2 e2⟩
theorem cntAll_sum : ∀ ds : List PyData, ((cntAll ds : Nat) : Int) = (ds.map fun d => ((cnt d : Nat) : Int)).sum
  | [] => rfl
  | d :: ds => by
    rw [List.map_cons, List.sum_cons, ← cntAll_sum ds]
    show ((cnt d + cntAll ds : Nat) : Int) = _
    omega
theorem depthAll_get : ∀ {ds : List PyData} {i : Nat} {d : PyData}, ds[i]? = some d → d.depth ≤ PyData.depthAll ds
  | [], _, _, h => by simp at h
  | x :: xs, 0, d, h => by
    simp at h
    subst h
    exact Nat.le_max_left _ _
  | x :: xs, i + 1, d, h => by
    have q := depthAll_get (ds := xs) (i := i) (d := d) (by simpa using h)
    exact Nat.le_trans q (Nat.le_max_right _ _)
theorem depth_tuple (ds : List PyData) : (PyData.tuple ds).depth = PyData.depthAll ds + 1 := rfl
def pCnt (n : Nat) (d : PyData) : Prop := Sz d ∧ d.depth < n
theorem list_of_get {α : Type} {xs : List V} {ds : List α} {g : α → V} (hl : xs.length = ds.length) (v : Nat → V) (h : ∀ i d, ds[i]? = some d → v i = g d) : given xs.length (fun _ => true) v = ds.map g := by
  rw [hl]
  exact given_map h
theorem ok_count_nodes (T : Tx K mg) : ∀ n : Nat, FnOk P w K mg base CX0 n T.count_nodes.f T.count_nodes.fd ["shape"] (spD (pCnt n) fun d => .int (cnt d))
  | 0 => fn_none fun vs H Q E h => by
    obtain ⟨S, v, d, _, _, ⟨_, h⟩, _⟩ := h
    exact absurd h (Nat.not_lt_zero _)
  | n + 1 => by
    have G_count_nodes := ok_count_nodes T n
    refine T.count_nodes.F.ok sc_count_nodes spD_len (fun cdv A outer s H vs Q E hr h => ?_)
    obtain ⟨S, v, d, rfl, hd, ⟨hz, hdp⟩, q⟩ := h
    have q : ∀ H', Ex H H' → Q (.int (cnt d)) H' := q
    refine ⟨_, pss_cons (ps_if (pt_not (pt_val (pe_callB call_isi (by rfl) T.m_isinstance (by decide +kernel) (pa_cons (pv 0) (pa_cons (pe_bltn (v := .ty "tuple") (by rfl) T.m_tuple (by decide +kernel) rfl) pa_nil))))) (pss_one (ps_ret pe_int)) pss_nil)
      (pss_one (ps_ret (pe_op op_add pe_int (pe_callB (cr_sum rfl) (by rfl) T.m_sum (by decide +kernel) (pa_cons (pe_lc (own := [("part", 1)]) (g := gName 1) rfl sc_count_nodes.nd (pi_tup (pe_slice sl_tupA (pv 0) (po_some pe_int) po_none)) (blkOk_by (own := [("part", 1)]) (N := ["shape", "part"]) (sc := defScope s_count_nodes) (by decide +kernel)) (fun _ _ _ _ _ => pg_name (i := 1) sc_count_nodes.nd rfl (Or.inl rfl)) (fun _ _ _ _ _ => pts_nil) (fun _ _ _ _ _ => (pe_call G_count_nodes (hr.mono (by omega)) (by rfl) T.count_nodes.g T.count_nodes.F.kp T.count_nodes.b .nil pass0 (pa_cons (pv 1) pa_nil)))) pa_nil))))), ?_⟩
    refine q_when (et_not (et_B (ev_isi (ev_var rfl) hd (kit_tuple d)))) (fun hb H1 e1 => ?_) (fun hb H1 e1 => ?_)
    · refine s_ret ev_c fun H2 e2 => ?_
      have hc : cnt d = 1 := by cases d <;> first | rfl | cases hb
      have hq := q H2 (e1.trans e2)
      rw [hc] at hq
      exact hq
    · cases hd with
      | @tup a xs ds na ha hda =>
        have ha1 := e1 _ _ ha
        have hda1 := (hda.same e1).drop 1
        have hwd := wtAll_drop ds
        have hwl := wtAll_len (ds.drop 1)
        have hln := hda1.length
        have hw : 1 + wtAll ds ≤ 20000 := hz
        have hdp2 : PyData.depthAll ds + 1 < n + 1 := hdp
        refine s_ret (v := .int (cnt (.tuple ds))) ?_ fun H2 e2 => q H2 (e1.trans e2)
        refine ev_is (ev_op (y := .int (((ds.drop 1).map fun d => ((cnt d : Nat) : Int)).sum)) ev_c (ev_sum ?_) rv_I0) ?_
        · rw [List.map_map]
          have e := list_of_get (g := fun d => V.int ((cnt d : Nat) : Int)) hln (fun i => match (ds.drop 1)[i]? with | some d => V.int ((cnt d : Nat) : Int) | none => .non) (fun i d h => by
            show (match (ds.drop 1)[i]? with | some d => V.int ((cnt d : Nat) : Int) | none => .non) = _
            rw [h])
          show EvL _ _ _ ((ds.drop 1).map (fun d => V.int ((cnt d : Nat) : Int)))
          rw [← e]
          refine el_lcW (fun _ => true) _ (ew_from (k := 1) (ev_var rfl) ev_c ha1) (by omega) (fun _ => rfl) (fun _ _ _ _ _ => et_yes) (fun i x H2 e2 hx _ => ?_)
          obtain ⟨d2, hd2, hx2⟩ := hda1.get hx
          show Ev _ _ _ (match (ds.drop 1)[i]? with | some d => V.int ((cnt d : Nat) : Int) | none => .non)
          rw [hd2]
          refine ev_spD (ev_var rfl) (hx2.same e2) ⟨?_, ?_⟩
          · have := wtAll_get hd2
            show wt d2 ≤ 20000
            omega
          · have hd3 : ds[1 + i]? = some d2 := by
              rw [← List.getElem?_drop]
              exact hd2
            have := depthAll_get hd3
            omega
        · refine congrArg V.int ?_
          rw [← cntAll_sum]
          show (1 : Int) + ((cntAll (ds.drop 1) : Nat) : Int) = ((1 + cntTl ds : Nat) : Int)
          rw [cntTl_drop]
          omega
      | _ => cases hb
end
end K1
set_option Elab.async false
set_option linter.all false
set_option maxRecDepth 100000
set_option maxHeartbeats 4000000
namespace K1
open PySem PySem.Spec PyProof.Rows L2 Evl Sl
section
variable {P : Program} {w : World} {K : PySem.W.Frag} {mg : Str → Option Value} {base : Heap}
/-! ### draws: what is known of them is that they lie below what was asked -/
def Drawn (H : Hp) (p : Addr) : Prop := ∃ g m c : Int, H p = some (.lst [.int g, .int m, .int c]) ∧ 0 ≤ g ∧ 0 ≤ m ∧ m < 2305843009213693951 ∧ 0 ≤ c
theorem Drawn.same {H H' : Hp} {p : Addr} (e : Ex H H') (h : Drawn H p) : Drawn H' p := by
  obtain ⟨g, m, c, h, r⟩ := h
  exact ⟨g, m, c, e _ _ h, r⟩
theorem Drawn.some {H : Hp} {p : Addr} (h : Drawn H p) : H p ≠ none := by
  obtain ⟨g, m, c, h, _⟩ := h
  rw [h]
  intro z
  cases z
theorem ev_abs {σ : L2.St} {H : Hp} {ta : TE} {i : Int} (h : Ev ta σ H (.int i)) : Ev (tCB (fun xs H Q => ∃ i, xs = [.int i] ∧ Q (.int (if i < 0 then -i else i)) H) (tCons ta tNil)) σ H (.int (if i < 0 then -i else i)) := fun H1 e Q q =>
  h H1 e _ fun H2 e2 => ⟨i, rfl, q H2 e2⟩
theorem ev_int1b {σ : L2.St} {H : Hp} {ta : TE} {k : Bool} (h : Ev ta σ H (.bl k)) : Ev (tCB (fun xs H Q => (∃ i, xs = [.int i] ∧ Q (.int i) H) ∨ ∃ k, xs = [.bl k] ∧ Q (.int (if k then 1 else 0)) H) (tCons ta tNil)) σ H (.int (if k then 1 else 0)) := fun H1 e Q q =>
  h H1 e _ fun H2 e2 => .inr ⟨k, rfl, q H2 e2⟩
def spDraws (K : PySem.W.Frag) : Sp := fun vs H Q _ => ∃ (a : Addr) (ns : List Int), vs = [.ref a] ∧ SqL K H a (ns.map V.int) ∧ ns.length ≤ 63 ∧ ∀ p H', H p = none → Ex H H' → Drawn H' p → Q (.ref p) H'
theorem ok_law_draws (T : Tx K mg) : FnOk P w K mg base CX0 1 T.law_draws.f T.law_draws.fd ["_law_script"] (spDraws K) := by
  refine T.law_draws.F.ok sc_law_draws (fun vs H Q E h => ?_) (fun cdv A outer s H vs Q E hr h => ?_)
  · obtain ⟨a, ns, rfl, _⟩ := h
    rfl
  obtain ⟨a, ns, rfl, hS, hl, q⟩ := h
  refine ⟨_, pss_cons (ps_par (i := 2) (j := 3) rfl sc_law_draws.nd rfl rfl (by decide) rfl rfl (pa_cons pe_int (pa_cons (pe_op op_add pe_int (pe_op op_mul pe_int (pe_callB call_len_seq (by rfl) T.m_len (by decide +kernel) (pa_cons (pv 0) pa_nil)))) pa_nil)) (by rfl))
      (pss_cons (ps_for PassesOwn.never rfl (pi_list (pe_slice sl_list (pv 0) po_none (po_some pe_int))) (pg_name (i := 1) sc_law_draws.nd rfl (Or.inl rfl)) (pss_cons (ps_set (i := 3) sc_law_draws.nd rfl (Or.inl rfl) (pe_op op_mod (pe_op op_add (pe_op op_add (pe_op op_add (pe_op op_mul (pv 3) pe_int) (pe_op op_mul pe_int (pe_callB call_abs (by rfl) T.m_abs (by decide +kernel) (pa_cons (pv 1) pa_nil)))) (pe_callTy call_int1 (by rfl) T.m_int (by decide +kernel) (pa_cons (pe_cmpR op_lt (pv 1) pe_int (nomark _)) pa_nil))) pe_int) pe_int))
      (pss_one (ps_if (pt_cmpR op_ge (pe_callB call_abs (by rfl) T.m_abs (by decide +kernel) (pa_cons (pv 1) pa_nil)) (pe_op op_pow pe_int pe_int) (nomark _)) (pss_one (ps_set (i := 2) sc_law_draws.nd rfl (Or.inl rfl) (pe_op op_add (pe_op op_mul (pv 2) pe_int) (pe_callB call_abs (by rfl) T.m_abs (by decide +kernel) (pa_cons (pv 1) pa_nil))))) pss_nil))))
      (pss_one (ps_ret (pe_lst (pa_cons (pv 2) (pa_cons (pv 3) (pa_cons pe_int pa_nil))))))), ?_⟩
  have hlen : (ns.map V.int).length = ns.length := List.length_map _
  refine q_any (fun σ' H' => Ex H H' ∧ σ' = [some (.ref a), none, some (.int 0), some (.int (2901 + 31 * ((ns.map V.int).length : Int)))]) (fun nx hn => ?_) ?_
  · refine ea_cons ev_c (ea_cons (ev_op ev_c (ev_op ev_c (ev_len (ev_var rfl) hS) (rv_I (.inl ⟨by decide, by decide⟩))) rv_I0) ea_nil) H (Ex.refl H) _ fun H1 e1 => ⟨_, _, rfl, hn _ _ ⟨e1, rfl⟩⟩
  rintro _ H1 ⟨e1, rfl⟩
  rw [hlen]
  refine q_forNLn (el_sl (lo := none) (hi := some 60) (ev_var rfl) eo_none (eo_some ev_c) (ex_l e1 hS)) (fun p i σ' H' => Ex H1 H' ∧ H' p = some (.lst (cutV (ns.map V.int) none (some 60))) ∧ ∃ (y1 : Option V) (g m : Int), σ' = [some (.ref a), y1, some (.int g), some (.int m)] ∧ 0 ≤ g ∧ 0 ≤ m ∧ m < 2305843009213693951)
    (fun p H2 _ e2 hp => ⟨e2, hp, none, 0, _, rfl, by omega, by omega, by omega⟩) (fun p i σ' H' _ h => sq_of h.2.1) (fun p i x σ' H' hx h => ?_) (fun p σ' H' h => ?_)
  · obtain ⟨hE, hp, y1, g, m, rfl, hg, hm0, hm⟩ := h
    have hxi : ∃ n : Int, x = .int n := by
      have h1 : x ∈ cutV (ns.map V.int) none (some 60) := List.mem_of_getElem? hx
      have h2 : x ∈ ns.map V.int := by
        unfold cutV at h1
        exact List.mem_of_mem_drop (List.mem_of_mem_take h1)
      obtain ⟨n, _, e⟩ := List.mem_map.mp h2
      exact ⟨n, e.symm⟩
    obtain ⟨n, rfl⟩ := hxi
    refine q_asg (ev_op (ev_op (ev_op (ev_op (ev_op (ev_var rfl) ev_c (rv_I (.inr ⟨by decide, by decide⟩))) (ev_op ev_c (ev_abs (ev_var rfl)) (rv_I (.inl ⟨by decide, by decide⟩))) rv_I0) (ev_int1b (ev_op (ev_var rfl) ev_c rv_I0)) rv_I0) ev_c rv_I0) ev_c (rv_I (by decide))) fun H2 e2 => ?_
    have hb0 : ∀ z : Int, 0 ≤ z % 2305843009213693951 ∧ z % 2305843009213693951 < 2305843009213693951 := fun z => ⟨Int.emod_nonneg _ (by decide), Int.emod_lt_of_pos _ (by decide)⟩
    refine s_when (et_test (ev_op (ev_abs (ev_var rfl)) (ev_op ev_c ev_c (rv_I ⟨by decide, by decide, by decide⟩)) rv_I0)) (fun _ H3 e3 => ?_) (fun _ H3 e3 => ?_)
    · refine s_asg (ev_op (ev_op (ev_var rfl) ev_c (rv_I (.inr ⟨by decide, by decide⟩))) (ev_abs (ev_var rfl)) rv_I0) fun H4 e4 => ?_
      refine ⟨((hE.trans e2).trans e3).trans e4, e4 _ _ (e3 _ _ (e2 _ _ hp)), _, _, _, rfl, ?_, (hb0 _).1, (hb0 _).2⟩
      split <;> omega
    · exact ⟨(hE.trans e2).trans e3, e3 _ _ (e2 _ _ hp), _, _, _, rfl, hg, (hb0 _).1, (hb0 _).2⟩
  · obtain ⟨hE, hp, y1, g, m, rfl, hg, hm0, hm⟩ := h
    refine s_retL (el_lst (ea_cons (ev_var rfl) (ea_cons (ev_var rfl) (ea_cons ev_c ea_nil))) (by show 3 ≤ 100000; decide)) fun l H3 hl3 e3 h3 => ?_
    exact q l H3 (fresh_back (e1.trans hE) hl3) ((e1.trans hE).trans e3) ⟨g, m, 0, h3, hg, hm0, hm, Int.le_refl 0⟩
def spNext : Sp := fun vs H Q _ => ∃ (p : Addr) (m : Int), vs = [.ref p, .int m] ∧ Drawn H p ∧ 1 ≤ m ∧ m ≤ 1000000 ∧ ∀ r H', 0 ≤ r → r < m → Kp (fun a => a = p) H H' → Drawn H' p → Q (.int r) H'
theorem Kp.ex {p : Addr} {H H' : Hp} (e : Ex H H') : Kp (fun a => a = p) H H' := fun a o _ h => e a o h
theorem ok_law_next (T : Tx K mg) : FnOk P w K mg base CX0 1 T.law_next.f T.law_next.fd ["_law_drawn", "_law_many"] spNext := by
  refine T.law_next.F.ok sc_law_next (fun vs H Q E h => ?_) (fun cdv A outer s H vs Q E hr h => ?_)
  · obtain ⟨p, m, rfl, _⟩ := h
    rfl
  obtain ⟨p, many, rfl, ⟨g, m, c, hp, hg, hm0, hm, hc⟩, h1, h2, q⟩ := h
  refine ⟨_, pss_cons (ps_if (pt_cmpR op_gt (pe_ix ix_list (pv 0) pe_int (fun _ _ => rfl)) pe_int (nomark _)) (pss_cons (ps_set (i := 3) sc_law_next.nd rfl (Or.inl rfl) (pe_op op_mod (pe_ix ix_list (pv 0) pe_int (fun _ _ => rfl)) (pv 1)))
      (pss_cons (ps_asg (pe_op op_fdiv (pe_ix ix_list (pv 0) pe_int (fun _ _ => rfl)) (pv 1)) (pg_sub (pv 0) pe_int set_list))
      (pss_one (ps_ret (pv 3))))) pss_nil)
      (pss_cons (ps_asg (pe_op op_add (pe_ix ix_list (pv 0) pe_int (fun _ _ => rfl)) pe_int) (pg_sub (pv 0) pe_int set_list))
      (pss_cons (ps_set (i := 2) sc_law_next.nd rfl (Or.inl rfl) (pe_op op_mod (pe_op op_add (pe_ix ix_list (pv 0) pe_int (fun _ _ => rfl)) (pe_op op_mul pe_int (pe_ix ix_list (pv 0) pe_int (fun _ _ => rfl)))) pe_int))
      (pss_cons (ps_set (i := 2) sc_law_next.nd rfl (Or.inl rfl) (pe_op op_mod (pe_op op_mul (pv 2) (pe_op op_add (pe_op op_mod (pv 2) pe_int) pe_int)) pe_int))
      (pss_one (ps_ret (pe_op op_mod (pe_op op_fdiv (pe_op op_mod (pe_op op_mul (pv 2) (pv 2)) pe_int) pe_int) (pv 1))))))), ?_⟩
  have item0 : ∀ {H' : Hp} {g m c : Int}, H' p = some (.lst [.int g, .int m, .int c]) → RV (rIxL K) (.ref p) (.int 0) H' (.int g) := fun h => rv_ixL (sq_of h) (atI_nat (j := 0) rfl)
  have item1 : ∀ {H' : Hp} {g m c : Int}, H' p = some (.lst [.int g, .int m, .int c]) → RV (rIxL K) (.ref p) (.int 1) H' (.int m) := fun h => rv_ixL (sq_of h) (atI_nat (j := 1) rfl)
  have item2 : ∀ {H' : Hp} {g m c : Int}, H' p = some (.lst [.int g, .int m, .int c]) → RV (rIxL K) (.ref p) (.int 2) H' (.int c) := fun h => rv_ixL (sq_of h) (atI_nat (j := 2) rfl)
  have hmod : ∀ z : Int, 0 ≤ z % many ∧ z % many < many := fun z => ⟨Int.emod_nonneg _ (by omega), Int.emod_lt_of_pos _ (by omega)⟩
  refine q_when (et_test (ev_op (ev_op (ev_var rfl) ev_c (item0 hp)) ev_c rv_I0)) (fun hb H1 e1 => ?_) (fun hb H1 e1 => ?_)
  · have p1 := e1 _ _ hp
    refine q_asg (ev_op (ev_op (ev_var rfl) ev_c (item0 p1)) (ev_var rfl) (rv_I (by omega))) fun H2 e2 => ?_
    have p2 := e2 _ _ p1
    refine q_setL (j := 0) p2 (ev_op (ev_op (ev_var rfl) ev_c (item0 p2)) (ev_var rfl) (rv_I ⟨by omega, by omega⟩)) (ev_var rfl) ev_c (by show 0 < 3; decide) fun H3 e3 => ?_
    refine s_ret (ev_var rfl) fun H4 e4 => ?_
    refine q _ _ (hmod g).1 (hmod g).2 (((Kp.ex ((e1.trans e2).trans e3)).trans (upd_kp rfl)).trans (Kp.ex e4)) ⟨g / many, m, c, e4 _ _ upd_same, Int.ediv_nonneg hg (by omega), hm0, hm, hc⟩
  · have p1 := e1 _ _ hp
    refine q_setL (j := 2) p1 (ev_op (ev_op (ev_var rfl) ev_c (item2 p1)) ev_c rv_I0) (ev_var rfl) ev_c (by show 2 < 3; decide) fun H2 e2 => ?_
    have p2 : (upd H2 p (.lst ([.int g, .int m, .int c].set 2 (.int (c + 1))))) p = some (.lst [.int g, .int m, .int (c + 1)]) := upd_same
    generalize hH3 : upd H2 p (.lst ([.int g, .int m, .int c].set 2 (.int (c + 1)))) = H3 at p2
    have k3 : Kp (fun a => a = p) H H3 := by
      rw [← hH3]
      exact (Kp.ex (e1.trans e2)).trans (upd_kp rfl)
    refine q_asg (ev_op (ev_op (ev_op (ev_var rfl) ev_c (item1 p2)) (ev_op ev_c (ev_op (ev_var rfl) ev_c (item2 p2)) (rv_I (.inl ⟨by decide, by decide⟩))) rv_I0) ev_c (rv_I (by decide))) fun H4 e4 => ?_
    have b1 : ∀ z : Int, 0 ≤ z % 18446744073709551557 ∧ z % 18446744073709551557 < 18446744073709551557 := fun z => ⟨Int.emod_nonneg _ (by decide), Int.emod_lt_of_pos _ (by decide)⟩
    generalize hx : (m + 11400714819323198485 * (c + 1)) % 18446744073709551557 = x
    have bx := b1 (m + 11400714819323198485 * (c + 1))
    rw [hx] at bx
    refine q_asg (ev_op (ev_op (ev_var rfl) (ev_op (ev_op (ev_var rfl) ev_c (rv_I (by decide))) ev_c rv_I0) (rv_I (.inl ⟨by omega, by omega⟩))) ev_c (rv_I (by decide))) fun H5 e5 => ?_
    generalize hy : (x * (x % 4294967291 + 5)) % 2305843009213693951 = y
    have by0 : 0 ≤ y ∧ y < 2305843009213693951 := by
      rw [← hy]
      exact ⟨Int.emod_nonneg _ (by decide), Int.emod_lt_of_pos _ (by decide)⟩
    refine s_ret (ev_op (ev_op (ev_op (ev_op (ev_var rfl) (ev_var rfl) (rv_I (.inl ⟨by omega, by omega⟩))) ev_c (rv_I (by decide))) ev_c (rv_I ⟨by decide, by decide⟩)) (ev_var rfl) (rv_I (by omega))) fun H6 e6 => ?_
    exact q _ _ (hmod _).1 (hmod _).2 (k3.trans (Kp.ex ((e4.trans e5).trans e6))) ⟨g, m, c + 1, e6 _ _ (e5 _ _ (e4 _ _ p2)), hg, hm0, hm, by omega⟩
def spOne : Sp := fun vs H Q _ => ∃ (p l : Addr) (xs : List V), vs = [.ref p, .ref l] ∧ Drawn H p ∧ H l = some (.lst xs) ∧ l ≠ p ∧ 1 ≤ xs.length ∧ xs.length ≤ 1000 ∧ ∀ v H', v ∈ xs → Kp (fun a => a = p) H H' → Drawn H' p → Q v H'
theorem ok_law_one (T : Tx K mg) : FnOk P w K mg base CX0 2 T.law_one.f T.law_one.fd ["_law_drawn", "_law_items"] spOne := by
  have G_law_next := ok_law_next (P := P) (w := w) (base := base) T
  refine T.law_one.F.ok sc_law_one (fun vs H Q E h => ?_) (fun cdv A outer s H vs Q E hr h => ?_)
  · obtain ⟨p, l, xs, rfl, _⟩ := h
    rfl
  obtain ⟨p, l, xs, rfl, hp, hl, hne, h1, h2, q⟩ := h
  refine ⟨_, pss_one (ps_ret (pe_ix ix_list (pv 1) (pe_call G_law_next (hr.mono (by omega)) (by rfl) T.law_next.g T.law_next.F.kp T.law_next.b .nil pass0 (pa_cons (pv 0) (pa_cons (pe_callB call_len_seq (by rfl) T.m_len (by decide +kernel) (pa_cons (pv 1) pa_nil)) pa_nil))) (fun _ _ => rfl))), ?_⟩
  refine ⟨.ref l, rfl, .ref p, rfl, .ref l, rfl, l, xs, rfl, .inl (sq_of hl), p, (xs.length : Int), rfl, hp, by omega, by omega, fun r H' h0 hr2 k d => ?_⟩
  have hi : r.toNat < xs.length := by omega
  have hg : atI xs r = some xs[r.toNat] := at_of (j := r.toNat) (by omega) (List.getElem?_eq_getElem hi)
  exact ⟨l, xs, r, _, rfl, rfl, sq_of (k _ _ hne hl), hg, q _ _ (List.getElem_mem hi) k d⟩
end
end K1
set_option Elab.async false
set_option linter.all false
set_option maxRecDepth 100000
set_option maxHeartbeats 4000000
namespace K1
open PySem PySem.Spec PyProof.Rows L2 Evl Sl
section
variable {P : Program} {w : World} {K : PySem.W.Frag} {mg : Str → Option Value} {base : Heap}
/-! ### _law_vars -/
theorem varsD_tuple (ds : List PyData) : varsD (.tuple ds) = firsts [] (leavesAll (ds.drop 1)) := by
  show firsts [] (leavesTl ds) = _
  rw [leavesTl_drop]
theorem leavesAll_take {ds : List PyData} {i : Nat} {d : PyData} (h : ds[i]? = some d) : leavesAll (ds.take (i + 1)) = leavesAll (ds.take i) ++ leaves d := by
  rw [List.take_add_one, leavesAll_app, h]
  show _ = _
  simp [leavesAll]
theorem firsts_len : ∀ (acc xs : List Int), (firsts acc xs).length ≤ acc.length + xs.length
  | _, [] => Nat.le_refl _
  | acc, x :: xs => by
    show (if x ∈ acc then firsts acc xs else firsts (acc ++ [x]) xs).length ≤ _
    split
    · have := firsts_len acc xs
      simp only [List.length_cons]
      omega
    · have := firsts_len (acc ++ [x]) xs
      rw [List.length_append, List.length_singleton] at this
      simp only [List.length_cons]
      omega
mutual
theorem leaves_wt : ∀ d : PyData, (leaves d).length ≤ wt d
  | .none | .bool _ | .str _ | .list _ | .dict _ => Nat.zero_le _
  | .int i => by
    show 1 ≤ 1 + _
    omega
  | .tuple [] => Nat.zero_le _
  | .tuple (x :: xs) => by
    have := leavesAll_wt xs
    show (leavesAll xs).length ≤ 1 + (wt x + wtAll xs)
    omega
theorem leavesAll_wt : ∀ ds : List PyData, (leavesAll ds).length ≤ wtAll ds
  | [] => Nat.le_refl _
  | d :: ds => by
    have := leaves_wt d
    have := leavesAll_wt ds
    show (leaves d ++ leavesAll ds).length ≤ wt d + wtAll ds
    rw [List.length_append]
    omega
end
theorem wf_get : ∀ {ds : List PyData} {i : Nat} {d : PyData}, wfAll ds = true → ds[i]? = some d → wf d = true
  | [], _, _, _, h => by simp at h
  | x :: xs, 0, d, h, e => by
    simp at e
    subst e
    have h2 : (wf x && wfAll xs) = true := h
    exact ((Bool.and_eq_true _ _).mp h2).1
  | x :: xs, i + 1, d, h, e => by
    have h2 : (wf x && wfAll xs) = true := h
    exact wf_get ((Bool.and_eq_true _ _).mp h2).2 (by simpa using e)
theorem inV_ints (xs : List Int) (i : Int) : inV (.int i) (xs.map V.int) = decide (i ∈ xs) := by
  induction xs with
  | nil => rfl
  | cons x xs ih =>
    unfold inV at ih ⊢
    rw [List.map_cons, List.any_cons, ih]
    rw [Bool.eq_iff_iff, Bool.or_eq_true, decide_eq_true_eq, decide_eq_true_eq, List.mem_cons]
    constructor
    · rintro (h | h)
      · have h2 : (x == i) = true ∨ (i == x) = true := by
          first
            | exact .inl h
            | exact .inr h
            | (left; simpa [eqV] using h)
        rcases h2 with h2 | h2
        · exact .inl (eq_of_beq h2).symm
        · exact .inl (eq_of_beq h2)
      · exact .inr h
    · rintro (h | h)
      · left
        subst h
        simp [eqV]
      · exact .inr h
theorem flat_ints (xs : List Int) : (xs.map V.int).all flatV = true := by
  rw [List.all_map, List.all_eq_true]
  intro x _
  rfl
def spLvars (n : Nat) : Sp := fun vs H Q _ => ∃ (S : Addr → Prop) (v : V) (d : PyData), vs = [v] ∧ Da S H v d ∧ Sz d ∧ wf d = true ∧ d.depth < n ∧ ∀ p H', H p = none → Ex H H' → H' p = some (.lst ((varsD d).map V.int)) → Q (.ref p) H'
theorem given_filterN {α : Type} {g : α → V} {f : α → Bool} : ∀ (n : Nat) {xs : List α} {b : Nat → Bool} {v : Nat → V}, xs.length = n → (∀ i x, xs[i]? = some x → b i = f x ∧ v i = g x) → given xs.length b v = (xs.filter f).map g
  | 0, xs, b, v, hl, _ => by
    have e : xs = [] := List.length_eq_zero_iff.mp hl
    subst e
    rfl
  | n + 1, xs, b, v, hl, h => by
    have hne : xs ≠ [] := fun z => by
      rw [z] at hl
      cases hl
    have ex : xs = xs.dropLast ++ [xs.getLast hne] := (List.dropLast_concat_getLast hne).symm
    generalize xs.dropLast = ys at ex
    generalize xs.getLast hne = x at ex
    subst ex
    have hy : ys.length = n := by
      rw [List.length_append, List.length_singleton] at hl
      omega
    have hx := h ys.length x (by rw [List.getElem?_append_right (Nat.le_refl _), Nat.sub_self]; rfl)
    have hr := given_filterN n (b := b) (v := v) hy fun i y hy => h i y (by rw [List.getElem?_append_left (List.getElem?_eq_some_iff.mp hy).1]; exact hy)
    rw [List.length_append, List.length_singleton, List.filter_append, List.map_append, ← hr]
    cases hb : b ys.length with
    | true =>
      rw [given_yes hb, hx.2, List.filter_cons, ← hx.1, hb]
      rfl
    | false =>
      rw [given_no hb, List.filter_cons, ← hx.1, hb]
      show _ = _ ++ []
      rw [List.append_nil]
theorem given_filter {α : Type} {g : α → V} {f : α → Bool} {xs : List α} {b : Nat → Bool} {v : Nat → V} (h : ∀ i x, xs[i]? = some x → b i = f x ∧ v i = g x) : given xs.length b v = (xs.filter f).map g := given_filterN _ rfl h
theorem ok_law_vars (T : Tx K mg) : ∀ n : Nat, FnOk P w K mg base CX0 n T.law_vars.f T.law_vars.fd ["_law_shape"] (spLvars n)
  | 0 => fn_none fun vs H Q E h => by
    obtain ⟨S, v, d, _, _, _, _, h, _⟩ := h
    exact absurd h (Nat.not_lt_zero _)
  | n + 1 => by
    have G_law_vars := ok_law_vars T n
    refine T.law_vars.F.ok sc_law_vars (fun vs H Q E h => ?_) (fun cdv A outer s H vs Q E hr h => ?_)
    · obtain ⟨S, v, d, rfl, _⟩ := h
      rfl
    obtain ⟨S, v, d, rfl, hd, hz, hwf, hdp, q⟩ := h
    refine ⟨_, pss_cons (ps_if (pt_val (pe_callB call_isi (by rfl) T.m_isinstance (by decide +kernel) (pa_cons (pv 0) (pa_cons (pe_bltn (v := .ty "int") (by rfl) T.m_int (by decide +kernel) rfl) pa_nil)))) (pss_one (ps_ret (pe_lst (pa_cons (pv 0) pa_nil)))) pss_nil)
      (pss_cons (ps_set (i := 1) sc_law_vars.nd rfl (Or.inr rfl) (pe_lst pa_nil))
      (pss_cons (ps_for PassesOwn.never rfl (pi_tup (pe_slice sl_tupA (pv 0) (po_some pe_int) po_none)) (pg_name (i := 2) sc_law_vars.nd rfl (Or.inl rfl)) (pss_one (ps_expr (pe_bm PySem.F.plainAttrs_list PySem.F.slot_list_extend PySem.F.type_list_extend mt_extend (pv 1) (pa_cons (pe_lc (own := [("_law_one_here", 3)]) (g := gName 3) rfl sc_law_vars.nd (pi_list (pe_call G_law_vars (hr.mono (by omega)) (by rfl) T.law_vars.g T.law_vars.F.kp T.law_vars.b .nil pass0 (pa_cons (pv 2) pa_nil))) (blkOk_by (own := [("_law_one_here", 3)]) (N := ["_law_shape", "_law_found", "_law_part", "_law_one_here"]) (sc := defScope s_law_vars) (by decide +kernel)) (fun _ _ _ _ _ => pg_name (i := 3) sc_law_vars.nd rfl (Or.inl rfl)) (fun _ _ _ _ _ => (pts_one (pt_cmpR (show OpR _ _ (rIn K true) from op_notIn_seq) (pv 3) (pv 1) (by rfl)))) (fun _ _ _ _ _ => (pv 3))) pa_nil)))))
      (pss_one (ps_ret (pv 1))))), ?_⟩
    refine q_when (et_B (ev_isi (ev_var rfl) hd (kit_int d))) (fun hb H1 e1 => ?_) (fun hb H1 e1 => ?_)
    · cases hd with
      | int i => exact s_retL (el_lst (ea_cons (ev_var rfl) ea_nil) (by show 1 ≤ 100000; decide)) fun p H2 hp e2 h2 => q p H2 (fresh_back e1 hp) (e1.trans e2) h2
      | bl b => cases hwf
      | _ => cases hb
    · cases hd with
      | @tup a xs ds na ha hda =>
        have ha1 := e1 _ _ ha
        have hw : 1 + wtAll ds ≤ 20000 := hz
        have hwd := wtAll_drop ds
        have hln := (hda.drop 1).length
        have hwf2 : wfAll (ds.drop 1) = true := by
          rw [wf_node, Bool.and_eq_true] at hwf
          exact hwf.2
        have hdp2 : PyData.depthAll ds + 1 < n + 1 := hdp
        refine q_asgL (el_lst ea_nil (Nat.zero_le _)) fun l H2 hl2 e2 h2 => ?_
        have hlH : H l = none := fresh_back e1 hl2
        refine q_forWn (ew_from (k := 1) (ev_var rfl) ev_c (e2 _ _ ha1)) (fun p i σ' H' => Ex H H' ∧ H' p = some (.tup (xs.drop 1)) ∧ p ≠ l ∧ H' l = some (.lst ((firsts [] (leavesAll ((ds.drop 1).take i))).map V.int)) ∧ ∃ y2 y3 : Option V, σ' = [some (.ref a), some (.ref l), y2, y3])
          (fun p H3 e3 hp => ⟨(e1.trans e2).trans e3, hp, ?_, e3 _ _ h2, none, none, rfl⟩) (fun p i σ' H' h => h.2.1) (fun p i x σ' H' hx h => ?_) (fun p σ' H' h => ?_)
        · intro e
          rw [e, e3 _ _ h2] at hp
          cases hp
        · obtain ⟨hE, hp, npl, hl, y2, y3, rfl⟩ := h
          obtain ⟨d2, hd2, hx2⟩ := ((hda.same hE).drop 1).get hx
          have hw2 := wtAll_get hd2
          have hd3 : ds[1 + i]? = some d2 := by
            rw [← List.getElem?_drop]
            exact hd2
          have hdd := depthAll_get hd3
          have hlen1 := firsts_len [] (leavesAll ((ds.drop 1).take i))
          have hlen2 := leavesAll_wt ((ds.drop 1).take i)
          have hlen3 : wtAll ((ds.drop 1).take i) ≤ wtAll (ds.drop 1) := by
            have h4 : wtAll ((ds.drop 1).take i ++ (ds.drop 1).drop i) = wtAll (ds.drop 1) := by rw [List.take_append_drop]
            rw [wtAll_append] at h4
            omega
          have hlv := leaves_wt d2
          have hlf := firsts_len [] (leaves d2)
          have hvd : (varsD d2).length ≤ 20000 := by
            show (firsts [] (leaves d2)).length ≤ 20000
            simp only [List.length_nil] at hlf
            omega
          simp only [List.length_nil] at hlen1
          generalize hacc : firsts [] (leavesAll ((ds.drop 1).take i)) = acc at hl hlen1
          refine s_extL (ys := ((varsD d2).filter fun x => decide (x ∉ acc)).map V.int) hl (ev_var rfl) ?_ ?_ fun H5 e5 => ?_
          · rw [← given_filter (g := V.int) (f := fun x => decide (x ∉ acc)) (b := fun j => match (varsD d2)[j]? with | some x => decide (x ∉ acc) | none => false) (v := fun j => match (varsD d2)[j]? with | some x => .int x | none => .non) (fun j x hj => by
              constructor <;> (show (match (varsD d2)[j]? with | some x => _ | none => _) = _; rw [hj]))]
            have hml : ((varsD d2).map V.int).length = (varsD d2).length := List.length_map _
            rw [← hml]
            refine el_lcNL _ _ (el_call (vs := [x]) (ea_cons (ev_var rfl) ea_nil) ?_) (by rw [hml]; omega) (fun _ => rfl) (fun j y H6 e6 hy => ?_) (fun j y H6 e6 hy _ => ?_)
            · intro H6 e6 Q' q' E'
              exact ⟨S, x, d2, rfl, hx2.same e6, (by show wt d2 ≤ 20000; omega), wf_get hwf2 hd2, (by omega), fun p2 H7 hp7 e7 h7 => q' p2 H7 hp7 e7 h7⟩
            · rw [List.getElem?_map] at hy
              cases hj : (varsD d2)[j]? with
              | none =>
                rw [hj] at hy
                cases hy
              | some z =>
                rw [hj] at hy
                have ey : V.int z = y := Option.some.inj hy
                subst ey
                refine et_is (et_test (ev_op (ev_var rfl) (ev_var rfl) (rv_niL (sq_of (e6 _ _ hl)) rfl (flat_ints acc)))) ?_
                show (!inV (.int z) (acc.map V.int)) = decide (z ∉ acc)
                rw [inV_ints]
                show (!decide (z ∈ acc)) = decide (z ∉ acc)
                by_cases hz2 : z ∈ acc
                · rw [decide_eq_true hz2, decide_eq_false (fun q => q hz2)] <;> rfl
                · rw [decide_eq_false hz2, decide_eq_true hz2] <;> rfl
            · rw [List.getElem?_map] at hy
              cases hj : (varsD d2)[j]? with
              | none =>
                rw [hj] at hy
                cases hy
              | some z =>
                rw [hj] at hy
                have ey : V.int z = y := Option.some.inj hy
                subst ey
                refine ev_is (ev_var rfl) ?_
                rfl
          · rw [List.length_map, List.length_map]
            have := List.length_filter_le (fun x => decide (x ∉ acc)) (varsD d2)
            omega
          · refine ⟨(hE.trans e5).mut hlH, ?_, npl, ?_, _, _, rfl⟩
            · rw [upd_ne npl]
              exact e5 _ _ hp
            · rw [upd_same, leavesAll_take hd2, firsts_append, hacc, firsts_filter (leaves d2) acc [] (fun _ _ => .inr trivial), ← List.map_append]
              rfl
        · obtain ⟨hE, hp, npl, hl, y2, y3, rfl⟩ := h
          refine s_ret (ev_var rfl) fun H4 e4 => q l H4 hlH (hE.trans e4) ?_
          rw [e4 _ _ hl, varsD_tuple, List.take_of_length_le (by omega)]
      | int => cases hb
      | _ => cases hwf
end
end K1
set_option Elab.async false
set_option linter.all false
set_option maxRecDepth 100000
set_option maxHeartbeats 4000000
namespace K1
open PySem PySem.Spec PyProof.Rows L2 Evl Sl
section
variable {P : Program} {w : World} {K : PySem.W.Frag} {mg : Str → Option Value} {base : Heap}
/-! ### _law_same of two values of the same data -/
def itemsD : PyData → List PyData
  | .tuple ds => ds
  | .list ds => ds
  | _ => []
theorem _root_.Sl.Da.seq {S : Addr → Prop} {H : Hp} {x : V} {d : PyData} (h : Da S H x d) (hb : (isTup d || isLst d) = true) : ∃ a xs, x = .ref a ∧ (SqL K H a xs ∨ SqT K H a xs) ∧ DaAll S H xs (itemsD d) := by
  cases h with
  | lst n ha hda => exact ⟨_, _, rfl, .inl (sq_of ha), hda⟩
  | tup n ha hda => exact ⟨_, _, rfl, .inr (st_of ha), hda⟩
  | _ => cases hb
theorem itemsD_wt : ∀ d : PyData, wtAll (itemsD d) + 1 ≤ wt d
  | .tuple ds => by
    show wtAll ds + 1 ≤ 1 + wtAll ds
    omega
  | .list ds => by
    show wtAll ds + 1 ≤ 1 + wtAll ds
    omega
  | .none | .bool _ | .int _ | .str _ | .dict _ => wt_pos _
theorem given_nil : ∀ (n : Nat) (v : Nat → V), given n (fun _ => false) v = []
  | 0, _ => rfl
  | n + 1, v => by
    rw [given_no rfl]
    exact given_nil n v
theorem canLay_get : ∀ {ds : List PyData} {i : Nat} {e : PyData}, PyData.canLayAll0 ds = true → ds[i]? = some e → e.canLay0 = true
  | [], _, _, _, h => by simp at h
  | x :: xs, 0, d, h, e => by
    simp at e
    subst e
    have h2 : (x.canLay0 && PyData.canLayAll0 xs) = true := by simpa [PyData.canLayAll0] using h
    exact ((Bool.and_eq_true _ _).mp h2).1
  | x :: xs, i + 1, d, h, e => by
    have h2 : (x.canLay0 && PyData.canLayAll0 xs) = true := by simpa [PyData.canLayAll0] using h
    exact canLay_get ((Bool.and_eq_true _ _).mp h2).2 (by simpa using e)
theorem canLay_items : ∀ {d : PyData}, d.canLay0 = true → ∀ {i : Nat} {e : PyData}, (itemsD d)[i]? = some e → e.canLay0 = true
  | .tuple ds, h, i, e, g => canLay_get (ds := ds) (by simpa [PyData.canLay0] using h) g
  | .list ds, h, i, e, g => canLay_get (ds := ds) (by simpa [PyData.canLay0] using h) g
  | .none, _, _, _, g | .bool _, _, _, _, g | .int _, _, _, _, g | .str _, _, _, _, g | .dict _, _, _, _, g => by simp [itemsD] at g
theorem depth_items : ∀ {d : PyData} {i : Nat} {e : PyData}, (itemsD d)[i]? = some e → e.depth < d.depth
  | .tuple ds, i, e, g => by
    have := depthAll_get (ds := ds) g
    rw [depth_tuple]
    omega
  | .list ds, i, e, g => by
    have := depthAll_get (ds := ds) g
    show e.depth < PyData.depthAll ds + 1
    omega
  | .none, _, _, g | .bool _, _, _, g | .int _, _, _, g | .str _, _, _, g | .dict _, _, _, g => by simp [itemsD] at g
theorem depth_num {d : PyData} (h : (isStr d || isNum d) = true) : d.depth ≤ 1 := by
  cases d <;> first | exact Nat.le_refl _ | exact Nat.le_succ _ | cases h
def spSame (n : Nat) : Sp := fun vs H Q _ => ∃ (S : Addr → Prop) (x y : V) (d : PyData), vs = [x, y] ∧ Da S H x d ∧ Da S H y d ∧ Sz d ∧ d.canLay0 = true ∧ d.depth < n ∧ n ≤ 60 ∧ ∀ H', Ex H H' → Q (.bl true) H'
theorem ok_law_same (T : Tx K mg) : ∀ n : Nat, FnOk P w K mg base CX0 n T.law_same.f T.law_same.fd ["_law_found", "_law_due"] (spSame n)
  | 0 => fn_none fun vs H Q E h => by
    obtain ⟨S, x, y, d, _, _, _, _, _, h, _⟩ := h
    exact absurd h (Nat.not_lt_zero _)
  | n + 1 => by
    have G_law_same := ok_law_same T n
    refine T.law_same.F.ok sc_law_same (fun vs H Q E h => ?_) (fun cdv A outer s H vs Q E hr h => ?_)
    · obtain ⟨S, x, y, d, rfl, _⟩ := h
      rfl
    obtain ⟨S, x, y, d, rfl, hx, hy, hz, hnd, hdp, hn, q⟩ := h
    refine ⟨_, pss_cons (ps_if (pt_val (pe_callB call_isiT (by rfl) T.m_isinstance (by decide +kernel) (pa_cons (pv 1) (pa_cons (pe_tup (pa_cons (pe_bltn (v := .ty "tuple") (by rfl) T.m_tuple (by decide +kernel) rfl) (pa_cons (pe_bltn (v := .ty "list") (by rfl) T.m_list (by decide +kernel) rfl) pa_nil))) pa_nil)))) (pss_cons (ps_if (PW.pt (pw_or (pt_cmpR op_ne (pe_callB call_isi (by rfl) T.m_isinstance (by decide +kernel) (pa_cons (pv 0) (pa_cons (pe_bltn (v := .ty "tuple") (by rfl) T.m_tuple (by decide +kernel) rfl) pa_nil))) (pe_callB call_isi (by rfl) T.m_isinstance (by decide +kernel) (pa_cons (pv 1) (pa_cons (pe_bltn (v := .ty "tuple") (by rfl) T.m_tuple (by decide +kernel) rfl) pa_nil))) (nomark _)) (pw_or1 (pt_cmpR op_ne (pe_callB call_isi (by rfl) T.m_isinstance (by decide +kernel) (pa_cons (pv 0) (pa_cons (pe_bltn (v := .ty "list") (by rfl) T.m_list (by decide +kernel) rfl) pa_nil))) (pe_callB call_isi (by rfl) T.m_isinstance (by decide +kernel) (pa_cons (pv 1) (pa_cons (pe_bltn (v := .ty "list") (by rfl) T.m_list (by decide +kernel) rfl) pa_nil))) (nomark _))))) (pss_one (ps_ret pe_bl)) pss_nil)
      (pss_cons (ps_if (pt_cmpR op_ne (pe_callB call_len_seq (by rfl) T.m_len (by decide +kernel) (pa_cons (pv 0) pa_nil)) (pe_callB call_len_seq (by rfl) T.m_len (by decide +kernel) (pa_cons (pv 1) pa_nil)) (nomark _)) (pss_one (ps_ret pe_bl)) pss_nil)
      (pss_one (ps_ret (pe_cmpR (op_eqLNil (hu64 hr)) (pe_lc (own := [("_law_k", 2)]) (g := gName 2) rfl sc_law_same.nd (pi_range1 (by rfl) T.m_range (pa_cons (pe_callB call_len_seq (by rfl) T.m_len (by decide +kernel) (pa_cons (pv 1) pa_nil)) pa_nil)) (blkOk_by (own := [("_law_k", 2)]) (N := ["_law_found", "_law_due", "_law_k"]) (sc := defScope s_law_same) (by decide +kernel)) (fun _ _ _ _ _ => pg_name (i := 2) sc_law_same.nd rfl (Or.inl rfl)) (fun _ _ _ _ _ => (pts_one (pt_not (pt_val (pe_call G_law_same (hr.mono (by omega)) (by rfl) T.law_same.g T.law_same.F.kp T.law_same.b .nil pass0 (pa_cons (pe_ix (show IxR _ (rIx K) from ix_seq) (pv 0) (pv 2) (fun _ _ => rfl)) (pa_cons (pe_ix (show IxR _ (rIx K) from ix_seq) (pv 1) (pv 2) (fun _ _ => rfl)) pa_nil))))))) (fun _ _ _ _ _ => (pv 2))) (pe_lst pa_nil) (nomark _)))))) pss_nil)
      (pss_cons (ps_if (pt_cmpR op_isN (pv 1) pe_non (nomark _)) (pss_one (ps_ret (pe_cmpR op_isN (pv 0) pe_non (nomark _)))) pss_nil)
      (pss_cons (ps_if (pt_val (pe_callB call_isi (by rfl) T.m_isinstance (by decide +kernel) (pa_cons (pv 1) (pa_cons (pe_bltn (v := .ty "str") (by rfl) T.m_str (by decide +kernel) rfl) pa_nil)))) (pss_one (ps_ret (pe_and (pe_callB call_isi (by rfl) T.m_isinstance (by decide +kernel) (pa_cons (pv 0) (pa_cons (pe_bltn (v := .ty "str") (by rfl) T.m_str (by decide +kernel) rfl) pa_nil))) (pe_one (pe_cmpR (op_eqA (hu64 hr)) (pv 0) (pv 1) (nomark _)))))) pss_nil)
      (pss_one (ps_ret (pe_and (pe_callB call_isi (by rfl) T.m_isinstance (by decide +kernel) (pa_cons (pv 0) (pa_cons (pe_bltn (v := .ty "int") (by rfl) T.m_int (by decide +kernel) rfl) pa_nil))) (pe_and (pe_cmpR op_eq (pe_callB call_isi (by rfl) T.m_isinstance (by decide +kernel) (pa_cons (pv 0) (pa_cons (pe_bltn (v := .ty "bool") (by rfl) T.m_bool (by decide +kernel) rfl) pa_nil))) (pe_callB call_isi (by rfl) T.m_isinstance (by decide +kernel) (pa_cons (pv 1) (pa_cons (pe_bltn (v := .ty "bool") (by rfl) T.m_bool (by decide +kernel) rfl) pa_nil))) (nomark _)) (pe_one (pe_cmpR (op_eqA (hu64 hr)) (pv 0) (pv 1) (nomark _))))))))), ?_⟩
    refine q_when (et_B (ev_isi2 (ev_var rfl) hy (kit_tuple d) (kit_list d))) (fun hb H1 e1 => ?_) (fun hb H1 e1 => ?_)
    · obtain ⟨a, xs, rfl, ha, hxa⟩ := hx.seq (K := K) hb
      obtain ⟨b, ys, rfl, hb2, hya⟩ := hy.seq (K := K) hb
      have lx := hxa.length
      have ly := hya.length
      have hw := itemsD_wt d
      have hwl := wtAll_len (itemsD d)
      have hz2 : wt d ≤ 20000 := hz
      refine q_when (et_or (et_test (ev_op (ev_isi (ev_var rfl) (hx.same e1) (kit_tuple d)) (ev_isi (ev_var rfl) (hy.same e1) (kit_tuple d)) (rv_ne rfl))) (fun _ => et_test (ev_op (ev_isi (ev_var rfl) (hx.same e1) (kit_list d)) (ev_isi (ev_var rfl) (hy.same e1) (kit_list d)) (rv_ne rfl)))) (fun hb H2 e2 => ?_) (fun _ H2 e2 => ?_)
      · simp at hb
      have e2 := e1.trans e2
      refine q_when (et_test (ev_op (ev_lenS (ev_var rfl) (ha.imp (ex_l e2) (ex_t e2))) (ev_lenS (ev_var rfl) (hb2.imp (ex_l e2) (ex_t e2))) (rv_ne rfl))) (fun hb H3 e3 => ?_) (fun _ H3 e3 => ?_)
      · rw [lx, ly] at hb
        simp at hb
      have e3 := e2.trans e3
      refine s_ret (v := .bl true) ?_ fun H4 e4 => q H4 (e3.trans e4)
      refine ev_is (ev_eqLNil (el_lcR1 (n := (ys.length : Int)) (fun _ => false) (fun _ => .non) (ea_cons (ev_lenS (ev_var rfl) (hb2.imp (ex_l e3) (ex_t e3))) ea_nil) (by omega) (fun _ => rfl) (fun i H4 e4 hi => ?_) (fun i H4 e4 hi z => ?_))) ?_
      · have hi1 : i < xs.length := by omega
        have hi2 : i < ys.length := by omega
        obtain ⟨d1, hd1, hx1⟩ := (hxa.same (e3.trans e4)).get (List.getElem?_eq_getElem hi1)
        obtain ⟨d2, hd2, hy1⟩ := (hya.same (e3.trans e4)).get (List.getElem?_eq_getElem hi2)
        rw [hd1] at hd2
        cases hd2
        have hw1 := wtAll_get hd1
        have hdd := depth_items hd1
        refine et_is (a := !true) (et_not (et_B (ev_call (vs := [xs[i], ys[i]]) (ea_cons (ev_op (ev_var rfl) (ev_var rfl) ?_) (ea_cons (ev_op (ev_var rfl) (ev_var rfl) ?_) ea_nil)) ?_))) rfl
        · exact ha.elim (fun h => rv_ixSL (ex_l (e3.trans e4) h) (at_of (j := i) (by omega) (List.getElem?_eq_getElem hi1))) (fun h => rv_ixST (ex_t (e3.trans e4) h) (at_of (j := i) (by omega) (List.getElem?_eq_getElem hi1)))
        · exact hb2.elim (fun h => rv_ixSL (ex_l (e3.trans e4) h) (at_of (j := i) (by omega) (List.getElem?_eq_getElem hi2))) (fun h => rv_ixST (ex_t (e3.trans e4) h) (at_of (j := i) (by omega) (List.getElem?_eq_getElem hi2)))
        · intro H5 e5 Q' q' E'
          exact ⟨S, _, _, d1, rfl, hx1.same e5, hy1.same e5, (by show wt d1 ≤ 20000; omega), canLay_items hnd hd1, (by omega), (by omega), fun H6 e6 => q' H6 e6⟩
      · cases z
      · rw [given_nil]
        rfl
    · have hs : ∀ b : Bool, (.bl b : V) = .bl b := fun _ => rfl
      refine q_when (et_test (ev_op (ev_var rfl) ev_c (rv_val fun H2 e2 Q' q' => ⟨rfl, q'⟩))) (fun hb2 H2 e2 => ?_) (fun hb2 H2 e2 => ?_)
      · have hd : x = .non := by
          have hy2 : y = .non := of_decide_eq_true hb2
          subst hy2
          cases hy
          cases hx
          rfl
        subst hd
        exact s_ret (v := .bl true) (ev_op (ev_var rfl) ev_c (rv_val fun H2 e2 Q' q' => ⟨rfl, q'⟩)) fun H3 e3 => q H3 ((e1.trans e2).trans e3)
      · have e2 := e1.trans e2
        have he : ∀ {H3 : Hp}, Ex H H3 → (isStr d || isNum d) = true → RV rEqA x y H3 (.bl true) := fun e3 hk => rv_val fun H4 e4 Q' q' => ⟨S, d, d, hx.same (e3.trans e4), hy.same (e3.trans e4), hnd, hnd, (by
          have := depth_num hk
          omega), (by
          have hq : PyData.eqv d d = true := PySem.SeqAt.eqv_refl d hnd
          rw [hq]
          exact q')⟩
        refine q_when (et_B (ev_isi (ev_var rfl) (hy.same e2) (kit_str d))) (fun hb3 H3 e3 => ?_) (fun hb3 H3 e3 => ?_)
        · refine s_ret (v := .bl true) (ev_is (ev_andV (ev_isi (ev_var rfl) (hx.same (e2.trans e3)) (kit_str d)) (fun _ => ev_op (ev_var rfl) (ev_var rfl) (he (e2.trans e3) (by rw [hb3] <;> rfl)))) (by rw [hb3] <;> rfl)) fun H4 e4 => q H4 ((e2.trans e3).trans e4)
        · have hk : isNum d = true := by
            cases hx with
            | non => cases hy; cases hb2
            | lst => cases hb
            | tup => cases hb
            | dct => simp [PyData.canLay0] at hnd
            | str => cases hb3
            | _ => rfl
          refine s_ret (v := .bl true) (ev_is (ev_andV (ev_isi (ev_var rfl) (hx.same (e2.trans e3)) (kit_int d)) (fun _ => ev_andV (ev_op (ev_isi (ev_var rfl) (hx.same (e2.trans e3)) (kit_bool d)) (ev_isi (ev_var rfl) (hy.same (e2.trans e3)) (kit_bool d)) (rv_eq rfl)) (fun _ => ev_op (ev_var rfl) (ev_var rfl) (he (e2.trans e3) (by rw [hk, Bool.or_true]))))) (by rw [hk]; simp)) fun H4 e4 => q H4 ((e2.trans e3).trans e4)
end
end K1
set_option Elab.async false
set_option linter.all false
set_option maxRecDepth 100000
set_option maxHeartbeats 4000000
namespace K1
open PySem PySem.Spec PyProof.Rows L2 Evl Sl
section
variable {P : Program} {w : World} {K : PySem.W.Frag} {mg : Str → Option Value} {base : Heap}
theorem given_none (n : Nat) (f : Nat → Bool) (v : Nat → V) : (given n f v).isEmpty = ((List.range n).map fun i => !f i).all id := by
  induction n with
  | zero => rfl
  | succ n ih =>
    rw [List.range_succ, List.map_append, List.all_append, ← ih]
    cases h : f n with
    | true =>
      rw [given_yes h]
      simp [h]
    | false =>
      rw [given_no h]
      simp [h]
theorem rv_yes {p : Int → Int → Prop} [∀ i j, Decidable (p i j)] {i j : Int} {H : Hp} (h : p i j) : RV (rI0 fun i j => V.bl (decide (p i j))) (.int i) (.int j) H (.bl true) := rv_val fun H3 e3 Q' q' => ⟨i, j, rfl, rfl, by
  show Q' (V.bl (decide (p i j))) H3
  rw [decide_eq_true h]
  exact q'⟩
theorem rv_no {p : Int → Int → Prop} [∀ i j, Decidable (p i j)] {i j : Int} {H : Hp} (h : ¬ p i j) : RV (rI0 fun i j => V.bl (decide (p i j))) (.int i) (.int j) H (.bl false) := rv_val fun H3 e3 Q' q' => ⟨i, j, rfl, rfl, by
  show Q' (V.bl (decide (p i j))) H3
  rw [decide_eq_false h]
  exact q'⟩
theorem ev_slS {σ : L2.St} {H : Hp} {te : TE} {tl th : TO} {z : Str} {lo hi : Option Int} (h : Ev te σ H (.str z)) (h1 : EvO tl σ H lo) (h2 : EvO th σ H hi) (hz : z.length ≤ 100000) : Ev (tSl rSlS te tl th) σ H (.str (cutS z lo hi)) := fun H1 e Q q =>
  h H1 e _ fun H2 e2 => h1 H2 (e.trans e2) _ fun H3 e3 => h2 H3 ((e.trans e2).trans e3) _ fun H4 e4 => ⟨z, rfl, sz_of hz, q H4 ((e2.trans e3).trans e4)⟩
/-! ### _law_named -/
def spNamed : Sp := fun vs H Q _ => ∃ (x : Str) (n : Nat), vs = [.str x, .int (n : Int)] ∧ x.length ≤ 20000 ∧ n ≤ 20000 ∧ ∀ H', Ex H H' → Q (.bl (headOk (.str x) n)) H'
theorem ok_law_named (T : Tx K mg) : FnOk P w K mg base CX0 1 T.law_named.f T.law_named.fd ["_law_name", "_law_many"] spNamed := by
  refine T.law_named.F.ok sc_law_named (fun vs H Q E h => ?_) (fun cdv A outer s H vs Q E hr h => ?_)
  · obtain ⟨x, n, rfl, _⟩ := h
    rfl
  obtain ⟨x, n, rfl, hx, hn, q⟩ := h
  refine ⟨_, pss_cons (ps_if (pt_cmpR op_eq (pv 0) pe_str (nomark _)) (pss_one (ps_ret (pe_cmpR op_eq (pv 1) pe_int (nomark _)))) pss_nil)
      (pss_cons (ps_set (i := 2) sc_law_named.nd rfl (Or.inr rfl) pe_str)
      (pss_cons (ps_if (PW.pt (pw_or (pt_cmpR op_gt (pv 1) pe_int (nomark _)) (pw_or (pt_not (pt_chain op_le op_le pe_int (pe_callB call_len_str (by rfl) T.m_len (by decide +kernel) (pa_cons (pv 0) pa_nil)) pe_int)) (pw_or1 (pt_cmpR op_notInS (pe_item_str (pv 0) pe_int (fun _ _ => rfl)) (pe_slice sl_str (pv 2) (po_some pe_int) (po_some pe_int)) (by rfl)))))) (pss_one (ps_ret pe_bl)) pss_nil)
      (pss_one (ps_ret (pe_cmpR (op_eqLNil (hu64 hr)) (pe_lc (own := [("_law_sign", 3)]) (g := gName 3) rfl sc_law_named.nd (pi_str (pv 0)) (blkOk_by (own := [("_law_sign", 3)]) (N := ["_law_name", "_law_many", "_law_signs", "_law_sign"]) (sc := defScope s_law_named) (by decide +kernel)) (fun _ _ _ _ _ => pg_name (i := 3) sc_law_named.nd rfl (Or.inl rfl)) (fun _ _ _ _ _ => (pts_one (pt_cmpR op_notInS (pv 3) (pv 2) (by rfl)))) (fun _ _ _ _ _ => (pv 3))) (pe_lst pa_nil) (nomark _)))))), ?_⟩
  have hs : ("->" : Str) = Str.ofString "->" := rfl
  refine q_when (b := decide (x = ("->" : Str))) (et_is (et_test (ev_op (ev_var rfl) ev_c (rv_eq rfl))) (by
    rw [Bool.eq_iff_iff, decide_eq_true_eq, decide_eq_true_eq]
    exact ⟨fun h => V.str.inj h, fun h => congrArg V.str h⟩)) (fun hb H1 e1 => ?_) (fun hb H1 e1 => ?_)
  · have hx2 : x = ("->" : Str) := of_decide_eq_true hb
    have hk : headOk (.str x) n = (n == 2) := by
      unfold headOk
      exact if_pos hx2
    rw [hk] at q
    refine s_ret (v := .bl (n == 2)) (ev_is (ev_op (ev_var rfl) ev_c (rv_eq rfl)) (congrArg V.bl ?_)) fun H2 e2 => q H2 (e1.trans e2)
    rw [Bool.eq_iff_iff, decide_eq_true_eq, beq_iff_eq]
    exact ⟨fun h => by have := V.int.inj h; omega, fun h => by rw [h] <;> rfl⟩
  · have hx2 : ¬ x = ("->" : Str) := of_decide_eq_false hb
    have hk : headOk (.str x) n = (nameOk x && decide (n ≤ 3)) := by
      unfold headOk
      exact if_neg hx2
    rw [hk] at q
    refine q_asg ev_c fun H2 e2 => ?_
    by_cases hl : n ≤ 3 ∧ 1 ≤ x.length ∧ x.length ≤ 8
    · have hc0 : 0 < x.cps.size := hl.2.1
      obtain ⟨c, hc⟩ : ∃ c, x.cps[0]? = some c := ⟨_, Array.getElem?_eq_getElem hc0⟩
      refine q_when (b := !decide (c ∈ capital.cps.toList)) (et_is (et_or (a := false) (b := !decide (c ∈ capital.cps.toList)) (et_is (et_test (ev_op (ev_var rfl) ev_c rv_I0)) (decide_eq_false (by omega))) fun _ => et_is (et_or (a := false) (b := !decide (c ∈ capital.cps.toList)) (et_is (et_not (a := true) (et_test (ev_chain (b := true) (c := true) ev_c (ev_lenStr (ev_var rfl) (by omega)) (rv_yes (by omega)) (fun e => nomatch e) fun e => ⟨ev_c, rv_yes (by omega)⟩))) rfl) fun _ => et_test (ev_op (ev_op (ev_var rfl) ev_c (rv_itemStr (j := 0) hc (by omega))) (ev_is (ev_slS (z := signs) (ev_var rfl) (eo_some ev_c) (eo_some ev_c) (by decide +kernel)) (congrArg V.str (by decide +kernel : cutS signs (some 26) (some 52) = capital))) rv_notInSign)) rfl) rfl) (fun hb H3 e3 => ?_) (fun hb H3 e3 => ?_)
      · refine s_ret ev_c fun H4 e4 => ?_
        have hq := q H4 (((e1.trans e2).trans e3).trans e4)
        have hn2 : nameOk x = false := by
          have hcc : decide (c ∈ capital.cps.toList) = false := by
            cases hh : decide (c ∈ capital.cps.toList) with
            | false => rfl
            | true =>
              rw [hh] at hb
              cases hb
          unfold nameOk
          rw [hc]
          show (_ && _ && decide (c ∈ capital.cps.toList) && _) = false
          rw [hcc, Bool.and_false, Bool.false_and]
        rw [hn2, Bool.false_and] at hq
        exact hq
      · have hcc : decide (c ∈ capital.cps.toList) = true := by
          cases hh : decide (c ∈ capital.cps.toList) with
          | true => rfl
          | false =>
            rw [hh] at hb
            cases hb
        refine s_ret (v := .bl (nameOk x && decide (n ≤ 3))) (ev_is (ev_eqLNil (el_lcStr (z := x) (fun i => match x.cps[i]? with | some c => !decide (c ∈ signs.cps.toList) | none => false) (fun i => match x.cps[i]? with | some c => .str ⟨#[c]⟩ | none => .non) (ev_var rfl) (by have : x.cps.size = x.length := rfl; omega) (fun _ => rfl) (fun i c H4 e4 hc => ?_) (fun i c H4 e4 hc _ => ?_))) ?_) fun H4 e4 => q H4 (((e1.trans e2).trans e3).trans e4)
        · refine et_is (et_test (ev_op (ev_var rfl) (ev_var rfl) rv_notInSign)) ?_
          rw [hc]
          rfl
        · refine ev_is (ev_var rfl) ?_
          rw [hc]
        · rw [given_none]
          refine congrArg V.bl ?_
          unfold nameOk
          rw [hc]
          show _ = ((_ && _ && decide (c ∈ capital.cps.toList) && _) && _)
          rw [hcc, decide_eq_true hl.1, decide_eq_true hl.2.1, decide_eq_true hl.2.2, Bool.and_true]
          show _ = (true && true && true && _)
          have e0 : x.cps.size = x.cps.toList.length := rfl
          rw [e0]
          exact all_range fun i c hc => by
            rw [Array.getElem?_toList] at hc
            rw [hc]
            exact Bool.not_not _
    · refine q_when (b := true) ?_ (fun hb H3 e3 => ?_) (fun hb => nomatch hb)
      · by_cases h3 : n ≤ 3
        · refine et_is (et_or (a := false) (b := true) (et_is (et_test (ev_op (ev_var rfl) ev_c rv_I0)) (decide_eq_false (by omega))) fun _ => et_is (et_or (a := true) (b := true) (et_is (et_not (a := false) (et_test (ev_chain (b := false) (c := decide (1 ≤ (x.length : Int))) ev_c (ev_lenStr (ev_var rfl) (by omega)) rv_I0 (fun e => rfl) fun e => ⟨ev_c, rv_no (by
            have h1 : (1 : Int) ≤ (x.length : Int) := of_decide_eq_true e
            omega)⟩))) rfl) fun e => nomatch e) rfl) rfl
        · exact et_is (et_or (a := true) (b := true) (et_is (et_test (ev_op (ev_var rfl) ev_c rv_I0)) (decide_eq_true (by omega))) fun e => nomatch e) rfl
      · refine s_ret ev_c fun H4 e4 => ?_
        have hq := q H4 (((e1.trans e2).trans e3).trans e4)
        have hn2 : (nameOk x && decide (n ≤ 3)) = false := by
          cases hh : (nameOk x && decide (n ≤ 3)) with
          | false => rfl
          | true =>
            exfalso
            unfold nameOk at hh
            simp only [Bool.and_eq_true, decide_eq_true_eq] at hh
            omega
        rw [hn2] at hq
        exact hq
end
end K1
set_option Elab.async false
set_option linter.all false
set_option maxRecDepth 100000
set_option maxHeartbeats 4000000
namespace K1
open PySem PySem.Spec PyProof.Rows L2 Evl Sl
section
variable {P : Program} {w : World} {K : PySem.W.Frag} {mg : Str → Option Value} {base : Heap}
theorem el_if {σ : L2.St} {H : Hp} {t : TT} {ta tb : TE} {xs : List V} (h : EvT t σ H true) (h1 : EvL ta σ H xs) : EvL (tIf t ta tb) σ H xs := fun H1 e Q q => h H1 e _ fun H2 e2 => by
  show ta σ H2 Q
  exact h1 H2 (e.trans e2) Q fun p H3 hp e3 h3 => q p H3 (fresh_back e2 hp) (e2.trans e3) h3
/-! ### _law_look -/
def endLook (H : Hp) (Q : VK) : Option (Nat × Nat) → Prop
  | none => ∀ H', Ex H H' → Q .non H'
  | some (c, h) => ∀ p H', H p = none → Ex H H' → H' p = some (.lst [.int (c : Int), .int (h : Int)]) → Q (.ref p) H'
def spLook (n : Nat) : Sp := fun vs H Q _ => ∃ (S : Addr → Prop) (v : V) (d : PyData), vs = [v] ∧ Da S H v d ∧ Sz d ∧ d.depth < n ∧ endLook H Q (lookD d)
/-- what a row of the list p is -/
def RowAt (D : Addr) (v : V) (H : Hp) : Option (Nat × Nat) → Prop
  | none => v = .non
  | some (c, h) => ∃ l, v = .ref l ∧ l ≠ D ∧ H l = some (.lst [.int (c : Int), .int (h : Int)])
theorem RowAt.keep {D : Addr} {v : V} {H H' : Hp} (k : Kp (fun a => a = D) H H') : ∀ {o : Option (Nat × Nat)}, RowAt D v H o → RowAt D v H' o
  | none, h => h
  | some (c, h), ⟨l, e, n, r⟩ => ⟨l, e, n, k _ _ n r⟩
def rowD : Option (Nat × Nat) → PyData
  | none => .none
  | some (c, h) => .list [.int (c : Int), .int (h : Int)]
theorem RowAt.dp {D : Addr} {v : V} {H : Hp} : ∀ {o : Option (Nat × Nat)}, RowAt D v H o → Dp K H v (rowD o)
  | none, h => by
    cases h
    exact .non
  | some (c, h), ⟨l, e, n, r⟩ => by
    cases e
    exact .lst (sq_of r) (.cons (.int _) (.cons (.int _) .nil))
theorem Paired.dp {D : Addr} {H : Hp} : ∀ {vs : List V} {os : List (Option (Nat × Nat))}, Paired (fun v o => RowAt D v H o) vs os → DpAll K H vs (os.map rowD)
  | _, _, .nil => .nil
  | _, _, .cons r t => .cons r.dp (Paired.dp t)
theorem rowD_lay : ∀ o : Option (Nat × Nat), (rowD o).canLay0 = true ∧ (rowD o).depth ≤ 1
  | none => ⟨rfl, Nat.zero_le _⟩
  | some (c, h) => ⟨by simp [rowD, PyData.canLay0, PyData.canLayAll0], Nat.le_refl _⟩
theorem rows_lay : ∀ os : List (Option (Nat × Nat)), PyData.canLayAll0 (os.map rowD) = true ∧ PyData.depthAll (os.map rowD) ≤ 1
  | [] => ⟨rfl, Nat.zero_le _⟩
  | o :: os => by
    have h1 := rowD_lay o
    have h2 := rows_lay os
    constructor
    · rw [List.map_cons, PyData.canLayAll0, h1.1, h2.1] <;> rfl
    · show max _ _ ≤ 1
      omega
theorem rows_none (os : List (Option (Nat × Nat))) : ((os.map rowD).any fun z => PyData.eqv z .none) = os.any fun o => o.isNone := by
  rw [List.any_map]
  refine congrArg (os.any ·) (funext fun o => ?_)
  cases o with
  | none => rfl
  | some p => rfl
theorem looks_none : ∀ ds : List PyData, ((ds.map lookD).any fun o => o.isNone) = !wfAll ds
  | [] => rfl
  | d :: ds => by
    rw [List.map_cons, List.any_cons, looks_none ds]
    show _ = !(wf d && wfAll ds)
    unfold lookD
    cases wf d <;> rfl
theorem hgtAll_max : ∀ ds : List PyData, (∀ y, y ∈ (0 : Int) :: ds.map (fun d => (hgt d : Int)) → y ≤ (hgtAll ds : Int)) ∧ (hgtAll ds : Int) ∈ (0 : Int) :: ds.map (fun d => (hgt d : Int))
  | [] => ⟨(fun y h => by
      cases h with
      | head => exact Int.le_refl _
      | tail _ h => cases h), List.mem_cons_self⟩
  | d :: ds => by
    obtain ⟨h1, h2⟩ := hgtAll_max ds
    have hm : hgtAll (d :: ds) = max (hgt d) (hgtAll ds) := rfl
    constructor
    · intro y hy
      rw [hm]
      rw [List.map_cons, List.mem_cons, List.mem_cons] at hy
      rcases hy with e | e | e
      · have := Nat.zero_le (max (hgt d) (hgtAll ds))
        omega
      · omega
      · have := h1 y (List.mem_cons_of_mem _ e)
        omega
    · rw [hm]
      rw [List.map_cons]
      rw [List.mem_cons] at h2
      by_cases hc : hgtAll ds ≤ hgt d
      · rw [Nat.max_eq_left hc]
        exact List.mem_cons_of_mem _ List.mem_cons_self
      · rw [Nat.max_eq_right (by omega)]
        rcases h2 with e | e
        · rw [e]
          exact List.mem_cons_self
        · exact List.mem_cons_of_mem _ (List.mem_cons_of_mem _ e)
theorem ok_law_look (T : Tx K mg) : ∀ n : Nat, FnOk P w K mg base CX0 (n + 1) T.law_look.f T.law_look.fd ["_law_value"] (spLook n)
  | 0 => (fn_none fun vs H Q E h => by
    obtain ⟨S, v, d, _, _, _, h, _⟩ := h
    exact absurd h (Nat.not_lt_zero _)).mono (Nat.zero_le _)
  | n + 1 => by
    have G_law_look := ok_law_look T n
    have G_law_named := ok_law_named (P := P) (w := w) (base := base) T
    refine T.law_look.F.ok sc_law_look (fun vs H Q E h => ?_) (fun cdv A outer s H vs Q E hr h => ?_)
    · obtain ⟨S, v, d, rfl, _⟩ := h
      rfl
    obtain ⟨S, v, d, rfl, hd, hz, hdp, q⟩ := h
    refine ⟨_, pss_cons (ps_if (PW.pt (pw_or (pt_val (pe_callB call_isi (by rfl) T.m_isinstance (by decide +kernel) (pa_cons (pv 0) (pa_cons (pe_bltn (v := .ty "bool") (by rfl) T.m_bool (by decide +kernel) rfl) pa_nil)))) (pw_or1 (pt_not (pt_val (pe_callB call_isiT (by rfl) T.m_isinstance (by decide +kernel) (pa_cons (pv 0) (pa_cons (pe_tup (pa_cons (pe_bltn (v := .ty "int") (by rfl) T.m_int (by decide +kernel) rfl) (pa_cons (pe_bltn (v := .ty "tuple") (by rfl) T.m_tuple (by decide +kernel) rfl) pa_nil))) pa_nil)))))))) (pss_one (ps_ret pe_non)) pss_nil)
      (pss_cons (ps_if (pt_val (pe_callB call_isi (by rfl) T.m_isinstance (by decide +kernel) (pa_cons (pv 0) (pa_cons (pe_bltn (v := .ty "int") (by rfl) T.m_int (by decide +kernel) rfl) pa_nil)))) (pss_one (ps_ret (pe_ifExp (pt_chain op_le op_le pe_int (pv 0) pe_int) (pe_lst (pa_cons pe_int (pa_cons pe_int pa_nil))) pe_non))) pss_nil)
      (pss_cons (ps_if (PW.pt (pw_or (pt_cmpR (op_eqNil (hu64 hr)) (pv 0) (pe_tup pa_nil) (nomark _)) (pw_or (pt_not (pt_val (pe_callB call_isi (by rfl) T.m_isinstance (by decide +kernel) (pa_cons (pe_ix ix_tup (pv 0) pe_int (fun _ _ => rfl)) (pa_cons (pe_bltn (v := .ty "str") (by rfl) T.m_str (by decide +kernel) rfl) pa_nil))))) (pw_or1 (pt_not (pt_val (pe_call G_law_named (hr.mono (by omega)) (by rfl) T.law_named.g T.law_named.F.kp T.law_named.b .nil pass0 (pa_cons (pe_ix ix_tup (pv 0) pe_int (fun _ _ => rfl)) (pa_cons (pe_op op_sub (pe_callB call_len_seq (by rfl) T.m_len (by decide +kernel) (pa_cons (pv 0) pa_nil)) pe_int) pa_nil))))))))) (pss_one (ps_ret pe_non)) pss_nil)
      (pss_cons (ps_setLc (i := 1) (own := [("_law_part", 2)]) (g := gName 2) rfl sc_law_look.nd rfl rfl (sw_true rfl rfl rfl (by decide +kernel)) (pi_tup (pe_slice sl_tupA (pv 0) (po_some pe_int) po_none)) (blkOk_by (own := [("_law_part", 2)]) (N := ["_law_value", "_law_rows", "_law_part", "_law_row"]) (sc := defScope s_law_look) (by decide +kernel)) (fun _ _ _ _ _ => pg_name (i := 2) sc_law_look.nd rfl (Or.inl rfl)) (fun _ _ _ _ _ => pts_nil) (fun _ _ _ _ _ => (pe_call G_law_look (hr.mono (by omega)) (by rfl) T.law_look.g T.law_look.F.kp T.law_look.b .nil pass0 (pa_cons (pv 2) pa_nil))))
      (pss_cons (ps_if (pt_cmpR (op_inD (hu65 hr)) pe_non (pv 1) (by rfl)) (pss_one (ps_ret pe_non)) pss_nil)
      (pss_one (ps_ret (pe_lst (pa_cons (pe_op op_add pe_int (pe_callB (cr_sum rfl) (by rfl) T.m_sum (by decide +kernel) (pa_cons (pe_lc (own := [("_law_row", 3)]) (g := gName 3) rfl sc_law_look.nd (pi_list (pv 1)) (blkOk_by (own := [("_law_row", 3)]) (N := ["_law_value", "_law_rows", "_law_part", "_law_row"]) (sc := defScope s_law_look) (by decide +kernel)) (fun _ _ _ _ _ => pg_name (i := 3) sc_law_look.nd rfl (Or.inl rfl)) (fun _ _ _ _ _ => pts_nil) (fun _ _ _ _ _ => (pe_ix (show IxR _ (rIxL K) from ix_list) (pv 3) pe_int (fun _ _ => rfl)))) pa_nil))) (pa_cons (pe_op op_add pe_int (pe_callB (cr_max rfl) (by rfl) T.m_max (by decide +kernel) (pa_cons (pe_op op_cat (pe_lst (pa_cons pe_int pa_nil)) (pe_lc (own := [("_law_row", 3)]) (g := gName 3) rfl sc_law_look.nd (pi_list (pv 1)) (blkOk_by (own := [("_law_row", 3)]) (N := ["_law_value", "_law_rows", "_law_part", "_law_row"]) (sc := defScope s_law_look) (by decide +kernel)) (fun _ _ _ _ _ => pg_name (i := 3) sc_law_look.nd rfl (Or.inl rfl)) (fun _ _ _ _ _ => pts_nil) (fun _ _ _ _ _ => (pe_ix (show IxR _ (rIxL K) from ix_list) (pv 3) pe_int (fun _ _ => rfl))))) pa_nil))) pa_nil))))))))), ?_⟩
    have qn : wf d = false → ∀ H', Ex H H' → Q .non H' := fun hw => by
      unfold lookD at q
      rw [hw] at q
      exact q
    have qs : wf d = true → ∀ p H', H p = none → Ex H H' → H' p = some (.lst [.int (cnt d : Int), .int (hgt d : Int)]) → Q (.ref p) H' := fun hw => by
      unfold lookD at q
      rw [hw] at q
      exact q
    refine q_when (et_or (et_B (ev_isi (ev_var rfl) hd (kit_bool d))) fun _ => et_not (et_B (ev_isi2 (ev_var rfl) hd (kit_int d) (kit_tuple d)))) (fun hb H1 e1 => ?_) (fun hb H1 e1 => ?_)
    · refine s_ret ev_c fun H2 e2 => qn ?_ H2 (e1.trans e2)
      cases d <;> first | rfl | cases hb
    refine q_when (et_B (ev_isi (ev_var rfl) (hd.same e1) (kit_int d))) (fun hb2 H2 e2 => ?_) (fun hb2 H2 e2 => ?_)
    · cases hd with
      | int i =>
        have hw : wf (.int i) = (decide (0 ≤ i) && decide (i ≤ 199)) := rfl
        have e12 := e1.trans e2
        cases hh : (decide (0 ≤ i) && decide (i ≤ 199)) with
        | true =>
          have hh2 : 0 ≤ i ∧ i ≤ 199 := by
            rw [Bool.and_eq_true, decide_eq_true_eq, decide_eq_true_eq] at hh
            exact hh
          exact s_retL (el_if (et_test (ev_chain (b := true) (c := true) ev_c (ev_var rfl) (rv_yes hh2.1) (fun e => nomatch e) fun e => ⟨ev_c, rv_yes hh2.2⟩)) (el_lst (ea_cons ev_c (ea_cons ev_c ea_nil)) (by show 2 ≤ 100000; decide))) fun p H4 hp e4 h4 => qs (hw.trans hh) p H4 (fresh_back e12 hp) (e12.trans e4) h4
        | false =>
          exact s_ret (ev_if (b := false) (et_test (ev_is (ev_chain (b := (decide (0 ≤ i) && decide (i ≤ 199))) (c := decide (0 ≤ i)) ev_c (ev_var rfl) rv_I0 (fun e => by rw [e] <;> rfl) fun e => ⟨ev_c, by rw [e, Bool.true_and]; exact rv_I0⟩) (congrArg V.bl hh))) (fun e => nomatch e) fun _ => ev_c) fun H4 e4 => qn (hw.trans hh) H4 (e12.trans e4)
      | tup => cases hb2
      | _ => cases hb
    cases hd with
    | @tup a xs ds na ha hda =>
      have e12 := e1.trans e2
      have ha2 := e12 _ _ ha
      have hw : 1 + wtAll ds ≤ 20000 := hz
      have hwd := wtAll_drop ds
      have hlen := hda.length
      have hdp2 : PyData.depthAll ds + 1 < n + 1 := hdp
      have hda2 := hda.same e12
      cases hda with
      | nil =>
        refine q_when (b := true) (et_or (a := true) (b := true) (et_test (ev_eqNil (ev_var rfl) (st_of ha2))) fun e => nomatch e) (fun hb H3 e3 => ?_) (fun hb => nomatch hb)
        exact s_ret ev_c fun H4 e4 => qn rfl H4 ((e12.trans e3).trans e4)
      | @cons x0 xs2 d0 ds2 h0 hr2 =>
        have hw3 : 1 + (wt d0 + wtAll ds2) ≤ 20000 := hz
        have hwl := wtAll_len ds2
        have hl2 : xs2.length = ds2.length := hr2.length
        have hix : ∀ {H3 : Hp}, Ex H2 H3 → Ev (tOp (rIxT K) (tVar 0) (tC (V.int 0))) [some (V.ref a), none, none, none] H3 x0 := fun e3 => ev_op (ev_var rfl) ev_c (rv_ixT (K := K) (st_of (e3 _ _ ha2)) (at_of (j := 0) rfl rfl))
        refine q_when (b := !headOk d0 ds2.length) ?_ (fun hb3 H3 e3 => ?_) (fun hb3 H3 e3 => ?_)
        · refine et_is (et_or (a := false) (b := !headOk d0 ds2.length) (et_test (ev_eqNil (ev_var rfl) (st_of ha2))) fun _ => et_is (et_or (a := !isStr d0) (b := !headOk d0 ds2.length) (et_not (et_B (ev_isi (hix (Ex.refl _)) (h0.same e12) (kit_str d0)))) fun hs => ?_) ?_) rfl
          · cases h0 with
            | str z =>
              have hz3 : 1 + z.length + wtAll ds2 ≤ 20000 := by
                have : wt (.str z) = 1 + z.length := rfl
                omega
              refine et_not (et_B (ev_call (vs := [.str z, .int (ds2.length : Int)]) (ea_cons (hix (Ex.refl _)) (ea_cons ?_ ea_nil)) ?_))
              · refine ev_is (ev_op (ev_lenS (ev_var rfl) (.inr (st_of ha2))) ev_c rv_I0) (congrArg V.int ?_)
                rw [List.length_cons, hl2]
                omega
              · intro H3 e3 Q' q' E'
                exact ⟨z, ds2.length, rfl, by omega, by omega, fun H4 e4 => q' H4 e4⟩
            | _ => cases hs
          · cases hs : isStr d0 with
            | true => rfl
            | false =>
              have : headOk d0 ds2.length = false := by
                cases d0 <;> first | rfl | cases hs
              rw [this] <;> rfl
        · have hh : headOk d0 ds2.length = false := by
            cases hh : headOk d0 ds2.length with
            | false => rfl
            | true =>
              rw [hh] at hb3
              cases hb3
          refine s_ret ev_c fun H4 e4 => qn ?_ H4 ((e12.trans e3).trans e4)
          show (headOk d0 ds2.length && _) = false
          rw [hh, Bool.false_and]
        · have hh : headOk d0 ds2.length = true := by
            cases hh : headOk d0 ds2.length with
            | true => rfl
            | false =>
              rw [hh] at hb3
              cases hb3
          have e13 := e12.trans e3
          have hwf : wf (.tuple (d0 :: ds2)) = wfAll ds2 := by
            show (headOk d0 ds2.length && wfAll ds2) = _
            rw [hh, Bool.true_and]
          refine q_asgR (fun v H' => ∃ p us, v = .ref p ∧ Ex H3 H' ∧ H3 p = none ∧ H' p = some (.lst us) ∧ Paired (fun v o => RowAt p v H' o) us (ds2.map lookD)) (fun Q' q' => ?_) ?_
          · refine eg_lcW (K := K) (xs := (x0 :: xs2).drop 1) (G := fun D i v H' => ∀ d2, ds2[i]? = some d2 → RowAt D v H' (lookD d2)) (fun D i v H1 H2 k g d2 h => (g d2 h).keep k) (ew_from (k := 1) (ev_var rfl) ev_c (e3 _ _ ha2)) (by show xs2.length ≤ 40000; omega) (fun _ => rfl) (fun D hD i x H4 e4 hus hx => ?_) H3 (Ex.refl _) Q' (fun p us H4 hp e4 h4 its => q' _ _ ⟨p, us, rfl, e4, hp, h4, ?_⟩)
            · obtain ⟨us, hus⟩ := hus
              have hx : xs2[i]? = some x := hx
              obtain ⟨d2, hd2, hx2⟩ := (hr2.same (e13.trans e4)).get hx
              have hw2 := wtAll_get hd2
              have hdd := depthAll_get hd2
              have hdm : PyData.depthAll ds2 ≤ PyData.depthAll (d0 :: ds2) := Nat.le_max_right _ _
              intro H5 e5 Q2 q2
              refine ea_cons (ev_var rfl) ea_nil H5 (Ex.refl _) _ fun H6 e6 => ⟨S, x, d2, rfl, hx2.same (e5.trans e6), (by show wt d2 ≤ 20000; omega), (by omega), ?_⟩
              cases hlk : lookD d2 with
              | none =>
                exact fun H7 e7 => q2 _ H7 (e6.trans e7) fun d3 hd3 => by
                  rw [hd2] at hd3
                  cases hd3
                  rw [hlk]
                  rfl
              | some ch =>
                obtain ⟨c, h⟩ := ch
                exact fun p H7 hp e7 h7 => q2 _ H7 (e6.trans e7) fun d3 hd3 => by
                  rw [hd2] at hd3
                  cases hd3
                  rw [hlk]
                  exact ⟨p, rfl, (fun e => by
                    rw [e, e6 _ _ (e5 _ _ hus)] at hp
                    cases hp), h7⟩
            · refine its_paired its (by rw [List.length_map, ← hl2]; rfl) fun i v o ho g => ?_
              rw [List.getElem?_map] at ho
              cases hj : ds2[i]? with
              | none =>
                rw [hj] at ho
                cases ho
              | some d2 =>
                rw [hj] at ho
                have : lookD d2 = o := Option.some.inj ho
                rw [← this]
                exact g d2 hj
          rintro _ H4 ⟨p, us, rfl, e4, hp3, hp, hpr⟩
          have e14 := e13.trans e4
          have lu : us.length = ds2.length := by
            have := hpr.length
            rw [List.length_map] at this
            exact this
          refine q_when (b := !wfAll ds2) (et_test (ev_op ev_c (ev_var rfl) (rv_val fun H5 e5 Q' q' => ⟨.none, (ds2.map lookD).map rowD, .non, .lst (sq_of (e5 _ _ hp)) (Paired.dp (D := p) (Paired.keepP (fun a b r => RowAt.keep (Kp.of e5) r) hpr)), (by decide), ?_, ?_⟩))) (fun hb4 H5 e5 => ?_) (fun hb4 H5 e5 => ?_)
          · have hrl := rows_lay (ds2.map lookD)
            show (_ && _) = true
            rw [Bool.and_eq_true, decide_eq_true_eq]
            refine ⟨by simpa [PyData.canLay0] using hrl.1, ?_⟩
            show PyData.depthAll _ + 1 ≤ 64
            omega
          · rw [rows_none, looks_none]
            exact q'
          · refine s_ret ev_c fun H6 e6 => qn ?_ H6 ((e14.trans e5).trans e6)
            rw [hwf]
            cases hh2 : wfAll ds2 with
            | false => rfl
            | true =>
              rw [hh2] at hb4
              cases hb4
          · have hwa : wfAll ds2 = true := by
              cases hh2 : wfAll ds2 with
              | true => rfl
              | false =>
                rw [hh2] at hb4
                cases hb4
            have hrow : ∀ {i : Nat} {x : V}, us[i]? = some x → ∃ d2 l, ds2[i]? = some d2 ∧ x = .ref l ∧ H4 l = some (.lst [.int (cnt d2 : Int), .int (hgt d2 : Int)]) := fun {i x} hx => by
              obtain ⟨o, ho, r⟩ := paired_get hpr hx
              rw [List.getElem?_map] at ho
              cases hj : ds2[i]? with
              | none =>
                rw [hj] at ho
                cases ho
              | some d2 =>
                rw [hj] at ho
                have ho : lookD d2 = o := Option.some.inj ho
                subst ho
                have hl : lookD d2 = some (cnt d2, hgt d2) := by
                  unfold lookD
                  rw [wf_get hwa hj]
                  rfl
                rw [hl] at r
                obtain ⟨l, e, _, r⟩ := r
                exact ⟨d2, l, rfl, e, r⟩
            have hp5 := e5 _ _ hp
            have lz : us.length ≤ 40000 := by omega
            have col : ∀ (k : Nat) (f : PyData → Nat), (∀ d2 : PyData, ([V.int (cnt d2 : Int), V.int (hgt d2 : Int)] : List V)[k]? = some (V.int (f d2 : Int))) → EvL (tLc (iList K (tVar 1)) (gName 3) tYes (tOp (rIxL K) (tVar 3) (tC (V.int (k : Int)))) [3]) [some (V.ref a), some (V.ref p), none, none] H5 ((ds2.map fun d => (f d : Int)).map V.int) := fun k f hk => by
              rw [List.map_map]
              have e := list_of_get (xs := us) (ds := ds2) (g := fun d => V.int (f d : Int)) lu (fun i => match ds2[i]? with | some d => V.int (f d : Int) | none => .non) (fun i d h => by
                show (match ds2[i]? with | some d => V.int (f d : Int) | none => .non) = _
                rw [h])
              show EvL _ _ _ (ds2.map (fun d => V.int (f d : Int)))
              rw [← e]
              refine el_lcL (fun _ => true) _ (ev_var rfl) (sq_of hp5) lz (fun _ => rfl) (fun _ _ _ _ _ => et_yes) (fun i x H6 e6 hx _ => ?_)
              obtain ⟨d2, l, hd2, rfl, hl⟩ := hrow hx
              show Ev _ _ _ (match ds2[i]? with | some d => V.int (f d : Int) | none => .non)
              rw [hd2]
              exact ev_op (ev_var rfl) ev_c (rv_ixL (sq_of (e6 _ _ (e5 _ _ hl))) (at_of (j := k) (by
                have := (List.getElem?_eq_some_iff.mp (hk d2)).1
                simp at this
                omega) (hk d2)))
            refine s_retL (el_lst (ea_cons (ev_op ev_c (ev_sum (col 0 cnt fun _ => rfl)) rv_I0) (ea_cons (ev_op ev_c (ev_maxL (ns := (0 : Int) :: ds2.map fun d => (hgt d : Int)) (m := (hgtAll ds2 : Int)) (el_cat (xs := [V.int 0]) (el_lst (ea_cons ev_c ea_nil) (by show 1 ≤ 100000; decide)) (col 1 hgt fun _ => rfl) (by rw [List.length_map, List.length_map, List.length_singleton]; omega)) (Nat.succ_pos _) ?_) rv_I0) ea_nil)) (by show 2 ≤ 100000; decide)) fun r H6 hr6 e6 h6 => ?_
            · intro z hz hz2
              obtain ⟨h1, h2⟩ := hgtAll_max ds2
              have := h1 z hz
              have := hz2 _ h2
              omega
            · refine qs (hwf.trans hwa) r H6 (fresh_back (e14.trans e5) hr6) ((e14.trans e5).trans e6) ?_
              rw [h6, ← cntAll_sum]
              show some (HO.lst [.int (1 + (cntAll ds2 : Int)), .int (1 + (hgtAll ds2 : Int))]) = some (HO.lst [.int ((1 + cntAll ds2 : Nat) : Int), .int ((1 + hgtAll ds2 : Nat) : Int)])
              rw [Int.natCast_add, Int.natCast_add]
              rfl
    | int => cases hb2
    | _ => cases hb
end
end K1
set_option Elab.async false
set_option linter.all false
set_option maxRecDepth 100000
set_option maxHeartbeats 4000000
namespace K1
open PySem PySem.Spec PyProof.Rows L2 Evl Sl
section
variable {P : Program} {w : World} {K : PySem.W.Frag} {mg : Str → Option Value} {base : Heap}
/-! ### what the law draws: data whose text is not too long -/
mutual
def okD (m : Bool) : PyData → Bool
  | .none => true
  | .bool _ => true
  | .int i => decide (i.natAbs.log2 < 1920)
  | .str x => x.cps.toList.all fun c => decide (c < 16 ^ 8)
  | .list xs => m && okAll m xs
  | .tuple xs => okAll m xs
  | .dict kvs => !m && kvs.isEmpty
def okAll (m : Bool) : List PyData → Bool
  | [] => true
  | x :: xs => okD m x && okAll m xs
end
mutual
/-- a variable, or a tuple that is not empty, whose parts are such -/
def treeD : PyData → Bool
  | .int _ => true
  | .tuple xs => treeTl xs
  | .none | .bool _ | .str _ | .list _ | .dict _ => false
def treeTl : List PyData → Bool
  | [] => false
  | _ :: xs => treeAll xs
def treeAll : List PyData → Bool
  | [] => true
  | x :: xs => treeD x && treeAll xs
end
theorem treeAll_app : ∀ a b : List PyData, treeAll (a ++ b) = (treeAll a && treeAll b)
  | [], b => rfl
  | x :: a, b => by
    show (treeD x && treeAll (a ++ b)) = (treeD x && treeAll a && treeAll b)
    rw [treeAll_app a b, Bool.and_assoc]
def pureD (d : PyData) : Prop := okD true d = true ∧ okD false d = true ∧ treeD d = true ∧ wf d = true
def Occ (S : Addr → Prop) (H : Hp) : Prop := ∀ a, S a → H a ≠ none
theorem Occ.kp {S : Addr → Prop} {H H' : Hp} {p : Addr} (o : Occ S H) (k : Kp (fun a => a = p) H H') (d : Drawn H' p) : Occ S H' := fun a h => by
  by_cases e : a = p
  · rw [e]
    exact d.some
  · cases hh : H a with
    | none => exact absurd hh (o a h)
    | some x =>
      rw [k _ _ e hh]
      intro z
      cases z
theorem Occ.ex {S : Addr → Prop} {H H' : Hp} (o : Occ S H) (e : Ex H H') : Occ S H' := fun a h => by
  cases hh : H a with
  | none => exact absurd hh (o a h)
  | some x =>
    rw [e _ _ hh]
    intro z
    cases z
/-- what is drawn: p alone is changed -/
def EvD (p : Addr) (te : TE) (σ : L2.St) (H : Hp) (R : V → Hp → Prop) : Prop := ∀ Q : VK, (∀ v H', Kp (fun a => a = p) H H' → Drawn H' p → R v H' → Q v H') → te σ H Q
theorem ed_next {p : Addr} {σ : L2.St} {H : Hp} {ta tb : TE} {m : Int} {E : XK} (hp : Drawn H p) (ha : Ev ta σ H (.ref p)) (hb : Ev tb σ H (.int m)) (h1 : 1 ≤ m) (h2 : m ≤ 1000000) :
    EvD p (tCall spNext [] E (tCons ta (tCons tb tNil))) σ H (fun v _ => ∃ r, v = .int r ∧ 0 ≤ r ∧ r < m) := fun Q q =>
  (ea_cons ha (ea_cons hb ea_nil)) H (Ex.refl H) _ fun H2 e2 => ⟨p, m, rfl, hp.same e2, h1, h2, fun r H' h0 h1 k d => q _ _ ((Kp.of e2).trans k) d ⟨r, rfl, h0, h1⟩⟩
theorem ed_one {p : Addr} {σ : L2.St} {H : Hp} {ta tl : TE} {xs : List V} {E : XK} (hp : Drawn H p) (ha : Ev ta σ H (.ref p)) (hl : EvL tl σ H xs) (h1 : 1 ≤ xs.length) (h2 : xs.length ≤ 1000) :
    EvD p (tCall spOne [] E (tCons ta (tCons tl tNil))) σ H (fun v _ => v ∈ xs) := fun Q q =>
  ha H (Ex.refl H) _ fun H1 e1 => hl H1 e1 _ fun l H2 hl e2 h2' => ⟨p, l, xs, rfl, hp.same (e1.trans e2), h2', fun e => (hp.same e1).some (by rw [← e]; exact hl), h1, h2, fun v H' hv k d => q v H' ((Kp.of (e1.trans e2)).trans k) d hv⟩
theorem q_whenD {σ : L2.St} {H : Hp} {t : TT} {D : Ends} {tu tz : TS} (R : Bool → Hp → Prop) (h : ∀ Q : Bool → Hp → Prop, (∀ b H', R b H' → Q b H') → t σ H Q) (h1 : ∀ H1, R true H1 → tu { D with nx := tz D } σ H1) (h2 : ∀ H1, R false H1 → tz D σ H1) : tSeq (tIfS t tu tNext) tz D σ H :=
  h _ fun b H1 r => by
    cases b with
    | true => exact h1 H1 r
    | false => exact h2 H1 r
/-- a tuple made now -/
theorem new_tup {S : Addr → Prop} {H : Hp} {a : Addr} {xs : List V} {ds : List PyData} (ha : H a = none) (o : Occ S H) (h : DaAll S H xs ds) : Da S (upd H a (.tup xs)) (.ref a) (.tuple ds) :=
  .tup (fun s => o a s ha) upd_same (h.same (Ex.new ha))
theorem nat_log {r : Int} {k : Nat} (h0 : 0 ≤ r) (h1 : r < 2 ^ (k + 1)) : r.natAbs.log2 ≤ k := by
  by_cases hz : r.natAbs = 0
  · rw [hz]
    exact Nat.zero_le _
  · have h2 : r.natAbs < 2 ^ (k + 1) := by
      have : (r.natAbs : Int) = r := Int.natAbs_of_nonneg h0
      have h3 : ((2 ^ (k + 1) : Nat) : Int) = (2 : Int) ^ (k + 1) := by push_cast; rfl
      omega
    have := (Nat.log2_lt hz).mpr h2
    omega
theorem ev_min2 {σ : L2.St} {H : Hp} {ta tb : TE} {i j : Int} (ha : Ev ta σ H (.int i)) (hb : Ev tb σ H (.int j)) : Ev (tCB (fun xs H Q => ∃ i j, xs = [V.int i, V.int j] ∧ Q (V.int (if j < i then j else i)) H) (tCons ta (tCons tb tNil))) σ H (.int (if j < i then j else i)) := fun H1 e Q q =>
  ha H1 e _ fun H2 e2 => hb H2 (e.trans e2) _ fun H3 e3 => ⟨i, j, rfl, q H3 (e2.trans e3)⟩
def spLeaf : Sp := fun vs H Q _ => ∃ (p : Addr) (lim : Int) (S : Addr → Prop), vs = [.ref p, .int lim] ∧ Drawn H p ∧ 1 ≤ lim ∧ lim ≤ 200 ∧ S p ∧ Occ S H ∧ ∀ v d H', Kp (fun a => a = p) H H' → Drawn H' p → Da S H' v d → pureD d → wt d ≤ 10 → d.depth ≤ 1 → Q v H'
theorem ok_law_leaf (T : Tx K mg) : FnOk P w K mg base CX0 3 T.law_leaf.f T.law_leaf.fd ["_law_drawn", "_law_limit"] spLeaf := by
  have G_law_next := ok_law_next (P := P) (w := w) (base := base) T
  have G_law_one := ok_law_one (P := P) (w := w) (base := base) T
  refine T.law_leaf.F.ok sc_law_leaf (fun vs H Q E h => ?_) (fun cdv A outer s H vs Q E hr h => ?_)
  · obtain ⟨p, lim, S, rfl, _⟩ := h
    rfl
  obtain ⟨p, lim, S, rfl, hp, h1, h2, hS, hO, q⟩ := h
  refine ⟨_, pss_cons (ps_if (pt_cmpR op_gt (pe_call G_law_next (hr.mono (by omega)) (by rfl) T.law_next.g T.law_next.F.kp T.law_next.b .nil pass0 (pa_cons (pv 0) (pa_cons pe_int pa_nil))) pe_int (nomark _)) (pss_one (ps_ret (pe_call G_law_next (hr.mono (by omega)) (by rfl) T.law_next.g T.law_next.F.kp T.law_next.b .nil pass0 (pa_cons (pv 0) (pa_cons (pv 1) pa_nil))))) pss_nil)
      (pss_one (ps_ret (pe_tup (pa_cons (pe_call G_law_one (hr.mono (by omega)) (by rfl) T.law_one.g T.law_one.F.kp T.law_one.b .nil pass0 (pa_cons (pv 0) (pa_cons (pe_lst (pa_cons pe_str (pa_cons pe_str (pa_cons pe_str (pa_cons pe_str (pa_cons pe_str pa_nil)))))) pa_nil))) pa_nil)))), ?_⟩
  refine q_whenD (fun _ H' => Kp (fun a => a = p) H H' ∧ Drawn H' p) (fun Q' q' => (ed_next hp (ev_var rfl) ev_c (by decide) (by decide)) _ fun v H' k d hr => ?_) (fun H1 h => ?_) (fun H1 h => ?_)
  · obtain ⟨r, rfl, r0, r1⟩ := hr
    exact ⟨r, 0, rfl, rfl, _, rfl, q' _ _ ⟨k, d⟩⟩
  · obtain ⟨k, d⟩ := h
    refine (ed_next d (ev_var rfl) (ev_var rfl) h1 (by omega)) _ fun v H' k2 d2 hr => ?_
    obtain ⟨r, rfl, r0, r1⟩ := hr
    have hl : r.natAbs.log2 ≤ 7 := nat_log r0 (by have : (2 : Int) ^ (7 + 1) = 256 := by decide
                                                  omega)
    refine q (.int r) (.int r) H' (k.trans k2) d2 (.int r) ?_ ?_ (Nat.zero_le _)
    · have hd : decide (r.natAbs.log2 < 1920) = true := decide_eq_true (by omega)
      exact ⟨hd, hd, rfl, (by show (decide (0 ≤ r) && decide (r ≤ 199)) = true; rw [decide_eq_true r0, decide_eq_true (by omega)] <;> rfl)⟩
    · show 1 + r.natAbs.log2 ≤ 10
      omega
  · obtain ⟨k, d⟩ := h
    refine (ed_one d (ev_var rfl) (el_lst (ea_cons ev_c (ea_cons ev_c (ea_cons ev_c (ea_cons ev_c (ea_cons ev_c ea_nil))))) (by show 5 ≤ 100000; decide)) (by show 1 ≤ 5; decide) (by show 5 ≤ 1000; decide)) _ fun v H' k2 d2 hv => ?_
    refine ⟨by show 1 ≤ sizeLine; decide, fun a ha => ?_⟩
    have hz : ∃ z : Str, v = .str z ∧ z.length ≤ 8 ∧ okD true (.str z) = true ∧ okD false (.str z) = true ∧ headOk (.str z) 0 = true := by
      simp only [List.mem_cons, List.not_mem_nil, or_false] at hv
      rcases hv with e | e | e | e | e <;> exact ⟨_, e, by decide +kernel, by decide +kernel, by decide +kernel, by decide +kernel⟩
    obtain ⟨z, rfl, hzl, hz1, hz2, hz3⟩ := hz
    have hO2 : Occ S H' := hO.kp (k.trans k2) d2
    refine q (.ref a) (.tuple [.str z]) _ ((k.trans k2).trans (Kp.of (Ex.new ha))) (d2.same (Ex.new ha)) (new_tup ha hO2 (.cons (.str z) .nil)) ⟨?_, ?_, rfl, (by show (headOk (.str z) 0 && true) = true; rw [hz3] <;> rfl)⟩ ?_ (Nat.le_refl _)
    · show (okD true (.str z) && true) = true
      rw [hz1] <;> rfl
    · show (okD false (.str z) && true) = true
      rw [hz2] <;> rfl
    · show 1 + (1 + z.length + 0) ≤ 10
      omega
def lv (m : Nat) : Nat := if m ≤ 15 then m else 15 + m / 8
def spSized (n : Nat) : Sp := fun vs H Q _ => ∃ (p : Addr) (m : Nat) (lim : Int) (S : Addr → Prop), vs = [.ref p, .int m, .int lim] ∧ Drawn H p ∧ 1 ≤ m ∧ m ≤ 1000 ∧ m < n ∧ 1 ≤ lim ∧ lim ≤ 200 ∧ S p ∧ Occ S H ∧ ∀ v d H', Kp (fun a => a = p) H H' → Drawn H' p → Da S H' v d → pureD d → wt d ≤ 10 * m → d.depth ≤ lv m → Q v H'
theorem q_forDown {σ : L2.St} {H : Hp} {D : Ends} {tu tz : TS} {ta : TA} {j : Nat} {i0 : Nat} (hi : i0 ≤ 100000) (h : EvA ta σ H [.int (i0 : Int), .int (-1), .int (-1)]) (Pv : Nat → L2.St → Hp → Prop) (h0 : ∀ H1, Ex H H1 → Pv 0 σ H1)
    (hs : ∀ (i : Nat) σ' H', i ≤ i0 → Pv i σ' H' → tu { D with nx := Pv (i + 1), ct := Pv (i + 1), bk := tz D } (σ'.set j (some (.int ((i0 - i : Nat) : Int)))) H') (hd : ∀ σ' H', Pv (i0 + 1) σ' H' → tz D σ' H') : tSeq (tFor (iRng3 ta) (gName j) tu) tz D σ H :=
  h H (Ex.refl H) _ fun H1 e => ⟨(i0 : Int), -1, -1, i0 + 1, rfl, (by
    have hq := RgC.neg (i := (i0 : Int)) (j := -1) (by omega) (by omega) (by decide) (by decide)
    have e2 : ((i0 : Int) - -1).toNat = i0 + 1 := by omega
    rw [e2] at hq
    exact hq), for_rangeC (D := { D with nx := tz D }) Pv (h0 H1 e) (fun i σ' H' hi p => by
    have e0 : (i0 : Int) + (i : Nat) * (-1) = ((i0 - i : Nat) : Int) := by omega
    show tu { D with nx := Pv (i + 1), ct := Pv (i + 1), bk := tz D } (σ'.set j (some (.int ((i0 : Int) + (i : Nat) * (-1))))) H'
    rw [e0]
    exact hs i σ' H' (by omega) p) hd⟩
theorem el_pick3 {σ : L2.St} {H : Hp} {L1 L2 L3 ti : TE} {x1 x2 x3 : List V} {k : Nat} (h1 : EvL L1 σ H x1) (h2 : EvL L2 σ H x2) (h3 : EvL L3 σ H x3) (hi : Ev ti σ H (.int (k : Int))) (hk : k ≤ 2) :
    ∃ xs, ((k = 0 ∧ xs = x1) ∨ (k = 1 ∧ xs = x2) ∨ (k = 2 ∧ xs = x3)) ∧ EvL (tOp (rIxL K) (tLst (tCons L1 (tCons L2 (tCons L3 tNil)))) ti) σ H xs := by
  have go : ∀ (xs : List V) (sel : Addr → Addr → Addr → Addr), (∀ p1 p2 p3, atI [V.ref p1, V.ref p2, V.ref p3] (k : Int) = some (V.ref (sel p1 p2 p3))) → (∀ (Ha Hb Hc H1 : Hp) p1 p2 p3, H1 p1 = none → Ha p2 = none → Hb p3 = none → Ex H1 Ha → Ex Ha Hb → Ex Hb Hc → Ha p1 = some (.lst x1) → Hb p2 = some (.lst x2) → Hc p3 = some (.lst x3) → H1 (sel p1 p2 p3) = none ∧ Hc (sel p1 p2 p3) = some (.lst xs)) → EvL (tOp (rIxL K) (tLst (tCons L1 (tCons L2 (tCons L3 tNil)))) ti) σ H xs := by
    intro xs sel hat hsel H1 e Q q
    refine h1 H1 e _ fun p1 Ha hp1 e1 hh1 => h2 Ha (e.trans e1) _ fun p2 Hb hp2 e2 hh2 => h3 Hb ((e.trans e1).trans e2) _ fun p3 Hc hp3 e3 hh3 => ⟨by show 3 ≤ sizeLine; decide, fun a ha => ?_⟩
    have ea := Ex.new (o := .lst [V.ref p1, V.ref p2, V.ref p3]) ha
    have eall : Ex H1 Hc := (e1.trans e2).trans e3
    obtain ⟨hn, hc⟩ := hsel Ha Hb Hc H1 p1 p2 p3 hp1 hp2 hp3 e1 e2 e3 hh1 hh2 hh3
    exact hi _ ((e.trans eall).trans ea) _ fun Hd ed => ⟨a, [V.ref p1, V.ref p2, V.ref p3], (k : Int), _, rfl, rfl, sq_of (ed _ _ upd_same), hat p1 p2 p3, q _ Hd hn ((eall.trans ea).trans ed) (ed _ _ (ea _ _ hc))⟩
  match k, hk with
  | 0, _ => exact ⟨x1, .inl ⟨rfl, rfl⟩, go x1 (fun p _ _ => p) (fun _ _ _ => rfl) fun Ha Hb Hc H1 p1 p2 p3 n1 n2 n3 e1 e2 e3 a1 a2 a3 => ⟨n1, e3 _ _ (e2 _ _ a1)⟩⟩
  | 1, _ => exact ⟨x2, .inr (.inl ⟨rfl, rfl⟩), go x2 (fun _ p _ => p) (fun _ _ _ => rfl) fun Ha Hb Hc H1 p1 p2 p3 n1 n2 n3 e1 e2 e3 a1 a2 a3 => ⟨fresh_back e1 n2, e3 _ _ a2⟩⟩
  | 2, _ => exact ⟨x3, .inr (.inr ⟨rfl, rfl⟩), go x3 (fun _ _ p => p) (fun _ _ _ => rfl) fun Ha Hb Hc H1 p1 p2 p3 n1 n2 n3 e1 e2 e3 a1 a2 a3 => ⟨fresh_back (e1.trans e2) n3, a3⟩⟩
/-- a name that may be drawn -/
def NmD (z : Str) : Prop := z.length ≤ 8 ∧ okD true (.str z) = true ∧ okD false (.str z) = true
theorem Kp.mut {p l : Addr} {H H' : Hp} {o : HO} (k : Kp (fun a => a = p) H H') (hl : H l = none) : Kp (fun a => a = p) H (upd H' l o) := fun a x n h => by
  rw [upd_ne (fun e => by
    rw [e, hl] at h
    cases h)]
  exact k a x n h
theorem Drawn.ne {H : Hp} {p l : Addr} {o : HO} (n : p ≠ l) (h : Drawn H p) : Drawn (upd H l o) p := by
  obtain ⟨g, m, c, h, r⟩ := h
  exact ⟨g, m, c, by rw [upd_ne n]; exact h, r⟩
theorem okAll_app (m : Bool) : ∀ a b : List PyData, okAll m (a ++ b) = (okAll m a && okAll m b)
  | [], b => rfl
  | x :: a, b => by
    show (okD m x && okAll m (a ++ b)) = (okD m x && okAll m a && okAll m b)
    rw [okAll_app m a b, Bool.and_assoc]
theorem depthAll_app : ∀ a b : List PyData, PyData.depthAll (a ++ b) = max (PyData.depthAll a) (PyData.depthAll b)
  | [], b => (Nat.zero_max _).symm
  | x :: a, b => by
    show max x.depth (PyData.depthAll (a ++ b)) = max (max x.depth (PyData.depthAll a)) (PyData.depthAll b)
    rw [depthAll_app a b, Nat.max_assoc]
/-- the loop of the parts: i of c parts are there -/
def Parts (p l : Addr) (S : Addr → Prop) (m c : Nat) (lim : Int) (H : Hp) (i : Nat) (σ : L2.St) (H' : Hp) : Prop :=
  ∃ (left : Nat) (vs : List V) (ds : List PyData) (y4 y5 y8 : Option V), σ = [some (.ref p), some (.int m), some (.int lim), some (.int c), y4, y5, some (.int left), some (.ref l), y8] ∧
    Kp (fun a => a = p) H H' ∧ Drawn H' p ∧ H' l = some (.lst vs) ∧ DaAll (fun a => S a ∨ a = l) H' vs ds ∧ vs.length = i ∧ okAll true ds = true ∧ okAll false ds = true ∧ treeAll ds = true ∧ wfAll ds = true ∧ wtAll ds + 10 * left ≤ 10 * (m - 1) ∧ PyData.depthAll ds + 1 ≤ lv m ∧
    c ≤ left + i ∧ (i = c → left = 0) ∧ left + 1 ≤ m ∧ (i = 0 → left + 1 = m) ∧ (8 < m → i = 1 → c = 3 → 5 ≤ left) ∧ (8 < m → i + 1 = c → 8 * left + 1 ≤ 5 * m)
theorem lv_step {m mo : Nat} (h1 : mo + 1 ≤ m) (h2 : 8 < m → 8 * mo + 1 ≤ 5 * m) : lv mo + 1 ≤ lv m := by
  unfold lv
  split <;> split <;> omega
theorem ok_law_sized (T : Tx K mg) : ∀ n, FnOk P w K mg base CX0 (n + 3) T.law_sized.f T.law_sized.fd ["_law_drawn", "_law_many", "_law_limit"] (spSized n)
  | 0 => (fn_none fun vs H Q E h => by
    obtain ⟨p, m, lim, S, _, _, _, _, h, _⟩ := h
    exact absurd h (Nat.not_lt_zero _)).mono (Nat.zero_le _)
  | n + 1 => by
    have G_law_sized := ok_law_sized T n
    have G_law_next := ok_law_next (P := P) (w := w) (base := base) T
    have G_law_one := ok_law_one (P := P) (w := w) (base := base) T
    have G_law_leaf := ok_law_leaf (P := P) (w := w) (base := base) T
    refine T.law_sized.F.ok sc_law_sized (fun vs H Q E h => ?_) (fun cdv A outer s H vs Q E hr h => ?_)
    · obtain ⟨p, m, lim, S, rfl, _⟩ := h
      rfl
    obtain ⟨p, m, lim, S, rfl, hp, h1, h2, h3, h4, h5, hS, hO, q⟩ := h
    refine ⟨_, pss_cons (ps_if (pt_cmpR op_eq (pv 1) pe_int (nomark _)) (pss_one (ps_ret (pe_call G_law_leaf (hr.mono (by omega)) (by rfl) T.law_leaf.g T.law_leaf.F.kp T.law_leaf.b .nil pass0 (pa_cons (pv 0) (pa_cons (pv 2) pa_nil))))) pss_nil)
      (pss_cons (ps_set (i := 3) sc_law_sized.nd rfl (Or.inl rfl) (pe_ifExp (pt_cmpR op_gt (pv 1) pe_int (nomark _)) (pe_op op_add pe_int (pe_call G_law_next (hr.mono (by omega)) (by rfl) T.law_next.g T.law_next.F.kp T.law_next.b .nil pass0 (pa_cons (pv 0) (pa_cons pe_int pa_nil)))) (pe_op op_add pe_int (pe_call G_law_next (hr.mono (by omega)) (by rfl) T.law_next.g T.law_next.F.kp T.law_next.b .nil pass0 (pa_cons (pv 0) (pa_cons (pe_callB (call_min2 rfl) (by rfl) T.m_min (by decide +kernel) (pa_cons pe_int (pa_cons (pe_op op_sub (pv 1) pe_int) pa_nil))) pa_nil))))))
      (pss_cons (ps_par (i := 6) (j := 7) rfl sc_law_sized.nd rfl rfl (by decide) rfl rfl (pa_cons (pe_op op_sub (pv 1) pe_int) (pa_cons (pe_lst pa_nil) pa_nil)) (by rfl))
      (pss_cons (ps_for PassesOwn.never rfl (pi_range3 (by rfl) T.m_range (pa_cons (pe_op op_sub (pv 3) pe_int) (pa_cons (pe_un un_neg pe_int) (pa_cons (pe_un un_neg pe_int) pa_nil)))) (pg_name (i := 4) sc_law_sized.nd rfl (Or.inl rfl)) (pss_cons (ps_set (i := 8) sc_law_sized.nd rfl (Or.inl rfl) (pv 6))
      (pss_cons (ps_if (PW.pt (pw_and (pt_cmpR op_gt (pv 4) pe_int (nomark _)) (pw_and1 (pt_cmpR op_gt (pv 1) pe_int (nomark _))))) (pss_one (ps_set (i := 8) sc_law_sized.nd rfl (Or.inl rfl) (pe_op op_sub (pe_op op_fdiv (pv 6) (pe_op op_add (pv 4) pe_int)) (pe_call G_law_next (hr.mono (by omega)) (by rfl) T.law_next.g T.law_next.F.kp T.law_next.b .nil pass0 (pa_cons (pv 0) (pa_cons (pe_op op_add pe_int (pe_op op_fdiv (pv 6) pe_int)) pa_nil)))))) (pss_one (ps_if (pt_cmpR op_gt (pv 4) pe_int (nomark _)) (pss_one (ps_set (i := 8) sc_law_sized.nd rfl (Or.inl rfl) (pe_op op_add pe_int (pe_call G_law_next (hr.mono (by omega)) (by rfl) T.law_next.g T.law_next.F.kp T.law_next.b .nil pass0 (pa_cons (pv 0) (pa_cons (pe_op op_sub (pv 6) (pv 4)) pa_nil)))))) pss_nil)))
      (pss_cons (ps_expr (pe_bm PySem.F.plainAttrs_list PySem.F.slot_list_append PySem.F.type_list_append mt_append (pv 7) (pa_cons (pe_call G_law_sized (hr.mono (by omega)) (by rfl) T.law_sized.g T.law_sized.F.kp T.law_sized.b .nil pass0 (pa_cons (pv 0) (pa_cons (pv 8) (pa_cons (pv 2) pa_nil)))) pa_nil)))
      (pss_one (ps_set (i := 6) sc_law_sized.nd rfl (Or.inl rfl) (pe_op op_sub (pv 6) (pv 8))))))))
      (pss_cons (ps_set (i := 5) sc_law_sized.nd rfl (Or.inl rfl) (pe_call G_law_one (hr.mono (by omega)) (by rfl) T.law_one.g T.law_one.F.kp T.law_one.b .nil pass0 (pa_cons (pv 0) (pa_cons (pe_ix ix_list (pe_lst (pa_cons (pe_lst (pa_cons pe_str (pa_cons pe_str (pa_cons pe_str pa_nil)))) (pa_cons (pe_lst (pa_cons pe_str (pa_cons pe_str (pa_cons pe_str pa_nil)))) (pa_cons (pe_lst (pa_cons pe_str (pa_cons pe_str (pa_cons pe_str pa_nil)))) pa_nil)))) (pe_op op_sub (pv 3) pe_int) (fun _ _ => rfl)) pa_nil))))
      (pss_one (ps_ret (pe_op op_catA (pe_tup (pa_cons (pv 5) pa_nil)) (pe_callTy call_tuple_of (by rfl) T.m_tuple (by decide +kernel) (pa_cons (pv 7) pa_nil))))))))), ?_⟩
    refine q_when (b := decide (m = 1)) (et_is (et_test (ev_op (ev_var rfl) ev_c (rv_eq rfl))) (by
      rw [Bool.eq_iff_iff, decide_eq_true_eq, decide_eq_true_eq]
      exact ⟨fun h => by have := V.int.inj h; omega, fun h => by rw [h] <;> rfl⟩)) (fun hb H1 e1 => ?_) (fun hb H1 e1 => ?_)
    · have hm : m = 1 := of_decide_eq_true hb
      subst hm
      exact ⟨.ref p, rfl, .int lim, rfl, p, lim, S, rfl, hp.same e1, h4, h5, hS, hO.ex e1, fun v d H' k d2 hv pd hw hdp => q v d H' ((Kp.of e1).trans k) d2 hv pd (by omega) hdp⟩
    have hm : 2 ≤ m := by
      have : m ≠ 1 := of_decide_eq_false hb
      omega
    -- how many parts
    refine q_asgR (fun v H' => ∃ c : Nat, v = .int c ∧ Kp (fun a => a = p) H H' ∧ Drawn H' p ∧ 1 ≤ c ∧ c ≤ 3 ∧ c + 1 ≤ m ∧ (8 < m → 2 ≤ c)) (fun Q' q' => ?_) ?_
    · have hc : EvT (tTest (tOp (rI0 fun i j => V.bl (decide (j < i))) (tVar 1) (tC (V.int 8)))) [some (.ref p), some (.int (m : Int)), some (.int lim), none, none, none, none, none, none] H1 (decide ((8 : Int) < m)) := et_test (ev_op (ev_var rfl) ev_c rv_I0)
      refine hc H1 (Ex.refl _) _ fun H2 e2 => ?_
      by_cases h8 : 8 < m
      · rw [if_pos (decide_eq_true (by omega))]
        refine (ed_next (hp.same (e1.trans e2)) (ev_var rfl) ev_c (by decide) (by decide)) _ fun v H' k d hr => ?_
        obtain ⟨r, rfl, r0, r1⟩ := hr
        exact ⟨2, r, rfl, rfl, q' _ _ ⟨(2 + r).toNat, congrArg V.int (by omega), (Kp.of (e1.trans e2)).trans k, d, by omega, by omega, by omega, by omega⟩⟩
      · rw [if_neg (by rw [decide_eq_false (by omega)]; decide)]
        refine (ed_next (m := if ((m : Int) - 1) < 3 then (m : Int) - 1 else 3) (hp.same (e1.trans e2)) (ev_var rfl) (ev_min2 ev_c (ev_op (ev_var rfl) ev_c rv_I0)) (by split <;> omega) (by split <;> omega)) _ fun v H' k d hr => ?_
        obtain ⟨r, rfl, r0, r1⟩ := hr
        have r2 : r < 3 ∧ r < (m : Int) - 1 := by
          split at r1 <;> omega
        exact ⟨1, r, rfl, rfl, q' _ _ ⟨(1 + r).toNat, congrArg V.int (by omega), (Kp.of (e1.trans e2)).trans k, d, by omega, by omega, by omega, by omega⟩⟩
    rintro _ H2 ⟨c, rfl, k2, d2, c1, c3, cm, c8⟩
    -- left, parts
    refine ⟨.int (m : Int), rfl, (m : Int), 1, rfl, rfl, by show 0 ≤ sizeLine; exact Nat.zero_le _, fun l hl => ⟨_, _, rfl, ?_⟩⟩
    have hlH : H l = none := by
      cases hh : H l with
      | none => rfl
      | some o =>
        by_cases e : l = p
        · rw [e] at hl
          exact absurd hl d2.some
        · rw [k2 _ _ e hh] at hl
          cases hl
    have npl : p ≠ l := fun e => d2.some (by rw [e]; exact hl)
    have hO2 : Occ S H2 := hO.kp k2 d2
    have em : (m : Int) - 1 = ((m - 1 : Nat) : Int) := by omega
    have ec : (c : Int) - 1 = ((c - 1 : Nat) : Int) := by omega
    refine q_forDown (i0 := c - 1) (by omega) (ea_cons (ev_is (ev_op (ev_var rfl) ev_c rv_I0) (congrArg V.int ec)) (ea_cons (ev_un ev_c ru_neg) (ea_cons (ev_un ev_c ru_neg) ea_nil))) (Parts p l S m c lim H) (fun H4 e4 => ?_) (fun i σ' H' hi h => ?_) (fun σ' H' h => ?_)
    · refine ⟨m - 1, [], [], none, none, none, ?_, ?_, ?_, e4 _ _ upd_same, .nil, rfl, rfl, rfl, rfl, rfl, ?_, ?_, ?_, ?_, ?_, ?_, ?_, ?_⟩
      · rw [← em]
        rfl
      · exact (Kp.mut k2 hlH).trans (Kp.of e4)
      · exact (d2.same (Ex.new hl)).same e4
      · show 0 + 10 * (m - 1) ≤ _
        omega
      · show 0 + 1 ≤ lv m
        unfold lv
        split <;> omega
      all_goals omega
    · obtain ⟨left, vs, ds, y4, y5, y8, rfl, k, d, hl', hda, hlen, o1, o2, o3, o4, hw, hdp, hci, hic, hlm, hi0, hi1, hlast⟩ := h
      generalize hgg : c - 1 - i = g
      refine q_asg (ev_var rfl) fun H5 e5 => ?_
      have d5 := d.same e5
      refine q_any (fun σ2 H2 => ∃ mo : Nat, σ2 = [some (.ref p), some (.int m), some (.int lim), some (.int c), some (.int (g : Int)), y5, some (.int left), some (.ref l), some (.int mo)] ∧ Kp (fun a => a = p) H5 H2 ∧ Drawn H2 p ∧ 1 ≤ mo ∧ mo + g ≤ left ∧ (i + 1 = c → mo = left) ∧ (8 < m → 8 * mo + 1 ≤ 5 * m) ∧
        (8 < m → i + 2 = c → 8 * (left - mo) + 1 ≤ 5 * m) ∧ (8 < m → i = 0 → c = 3 → mo + 5 ≤ left)) (fun nx hn => ?_) ?_
      · refine s_if (b := decide ((0 : Int) < (g : Int)) && decide ((8 : Int) < (m : Int))) (et_and (et_test (ev_op (ev_var rfl) ev_c rv_I0)) fun _ => et_test (ev_op (ev_var rfl) ev_c rv_I0)) (fun hb6 H6 e6 => ?_) (fun hb6 H6 e6 => ?_)
        · rw [Bool.and_eq_true, decide_eq_true_eq, decide_eq_true_eq] at hb6
          have g12 : g = 1 ∨ g = 2 := by omega
          have hdv : ∃ qd : Nat, (left : Int) / ((g : Int) + 1) = (qd : Int) ∧ (g = 1 → 2 * qd ≤ left ∧ left ≤ 2 * qd + 1) ∧ (g = 2 → 3 * qd ≤ left ∧ left ≤ 3 * qd + 2) := by
            refine ⟨((left : Int) / ((g : Int) + 1)).toNat, ?_, ?_, ?_⟩ <;> rcases g12 with e | e <;> rw [e] <;> omega
          obtain ⟨qd, hqd, q1, q2⟩ := hdv
          have hE : Ev (tOp (rI CDiv fun i j => V.int (i / j)) (tVar 6) (tOp (rI0 fun i j => V.int (i + j)) (tVar 4) (tC (V.int 1)))) [some (.ref p), some (.int m), some (.int lim), some (.int c), some (.int (g : Int)), y5, some (.int left), some (.ref l), some (.int left)] H6 (.int (qd : Int)) :=
            ev_is (ev_op (ev_var rfl) (ev_op (ev_var rfl) ev_c rv_I0) (rv_I ⟨by omega, by omega⟩)) (congrArg V.int hqd)
          refine hE H6 (Ex.refl _) _ fun H7 e7 => ?_
          refine (ed_next (d5.same (e6.trans e7)) (ev_var rfl) (ev_op ev_c (ev_op (ev_var rfl) ev_c (rv_I ⟨by decide, by decide⟩)) rv_I0) (by omega) (by omega)) _ fun v H8 k8 d8 hr => ?_
          obtain ⟨r, rfl, r0, r1⟩ := hr
          refine ⟨(qd : Int), r, rfl, rfl, hn _ _ ⟨((qd : Int) - r).toNat, ?_, (Kp.of (e6.trans e7)).trans k8, d8, ?_, ?_, ?_, ?_, ?_, ?_⟩⟩
          · have : ((((qd : Int) - r).toNat : Nat) : Int) = (qd : Int) - r := by
              rcases g12 with e | e <;> omega
            rw [this]
            rfl
          all_goals rcases g12 with e | e <;> omega
        · rw [Bool.and_eq_false_iff, decide_eq_false_iff_not, decide_eq_false_iff_not] at hb6
          refine s_when (b := decide ((0 : Int) < (g : Int))) (et_test (ev_op (ev_var rfl) ev_c rv_I0)) (fun hb7 H7 e7 => ?_) (fun hb7 H7 e7 => ?_)
          · have hg : 0 < g := by
              have := of_decide_eq_true hb7
              omega
            refine (ed_next (d5.same (e6.trans e7)) (ev_var rfl) (ev_op (ev_var rfl) (ev_var rfl) rv_I0) (by omega) (by omega)) _ fun v H8 k8 d8 hr => ?_
            obtain ⟨r, rfl, r0, r1⟩ := hr
            refine ⟨1, r, rfl, rfl, hn _ _ ⟨(1 + r).toNat, ?_, (Kp.of (e6.trans e7)).trans k8, d8, ?_, ?_, ?_, ?_, ?_, ?_⟩⟩
            · have : (((1 + r).toNat : Nat) : Int) = 1 + r := by omega
              rw [this]
              rfl
            all_goals omega
          · have hg : g = 0 := by
              have := of_decide_eq_false hb7
              omega
            refine hn _ _ ⟨left, rfl, Kp.of (e6.trans e7), d5.same (e6.trans e7), ?_, ?_, ?_, ?_, ?_, ?_⟩
            all_goals omega
      rintro _ H6 ⟨mo, rfl, k6, d6, m1, m2, m3, m4, m5, m6⟩
      have nlp : ¬ l = p := fun e => npl e.symm
      have hl6 : H6 l = some (.lst vs) := k6 _ _ nlp (e5 _ _ hl')
      have hda6 : DaAll (fun a => S a ∨ a = l) H6 vs ds := (hda.same e5).keep k6 fun a e => by
        rw [e]
        exact .inl hS
      have kk6 : Kp (fun a => a = p) H H6 := (k.trans (Kp.of e5)).trans k6
      have hO6 : Occ (fun a => S a ∨ a = l) H6 := fun a h => h.elim (fun h => (hO.kp kk6 d6) a h) fun h => by
        rw [h, hl6]
        intro z
        cases z
      refine ⟨.ref l, rfl, .inl ⟨rfl, _, sq_of hl6⟩, .ref p, rfl, .int mo, rfl, .int lim, rfl, p, mo, lim, fun a => S a ∨ a = l, rfl, d6, m1, by omega, by omega, h4, h5, .inl hS, hO6, fun v dd H7 k7 d7 hv pd hwv hdv => ⟨l, vs, v, rfl, rfl, k7 _ _ nlp hl6, sz_lt (by omega), ?_⟩⟩
      refine s_asg (ev_op (ev_var rfl) (ev_var rfl) rv_I0) fun H8 e8 => ?_
      have hda7 : DaAll (fun a => S a ∨ a = l) (upd H7 l (.lst (vs ++ [v]))) (vs ++ [v]) (ds ++ [dd]) := ((hda6.keep k7 fun a e => by
        rw [e]
        exact .inl hS).append (.cons hv .nil)).keep (T := fun a => a = l) (upd_kp rfl) fun a e => .inr e
      have hst := lv_step (m := m) (mo := mo) (by omega) m4
      refine ⟨left - mo, vs ++ [v], ds ++ [dd], some (.int (g : Int)), y5, some (.int mo), ?_, (Kp.mut (kk6.trans k7) hlH).trans (Kp.of e8), (d7.ne npl).same e8, e8 _ _ upd_same, hda7.same e8, ?_, ?_, ?_, ?_, ?_, ?_, ?_, ?_, ?_, ?_, ?_, ?_, ?_⟩
      · have : (left : Int) - (mo : Int) = ((left - mo : Nat) : Int) := by omega
        rw [← this]
        rfl
      · rw [List.length_append, List.length_singleton, hlen]
      · rw [okAll_app, o1]
        show (true && (okD true dd && true)) = true
        rw [pd.1] <;> rfl
      · rw [okAll_app, o2]
        show (true && (okD false dd && true)) = true
        rw [pd.2.1] <;> rfl
      · rw [treeAll_app, o3]
        show (true && (treeD dd && true)) = true
        rw [pd.2.2.1] <;> rfl
      · rw [wfAll_app, o4]
        show (true && (wf dd && true)) = true
        rw [pd.2.2.2] <;> rfl
      · rw [wtAll_append]
        show wtAll ds + (wt dd + 0) + _ ≤ _
        omega
      · rw [depthAll_app]
        show max _ (max dd.depth 0) + 1 ≤ lv m
        omega
      all_goals omega
    · obtain ⟨left, vs, ds, y4, y5, y8, rfl, k, d, hl', hda, hlen, o1, o2, o3, o4, hw, hdp, hci, hic, hlm, hi0, hi1, hlast⟩ := h
      have hleft : left = 0 := hic (by omega)
      subst hleft
      obtain ⟨xs, hxs, hel⟩ := el_pick3 (K := K) (σ := [some (.ref p), some (.int m), some (.int lim), some (.int c), y4, y5, some (.int (0 : Nat)), some (.ref l), y8]) (H := H') (k := c - 1) (L1 := tLst (tCons (tC (.str "W")) (tCons (tC (.str "List")) (tCons (tC (.str "W1")) tNil)))) (L2 := tLst (tCons (tC (.str "P")) (tCons (tC (.str "->")) (tCons (tC (.str "Pair")) tNil)))) (L3 := tLst (tCons (tC (.str "T")) (tCons (tC (.str "Three")) (tCons (tC (.str "T3")) tNil)))) (ti := tOp (rI0 fun i j => V.int (i - j)) (tVar 3) (tC (V.int 1)))
        (el_lst (ea_cons ev_c (ea_cons ev_c (ea_cons ev_c ea_nil))) (by show 3 ≤ 100000; decide)) (el_lst (ea_cons ev_c (ea_cons ev_c (ea_cons ev_c ea_nil))) (by show 3 ≤ 100000; decide)) (el_lst (ea_cons ev_c (ea_cons ev_c (ea_cons ev_c ea_nil))) (by show 3 ≤ 100000; decide)) (ev_is (ev_op (ev_var rfl) ev_c rv_I0) (congrArg V.int ec)) (by omega)
      have hx3 : xs.length = 3 ∧ ∀ v, v ∈ xs → ∃ z, v = .str z ∧ NmD z ∧ headOk (.str z) c = true := by
        rcases hxs with ⟨ek, e⟩ | ⟨ek, e⟩ | ⟨ek, e⟩ <;> subst e
        · have ec1 : c = 1 := by omega
          subst ec1
          refine ⟨rfl, fun v hv => ?_⟩
          simp only [List.mem_cons, List.not_mem_nil, or_false] at hv
          rcases hv with e | e | e <;> exact ⟨_, e, ⟨by decide +kernel, by decide +kernel, by decide +kernel⟩, by decide +kernel⟩
        · have ec1 : c = 2 := by omega
          subst ec1
          refine ⟨rfl, fun v hv => ?_⟩
          simp only [List.mem_cons, List.not_mem_nil, or_false] at hv
          rcases hv with e | e | e <;> exact ⟨_, e, ⟨by decide +kernel, by decide +kernel, by decide +kernel⟩, by decide +kernel⟩
        · have ec1 : c = 3 := by omega
          subst ec1
          refine ⟨rfl, fun v hv => ?_⟩
          simp only [List.mem_cons, List.not_mem_nil, or_false] at hv
          rcases hv with e | e | e <;> exact ⟨_, e, ⟨by decide +kernel, by decide +kernel, by decide +kernel⟩, by decide +kernel⟩
      refine q_asgR (fun v H2 => ∃ z, v = .str z ∧ (NmD z ∧ headOk (.str z) c = true) ∧ Kp (fun a => a = p) H' H2 ∧ Drawn H2 p) (fun Q' q' => (ed_one d (ev_var rfl) hel (by omega) (by omega)) _ fun v H3 k3 d3 hv => ?_) ?_
      · obtain ⟨z, e, hz⟩ := hx3.2 v hv
        exact q' _ _ ⟨z, e, hz, k3, d3⟩
      rintro _ H3 ⟨z, rfl, ⟨⟨hz1, hz2, hz3⟩, hz4⟩, k3, d3⟩
      have nlp : ¬ l = p := fun e => npl e.symm
      have hl3 : H3 l = some (.lst vs) := k3 _ _ nlp hl'
      have kk3 : Kp (fun a => a = p) H H3 := k.trans k3
      have hda3 : DaAll S H3 vs ds := (hda.keep k3 fun a e => by
        rw [e]
        exact .inl hS).less fun a h => .inl h
      have hO3 : Occ S H3 := hO.kp kk3 d3
      refine ⟨.str z, rfl, by show 1 ≤ sizeLine; decide, fun a1 ha1 => ⟨.ref l, rfl, l, vs, rfl, .inl ⟨sq_of ((Ex.new ha1) _ _ hl3), fun a2 ha2 => ⟨a1, a2, [.str z], vs, rfl, rfl, st_of ((Ex.new ha2) _ _ upd_same), st_of upd_same, sz_of (by show 1 + vs.length ≤ 100000; omega), (fun e => nomatch e), (fun _ e => ?_), fun _ _ a3 ha3 => ?_⟩⟩⟩⟩
      · rw [e] at hlen
        have : (0 : Nat) = c - 1 + 1 := hlen
        omega
      · have eE := ((Ex.new (o := .tup [.str z]) ha1).trans (Ex.new (o := .tup vs) ha2))
        have ds3 := hda3.same eE
        refine q (.ref a3) (.tuple (.str z :: ds)) _ ((kk3.trans (Kp.of eE)).trans (Kp.of (Ex.new ha3))) ((d3.same eE).same (Ex.new ha3)) (new_tup ha3 (hO3.ex eE) (.cons (.str z) ds3)) ⟨?_, ?_, o3, (by
          have hc : ds.length = c := by
            have := hda.length
            omega
          show (headOk (.str z) ds.length && wfAll ds) = true
          rw [hc, hz4, o4] <;> rfl)⟩ ?_ ?_
        · show (okD true (.str z) && okAll true ds) = true
          rw [hz2, o1] <;> rfl
        · show (okD false (.str z) && okAll false ds) = true
          rw [hz3, o2] <;> rfl
        · show 1 + (1 + z.length + wtAll ds) ≤ 10 * m
          omega
        · show max 0 (PyData.depthAll ds) + 1 ≤ lv m
          omega
end
end K1
set_option Elab.async false
set_option linter.all false
set_option maxRecDepth 100000
set_option maxHeartbeats 4000000
namespace K1
open PySem PySem.Spec PyProof.Rows L2 Evl Sl
section
variable {P : Program} {w : World} {K : PySem.W.Frag} {mg : Str → Option Value} {base : Heap}
/-! ### new data -/
/-- te gives a datum, whatever it makes for it -/
def EvDs (te : TE) (S : Addr → Prop) (σ : L2.St) (H : Hp) (d : PyData) : Prop := ∀ H1, Ex H H1 → ∀ Q : VK, (∀ v H2, Ex H1 H2 → Da S H2 v d → Q v H2) → te σ H1 Q
def EvDA (ta : TA) (S : Addr → Prop) (σ : L2.St) (H : Hp) (ds : List PyData) : Prop := ∀ H1, Ex H H1 → ∀ Q : List V → Hp → Prop, (∀ vs H2, Ex H1 H2 → DaAll S H2 vs ds → Q vs H2) → ta σ H1 Q
section
variable {S : Addr → Prop} {σ : L2.St} {H : Hp} {te ta2 tb2 : TE} {ta : TA} {d : PyData} {ds es : List PyData} {v : V}
theorem ds_ev (h : Ev te σ H v) (hd : Da S H v d) : EvDs te S σ H d := fun H1 e Q q => h H1 e Q fun H2 e2 => q v H2 e2 (hd.same (e.trans e2))
theorem ds_c (hd : Da S H v d) : EvDs (tC v) S σ H d := ds_ev ev_c hd
theorem da_nil : EvDA tNil S σ H [] := fun H1 e Q q => q [] H1 (Ex.refl H1) .nil
theorem da_cons (h : EvDs te S σ H d) (t : EvDA ta S σ H ds) : EvDA (tCons te ta) S σ H (d :: ds) := fun H1 e Q q => h H1 e _ fun v H2 e2 hv => t H2 (e.trans e2) _ fun vs H3 e3 hvs => q _ H3 (e2.trans e3) (.cons (hv.same e3) hvs)
theorem ds_tup (o : Occ S H) (h : EvDA ta S σ H ds) (hl : ds.length ≤ 100000) : EvDs (tTup ta) S σ H (.tuple ds) := fun H1 e Q q => h H1 e _ fun vs H2 e2 hvs => ⟨sz_of (by rw [hvs.length]; exact hl), fun a ha => q _ _ (e2.trans (Ex.new ha)) (new_tup ha (o.ex (e.trans e2)) hvs)⟩
theorem ds_lst (o : Occ S H) (h : EvDA ta S σ H ds) (hl : ds.length ≤ 100000) : EvDs (tLst ta) S σ H (.list ds) := fun H1 e Q q => h H1 e _ fun vs H2 e2 hvs => ⟨sz_of (by rw [hvs.length]; exact hl), fun a ha => q _ _ (e2.trans (Ex.new ha)) (.lst (fun s => (o.ex (e.trans e2)) a s ha) upd_same (hvs.same (Ex.new ha)))⟩
theorem ds_cat (o : Occ S H) (ha : EvDs ta2 S σ H (.list ds)) (hb : EvDs tb2 S σ H (.list es)) (hl : ds.length + es.length ≤ 100000) : EvDs (tOp rCat ta2 tb2) S σ H (.list (ds ++ es)) := fun H1 e Q q =>
  ha H1 e _ fun v H2 e2 hv => hb H2 (e.trans e2) _ fun u H3 e3 hu => by
    cases hv with
    | @lst a xs _ na ha2 hxs =>
      cases hu with
      | @lst b ys _ nb hb2 hys =>
        refine ⟨a, b, xs, ys, rfl, rfl, e3 _ _ ha2, hb2, sz_of (by rw [hxs.length, hys.length]; exact hl), fun p hp => q _ _ ((e2.trans e3).trans (Ex.new hp)) (.lst (fun s => (o.ex ((e.trans e2).trans e3)) p s hp) upd_same (((hxs.same e3).append hys).same (Ex.new hp)))⟩
theorem ed_oneD {p : Addr} {E : XK} (hp : Drawn H p) (hS : S p) (ha : Ev te σ H (.ref p)) (hl : EvDs tb2 S σ H (.list ds)) (h1 : 1 ≤ ds.length) (h2 : ds.length ≤ 1000) :
    EvD p (tCall spOne [] E (tCons te (tCons tb2 tNil))) σ H (fun v H' => ∃ d, d ∈ ds ∧ Da S H' v d) := fun Q q =>
  ha H (Ex.refl H) _ fun H1 e1 => hl H1 e1 _ fun u H2 e2 hu => by
    cases hu with
    | @lst l xs _ nl hl2 hxs =>
      have hlen := hxs.length
      refine ⟨p, l, xs, rfl, hp.same (e1.trans e2), hl2, fun e => nl (by rw [e]; exact hS), by omega, by omega, fun v H' hv k d => q v H' ((Kp.of (e1.trans e2)).trans k) d ?_⟩
      obtain ⟨i, hi, hiv⟩ := List.getElem_of_mem hv
      obtain ⟨dd, hdd, hda⟩ := hxs.get (i := i) (v := v) (by rw [List.getElem?_eq_getElem hi, hiv])
      exact ⟨dd, List.mem_of_getElem? hdd, hda.keep k fun a e => by
        rw [e]
        exact hS⟩
end
theorem okD_t2 (m : Bool) (a b : PyData) : okD m (.tuple [a, b]) = (okD m a && (okD m b && true)) := rfl
theorem okD_t3 (m : Bool) (a b c : PyData) : okD m (.tuple [a, b, c]) = (okD m a && (okD m b && (okD m c && true))) := rfl
theorem okD_t4 (m : Bool) (a b c d : PyData) : okD m (.tuple [a, b, c, d]) = (okD m a && (okD m b && (okD m c && (okD m d && true)))) := rfl
/-! ### _law_tower -/
def spTower : Sp := fun vs H Q _ => ∃ (p : Addr) (m : Nat) (x : V) (d : PyData) (S : Addr → Prop), vs = [.ref p, .int m, x] ∧ Drawn H p ∧ m ≤ 1000 ∧ S p ∧ Occ S H ∧ Da S H x d ∧ pureD d ∧ ∀ v d' H', Kp (fun a => a = p) H H' → Drawn H' p → Da S H' v d' → pureD d' → wt d' ≤ wt d + 20 * m → d'.depth ≤ d.depth + m + 1 → Q v H'
theorem ok_law_tower (T : Tx K mg) : FnOk P w K mg base CX0 3 T.law_tower.f T.law_tower.fd ["_law_drawn", "_law_many", "_law_shape"] spTower := by
  have G_law_one := ok_law_one (P := P) (w := w) (base := base) T
  refine T.law_tower.F.ok sc_law_tower (fun vs H Q E h => ?_) (fun cdv A outer s H vs Q E hr h => ?_)
  · obtain ⟨p, m, x, d, S, rfl, _⟩ := h
    rfl
  obtain ⟨p, m, x, d, S, rfl, hp, hm, hS, hO, hx, hpd, q⟩ := h
  refine ⟨_, pss_cons (ps_for PassesOwn.never rfl (pi_range1 (by rfl) T.m_range (pa_cons (pv 1) pa_nil)) (pg_name (i := 3) sc_law_tower.nd rfl (Or.inl rfl)) (pss_one (ps_set (i := 2) sc_law_tower.nd rfl (Or.inl rfl) (pe_call G_law_one (hr.mono (by omega)) (by rfl) T.law_one.g T.law_one.F.kp T.law_one.b .nil pass0 (pa_cons (pv 0) (pa_cons (pe_lst (pa_cons (pe_tup (pa_cons pe_str (pa_cons (pv 2) pa_nil))) (pa_cons (pe_tup (pa_cons pe_str (pa_cons (pv 2) (pa_cons pe_int pa_nil)))) (pa_cons (pe_tup (pa_cons pe_str (pa_cons pe_int (pa_cons (pv 2) pa_nil)))) (pa_cons (pe_tup (pa_cons pe_str (pa_cons pe_int (pa_cons (pv 2) (pa_cons (pe_tup (pa_cons pe_str pa_nil)) pa_nil))))) pa_nil))))) pa_nil))))))
      (pss_one (ps_ret (pv 2))), ?_⟩
  refine q_forR1 (ea_cons (ev_var rfl) ea_nil) (by omega) (fun i σ' H' => ∃ (v : V) (d' : PyData) (y3 : Option V), σ' = [some (.ref p), some (.int m), some v, y3] ∧ Kp (fun a => a = p) H H' ∧ Drawn H' p ∧ Da S H' v d' ∧ pureD d' ∧ wt d' ≤ wt d + 20 * i ∧ d'.depth ≤ d.depth + i + 1)
    (fun H1 e1 => ⟨x, d, none, rfl, Kp.of e1, hp.same e1, hx.same e1, hpd, by omega, by omega⟩) (fun i σ' H' hi h => ?_) (fun σ' H' h => ?_)
  · obtain ⟨v, d', y3, rfl, k, dr, hv, hpd', hw, hdp⟩ := h
    have hO1 : Occ S H' := hO.kp k dr
    have sA : ∀ z, Da S H' (.str z) (.str z) := fun z => .str z
    have iA : ∀ z, Da S H' (.int z) (.int z) := fun z => .int z
    have vA : EvDs (tVar 2) S [some (.ref p), some (.int m), some v, some (.int (i : Int))] H' d' := ds_ev (ev_var rfl) hv
    refine s_asgR (fun u H2 => ∃ d2, Kp (fun a => a = p) H H2 ∧ Drawn H2 p ∧ Da S H2 u d2 ∧ pureD d2 ∧ wt d2 ≤ wt d + 20 * (i + 1) ∧ d2.depth ≤ d.depth + (i + 1) + 1) (fun Q' q' => (ed_oneD dr hS (ev_var rfl) (ds_lst hO1 (da_cons (ds_tup hO1 (da_cons (ds_c (sA _)) (da_cons vA da_nil)) (by show 2 ≤ 100000; decide)) (da_cons (ds_tup hO1 (da_cons (ds_c (sA _)) (da_cons vA (da_cons (ds_c (iA _)) da_nil))) (by show 3 ≤ 100000; decide)) (da_cons (ds_tup hO1 (da_cons (ds_c (sA _)) (da_cons (ds_c (iA _)) (da_cons vA da_nil))) (by show 3 ≤ 100000; decide))
      (da_cons (ds_tup hO1 (da_cons (ds_c (sA _)) (da_cons (ds_c (iA _)) (da_cons vA (da_cons (ds_tup hO1 (da_cons (ds_c (sA _)) da_nil) (by show 1 ≤ 100000; decide)) da_nil)))) (by show 4 ≤ 100000; decide)) da_nil)))) (by show 4 ≤ 100000; decide)) (by show 1 ≤ 4; decide) (by show 4 ≤ 1000; decide)) _ fun u H2 k2 d2 hu => ?_) (fun u H2 h2 => ?_)
    · obtain ⟨dd, hdd, hda⟩ := hu
      refine q' u H2 ⟨dd, k.trans k2, d2, hda, ?_⟩
      simp only [List.mem_cons, List.not_mem_nil, or_false] at hdd
      rcases hdd with e | e | e | e <;> subst e
      · refine ⟨⟨?_, ?_, ?_, ?_⟩, ?_, ?_⟩
        · rw [okD_t2, hpd'.1]
          decide +kernel
        · rw [okD_t2, hpd'.2.1]
          decide +kernel
        · show (treeD d' && true) = true
          rw [hpd'.2.2.1] <;> rfl
        · show (headOk (.str "W") 1 && (wf d' && true)) = true
          rw [hpd'.2.2.2]
          decide +kernel
        · show 1 + (2 + (wt d' + 0)) ≤ _
          omega
        · show max 0 (max d'.depth 0) + 1 ≤ _
          omega
      · refine ⟨⟨?_, ?_, ?_, ?_⟩, ?_, ?_⟩
        · rw [okD_t3, hpd'.1]
          decide +kernel
        · rw [okD_t3, hpd'.2.1]
          decide +kernel
        · show (treeD d' && true) = true
          rw [hpd'.2.2.1] <;> rfl
        · show (headOk (.str "P") 2 && (wf d' && (wf (.int 0) && true))) = true
          rw [hpd'.2.2.2]
          decide +kernel
        · show 1 + (2 + (wt d' + (1 + 0))) ≤ _
          omega
        · show max 0 (max d'.depth 0) + 1 ≤ _
          omega
      · refine ⟨⟨?_, ?_, ?_, ?_⟩, ?_, ?_⟩
        · rw [okD_t3, hpd'.1]
          decide +kernel
        · rw [okD_t3, hpd'.2.1]
          decide +kernel
        · show (true && (treeD d' && true)) = true
          rw [hpd'.2.2.1] <;> rfl
        · show (headOk (.str "->") 2 && (wf (.int 1) && (wf d' && true))) = true
          rw [hpd'.2.2.2]
          decide +kernel
        · show 1 + (3 + (1 + (wt d' + 0))) ≤ _
          omega
        · show max 0 (max 0 (max d'.depth 0)) + 1 ≤ _
          omega
      · refine ⟨⟨?_, ?_, ?_, ?_⟩, ?_, ?_⟩
        · rw [okD_t4, hpd'.1]
          decide +kernel
        · rw [okD_t4, hpd'.2.1]
          decide +kernel
        · show (true && (treeD d' && (treeD (.tuple [.str "A"]) && true))) = true
          rw [hpd'.2.2.1] <;> decide +kernel
        · show (headOk (.str "T") 3 && (wf (.int 0) && (wf d' && (wf (.tuple [.str "A"]) && true)))) = true
          rw [hpd'.2.2.2]
          decide +kernel
        · show 1 + (2 + (1 + (wt d' + (3 + 0)))) ≤ _
          omega
        · show max 0 (max 0 (max d'.depth (max 1 0))) + 1 ≤ _
          omega
    · obtain ⟨d2, k2, dr2, hda, hpd2, hw2, hdp2⟩ := h2
      exact ⟨u, d2, _, rfl, k2, dr2, hda, hpd2, hw2, hdp2⟩
  · obtain ⟨v, d', y3, rfl, k, dr, hv, hpd', hw, hdp⟩ := h
    exact s_ret (ev_var rfl) fun H2 e2 => q v d' H2 (k.trans (Kp.of e2)) (dr.same e2) (hv.same e2) hpd' (by omega) (by omega)
end
end K1
set_option Elab.async false
set_option linter.all false
set_option maxRecDepth 100000
set_option maxHeartbeats 4000000
namespace K1
open PySem PySem.Spec PyProof.Rows L2 Evl Sl
section
variable {P : Program} {w : World} {K : PySem.W.Frag} {mg : Str → Option Value} {base : Heap}
/-! ### _law_other -/
theorem tree_get : ∀ {ds : List PyData} {i : Nat} {d : PyData}, treeAll ds = true → ds[i]? = some d → treeD d = true
  | [], _, _, _, h => by simp at h
  | x :: xs, 0, d, h, e => by
    simp at e
    subst e
    have h2 : (treeD x && treeAll xs) = true := h
    exact ((Bool.and_eq_true _ _).mp h2).1
  | x :: xs, i + 1, d, h, e => by
    have h2 : (treeD x && treeAll xs) = true := h
    exact tree_get ((Bool.and_eq_true _ _).mp h2).2 (by simpa using e)
def spOther (n : Nat) : Sp := fun vs H Q _ => ∃ (p : Addr) (x y : V) (d e : PyData) (S : Addr → Prop), vs = [.ref p, x, y] ∧ Drawn H p ∧ S p ∧ Occ S H ∧ Da S H x d ∧ Da S H y e ∧ pureD d ∧ wt d ≤ 20000 ∧ d.depth < n ∧
  ∀ v d' H', Kp (fun a => a = p) H H' → Drawn H' p → Da S H' v d' → (∀ m, okD m e = true → okD m d' = true) → (wf e = true → wf d' = true) → wt d' ≤ wt d + wt e → d'.depth ≤ d.depth + e.depth → Q v H'
theorem ok_law_other (T : Tx K mg) : ∀ n, FnOk P w K mg base CX0 (n + 2) T.law_other.f T.law_other.fd ["_law_drawn", "_law_shape", "_law_part"] (spOther n)
  | 0 => (fn_none fun vs H Q E h => by
    obtain ⟨p, x, y, d, e, S, _, _, _, _, _, _, _, _, h, _⟩ := h
    exact absurd h (Nat.not_lt_zero _)).mono (Nat.zero_le _)
  | n + 1 => by
    have G_law_other := ok_law_other T n
    have G_law_next := ok_law_next (P := P) (w := w) (base := base) T
    refine T.law_other.F.ok sc_law_other (fun vs H Q E h => ?_) (fun cdv A outer s H vs Q E hr h => ?_)
    · obtain ⟨p, x, y, d, e, S, rfl, _⟩ := h
      rfl
    obtain ⟨p, x, y, d, e, S, rfl, hp, hS, hO, hx, hy, hpd, hz, hdp, q⟩ := h
    refine ⟨_, pss_cons (ps_if (PW.pt (pw_or (pt_val (pe_callB call_isi (by rfl) T.m_isinstance (by decide +kernel) (pa_cons (pv 1) (pa_cons (pe_bltn (v := .ty "int") (by rfl) T.m_int (by decide +kernel) rfl) pa_nil)))) (pw_or (pt_cmpR op_eq (pe_callB call_len_seq (by rfl) T.m_len (by decide +kernel) (pa_cons (pv 1) pa_nil)) pe_int (nomark _)) (pw_or1 (pt_cmpR op_eq (pe_call G_law_next (hr.mono (by omega)) (by rfl) T.law_next.g T.law_next.F.kp T.law_next.b .nil pass0 (pa_cons (pv 0) (pa_cons pe_int pa_nil))) pe_int (nomark _)))))) (pss_one (ps_ret (pv 2))) pss_nil)
      (pss_cons (ps_set (i := 3) sc_law_other.nd rfl (Or.inl rfl) (pe_op op_add pe_int (pe_call G_law_next (hr.mono (by omega)) (by rfl) T.law_next.g T.law_next.F.kp T.law_next.b .nil pass0 (pa_cons (pv 0) (pa_cons (pe_op op_sub (pe_callB call_len_seq (by rfl) T.m_len (by decide +kernel) (pa_cons (pv 1) pa_nil)) pe_int) pa_nil)))))
      (pss_one (ps_ret (pe_op op_catA (pe_op op_catA (pe_slice sl_tupA (pv 1) po_none (po_some (pv 3))) (pe_tup (pa_cons (pe_call G_law_other (hr.mono (by omega)) (by rfl) T.law_other.g T.law_other.F.kp T.law_other.b .nil pass0 (pa_cons (pv 0) (pa_cons (pe_ix ix_tup (pv 1) (pv 3) (fun _ _ => rfl)) (pa_cons (pv 2) pa_nil)))) pa_nil))) (pe_slice sl_tupA (pv 1) (po_some (pe_op op_add (pv 3) pe_int)) po_none))))), ?_⟩
    have hback : ∀ H', Kp (fun a => a = p) H H' → Drawn H' p → Q y H' := fun H' k dr => q y e H' k dr (hy.keep k fun a h => by
      rw [h]
      exact hS) (fun m h => h) (fun h => h) (by omega) (by omega)
    cases hx with
    | int i => exact q_when (b := true) (et_or (a := true) (b := true) (et_B (ev_isi (ev_var rfl) (Da.int (S := S) i) (kit_int _))) fun z => nomatch z) (fun _ H1 e1 => s_ret (ev_var rfl) fun H2 e2 => hback H2 (Kp.of (e1.trans e2)) (hp.same (e1.trans e2))) fun z => nomatch z
    | @tup a xs ds na ha hda =>
      cases hda with
      | nil =>
        have : treeD (.tuple []) = true := hpd.2.2.1
        cases this
      | @cons x0 xs2 d0 ds2 h0 hr2 =>
        have hl2 : xs2.length = ds2.length := hr2.length
        have hxd : Da S H (.ref a) (.tuple (d0 :: ds2)) := .tup na ha (.cons h0 hr2)
        have hnp : ¬ a = p := fun h => by
          obtain ⟨g, mm, c, hp1, _⟩ := hp
          rw [h, hp1] at ha
          cases ha
        have htr : treeAll ds2 = true := hpd.2.2.1
        have hwfd : (headOk d0 ds2.length && wfAll ds2) = true := hpd.2.2.2
        rw [Bool.and_eq_true] at hwfd
        have hwt : 1 + (wt d0 + wtAll ds2) ≤ 20000 := hz
        have hwl := wtAll_len ds2
        have cI : EvT (tB (tCB (rIsi K) (tCons (tVar 1) (tCons (tC (V.ty "int")) tNil)))) [some (.ref p), some (.ref a), some y, none] H false := et_B (ev_isi (ev_var rfl) hxd (kit_int _))
        by_cases hx2 : xs2 = []
        · subst hx2
          exact q_when (b := true) (et_or (a := false) (b := true) cI fun _ => et_or (a := true) (b := true) (et_is (et_test (ev_op (ev_lenS (ev_var rfl) (.inr (st_of ha))) ev_c (rv_eq rfl))) rfl) fun z => nomatch z) (fun _ H1 e1 => s_ret (ev_var rfl) fun H2 e2 => hback H2 (Kp.of (e1.trans e2)) (hp.same (e1.trans e2))) fun z => nomatch z
        · have hpos : 0 < xs2.length := List.length_pos_iff.mpr hx2
          have cL : EvT (tTest (tOp rEq (tCB (rLenS K) (tCons (tVar 1) tNil)) (tC (V.int 1)))) [some (.ref p), some (.ref a), some y, none] H false := et_is (et_test (ev_op (ev_lenS (ev_var rfl) (.inr (st_of ha))) ev_c (rv_eq rfl))) (decide_eq_false fun h => by
            have := V.int.inj h
            rw [List.length_cons] at this
            omega)
          refine q_whenD (fun _ H' => Kp (fun a => a = p) H H' ∧ Drawn H' p) (fun Q' q' => cI H (Ex.refl _) _ fun H1 e1 => cL H1 e1 _ fun H2 e2 => (ed_next (hp.same (e1.trans e2)) (ev_var rfl) ev_c (by decide) (by decide)) _ fun v H' k d hr => ?_) (fun H1 h => ?_) (fun H1 h => ?_)
          · obtain ⟨r, rfl, r0, r1⟩ := hr
            exact ⟨rfl, _, rfl, q' _ _ ⟨(Kp.of (e1.trans e2)).trans k, d⟩⟩
          · exact s_ret (ev_var rfl) fun H2 e2 => hback H2 (h.1.trans (Kp.of e2)) (h.2.same e2)
          · obtain ⟨k1, dr1⟩ := h
            have ha1 := k1 _ _ hnp ha
            refine q_asgR (fun v H' => ∃ sp : Nat, v = .int sp ∧ 1 ≤ sp ∧ sp ≤ xs2.length ∧ Kp (fun a => a = p) H H' ∧ Drawn H' p) (fun Q' q' => (ed_next (m := (xs2.length : Int)) dr1 (ev_var rfl) (ev_is (ev_op (ev_lenS (ev_var rfl) (.inr (st_of ha1))) ev_c rv_I0) (congrArg V.int (by rw [List.length_cons]; omega))) (by omega) (by omega)) _ fun v H' k d hr => ?_) ?_
            · obtain ⟨r, rfl, r0, r1⟩ := hr
              exact ⟨1, r, rfl, rfl, q' _ _ ⟨(1 + r).toNat, congrArg V.int (by omega), by omega, by omega, k1.trans k, d⟩⟩
            rintro _ H3 ⟨sp, rfl, s1, s2, k3, dr3⟩
            have ha3 := k3 _ _ hnp ha
            have hi : sp < (x0 :: xs2).length := by
              rw [List.length_cons]
              omega
            have hid : sp < (d0 :: ds2).length := by
              rw [List.length_cons]
              omega
            have hall3 : DaAll S H3 (x0 :: xs2) (d0 :: ds2) := DaAll.keep k3 (fun a h => by
              rw [h]
              exact hS) (.cons h0 hr2)
            obtain ⟨di, hdi, hxi⟩ := hall3.get (List.getElem?_eq_getElem hi)
            have hsplit : d0 :: ds2 = (d0 :: ds2).take sp ++ (di :: (d0 :: ds2).drop (sp + 1)) := by
              have h1 := List.drop_eq_getElem_cons hid
              have h2 : (d0 :: ds2)[sp] = di := by
                have := List.getElem?_eq_getElem hid
                rw [hdi] at this
                exact (Option.some.inj this).symm
              rw [h2] at h1
              rw [← h1, List.take_append_drop]
            generalize hA : (d0 :: ds2).take sp = dA at hsplit
            generalize hB : (d0 :: ds2).drop (sp + 1) = dB at hsplit
            have hok : ∀ m, okAll m dA = true ∧ okD m di = true ∧ okAll m dB = true := fun m => by
              have h1 : okAll m (d0 :: ds2) = true := by
                cases m
                · exact hpd.2.1
                · exact hpd.1
              rw [hsplit, okAll_app, Bool.and_eq_true] at h1
              have h2 : (okD m di && okAll m dB) = true := h1.2
              rw [Bool.and_eq_true] at h2
              exact ⟨h1.1, h2.1, h2.2⟩
            have hwA : wtAll (d0 :: ds2) = wtAll dA + (wt di + wtAll dB) := by
              rw [hsplit, wtAll_append]
              rfl
            have hdA : PyData.depthAll (d0 :: ds2) = max (PyData.depthAll dA) (max di.depth (PyData.depthAll dB)) := by
              rw [hsplit, depthAll_app]
              rfl
            have htri : treeD di = true := by
              have hj : ds2[sp - 1]? = some di := by
                have e0 : sp = (sp - 1) + 1 := by omega
                rw [e0] at hdi
                simpa using hdi
              exact tree_get htr hj
            have hwfi : wf di = true := by
              have hj : ds2[sp - 1]? = some di := by
                have e0 : sp = (sp - 1) + 1 := by omega
                rw [e0] at hdi
                simpa using hdi
              exact wf_get hwfd.2 hj
            have hsp2 : ∃ dA2, dA = d0 :: dA2 ∧ ds2 = dA2 ++ (di :: dB) := by
              obtain ⟨k, rfl⟩ : ∃ k, sp = k + 1 := ⟨sp - 1, by omega⟩
              refine ⟨ds2.take k, by rw [← hA]; rfl, ?_⟩
              have h3 := hsplit
              rw [← hA] at h3
              exact (List.cons.inj h3).2
            have hdp1 : PyData.depthAll (d0 :: ds2) + 1 < n + 1 := hdp
            have hwd : wt (.tuple (d0 :: ds2)) = 1 + wtAll (d0 :: ds2) := rfl
            have hdd : (PyData.tuple (d0 :: ds2)).depth = PyData.depthAll (d0 :: ds2) + 1 := rfl
            have hx1 : (x0 :: xs2).length ≤ 20000 := by
              rw [List.length_cons]
              omega
            refine (ew_upto (K := K) (k := sp) (ev_var rfl) (ev_var rfl) ha3) H3 (Ex.refl _) _ fun pa H4 e4 hpa => ?_
            have hap : ¬ pa = p := fun h => by
              obtain ⟨g, mm, c, hp1, _⟩ := dr3.same e4
              rw [h, hp1] at hpa
              cases hpa
            have hO4 : Occ S H4 := (hO.kp k3 dr3).ex e4
            refine ⟨.ref p, rfl, .ref a, rfl, .int sp, rfl, a, x0 :: xs2, (sp : Int), (x0 :: xs2)[sp], rfl, rfl, st_of (e4 _ _ ha3), at_of (j := sp) (by omega) (List.getElem?_eq_getElem hi), y, rfl, p, (x0 :: xs2)[sp], y, di, e, S, rfl, dr3.same e4, hS, hO4, hxi.same e4, (hy.keep k3 (fun a h => by
              rw [h]
              exact hS)).same e4, ⟨(hok true).2.1, (hok false).2.1, htri, hwfi⟩, by omega, by omega, fun v d' H5 k5 dr5 hv hokd hwfe hwd' hdp' => ⟨by show 1 ≤ sizeLine; decide, fun b hb => ⟨pa, b, (x0 :: xs2).take sp, [v], rfl, rfl, st_of ((Ex.new hb) _ _ (k5 _ _ hap hpa)), st_of upd_same, sz_of (by rw [List.length_take, List.length_singleton]; omega), (fun z => ?_), (fun _ z => nomatch z), fun _ _ c hc => ?_⟩⟩⟩
            · have : ((x0 :: xs2).take sp).length = 0 := by rw [z] <;> rfl
              rw [List.length_take] at this
              omega
            · have eb := Ex.new (o := .tup [v]) hb
              have ec := Ex.new (o := .tup ((x0 :: xs2).take sp ++ [v])) hc
              have kk5 : Kp (fun a => a = p) H H5 := (k3.trans (Kp.of e4)).trans k5
              have ha7 := ec _ _ (eb _ _ (kk5 _ _ hnp ha))
              refine (ew_from (K := K) (k := sp + 1) (ev_var rfl) (ev_is (ev_op (ev_var rfl) ev_c rv_I0) (congrArg V.int (by omega))) ha7) _ (Ex.refl _) _ fun pd H8 e8 hpd8 => ?_
              have e58 := (eb.trans ec).trans e8
              have hall : DaAll S H8 ((x0 :: xs2).take sp ++ [v] ++ (x0 :: xs2).drop (sp + 1)) (dA ++ [d'] ++ dB) := by
                have h5 : DaAll S H5 (x0 :: xs2) (d0 :: ds2) := (hall3.same e4).keep k5 fun a h => by
                  rw [h]
                  exact hS
                have hT := h5.take sp
                have hD := h5.drop (sp + 1)
                rw [hA] at hT
                rw [hB] at hD
                exact ((hT.append (.cons hv .nil)).append hD).same e58
              have hO8 : Occ S H8 := (hO4.kp k5 dr5).ex e58
              have fin : ∀ (f : Addr) (H9 : Hp), Ex H8 H9 → Da S H9 (.ref f) (.tuple (dA ++ [d'] ++ dB)) → Q (.ref f) H9 := fun f H9 e9 hf => q (.ref f) _ H9 (kk5.trans (Kp.of (e58.trans e9))) (dr5.same (e58.trans e9)) hf (fun m he => by
                show okAll m (dA ++ [d'] ++ dB) = true
                rw [okAll_app, okAll_app, (hok m).1, (hok m).2.2]
                show (true && (okD m d' && true) && true) = true
                rw [hokd m he] <;> rfl) (fun he => by
                obtain ⟨dA2, e1, e2⟩ := hsp2
                rw [e1]
                show (headOk d0 (dA2 ++ [d'] ++ dB).length && wfAll (dA2 ++ [d'] ++ dB)) = true
                have h2 := hwfd.2
                have h1 := hwfd.1
                rw [e2] at h1 h2
                rw [wfAll_app] at h2
                have h2 : (wfAll dA2 && (wf di && wfAll dB)) = true := h2
                rw [Bool.and_eq_true, Bool.and_eq_true] at h2
                rw [wfAll_app, wfAll_app, h2.1, h2.2.2]
                have hl : (dA2 ++ [d'] ++ dB).length = (dA2 ++ (di :: dB)).length := by simp
                rw [hl, h1]
                show (true && (true && (wf d' && true) && true)) = true
                rw [hwfe he] <;> rfl) (by
                show 1 + wtAll (dA ++ [d'] ++ dB) ≤ _
                rw [wtAll_append, wtAll_append]
                show 1 + (wtAll dA + (wt d' + 0) + wtAll dB) ≤ _
                omega) (by
                show PyData.depthAll (dA ++ [d'] ++ dB) + 1 ≤ _
                rw [depthAll_app, depthAll_app]
                show max (max (PyData.depthAll dA) (max d'.depth 0)) (PyData.depthAll dB) + 1 ≤ _
                omega)
              refine ⟨c, pd, _, _, rfl, rfl, st_of (e8 _ _ upd_same), st_of hpd8, sz_of (by rw [List.length_append, List.length_take, List.length_drop, List.length_singleton]; omega), (fun z => ?_), (fun _ z => ?_), fun _ _ f hf => ?_⟩
              · have := congrArg List.length z
                rw [List.length_append, List.length_singleton] at this
                cases this
              · rw [z, List.append_nil] at hall
                exact fin c H8 (Ex.refl _) (.tup (fun s => (hO4.kp k5 dr5).ex eb c s hc) (e8 _ _ upd_same) hall)
              · exact fin f _ (Ex.new hf) (new_tup hf hO8 hall)
    | non | bl | str | lst | dct =>
      have := hpd.2.2.1
      cases this
def odd1 : List PyData := [.none, .bool true, .bool false, .int (-1), .int (200), .int (10 ^ 30), .str "", .str "Int", .str "->", .tuple [], .list [], .dict [], .tuple [.str "int"], .tuple [.str ""], .tuple [.str "->"], .tuple [.str "->", .int (0)]]
def odd2 : List PyData := [.tuple [.str "->", .int (0), .int (1), .int (2)], .tuple [.str "A_"], .tuple [.str "Abcdefghi"], .tuple [.str "A", .int (0), .int (1), .int (2), .int (3)], .list [.str "A"], .tuple [.int (0)], .tuple [.bool true], .tuple [.str "A", .none], .int (199), .int (7)]
def odd3 : List PyData := [.tuple [.str "A", .list [.int (0)]], .tuple [.str "A", .tuple [.str "b"]], .tuple [.str "Aa1"], .tuple [.str "1A"], .tuple [.dict []], .tuple [.tuple [.str "A"]]]
def oddOk (d : PyData) : Bool := (okD true d || okD false d) && decide (wt d ≤ 200) && decide (d.depth ≤ 3)
theorem ds_dict {S : Addr → Prop} {σ : L2.St} {H : Hp} (o : Occ S H) : EvDs tDNewK S σ H (.dict []) := fun H1 e Q q a ha => q _ _ (Ex.new ha) (.dct (ds := []) (fun s => (o.ex e) a s ha) upd_same .nil)
/-! ### _law_odd -/
def spOdd : Sp := fun vs H Q _ => ∃ (p : Addr) (S : Addr → Prop), vs = [.ref p] ∧ Drawn H p ∧ S p ∧ Occ S H ∧ ∀ v d H', Kp (fun a => a = p) H H' → Drawn H' p → Da S H' v d → (okD true d = true ∨ okD false d = true) → wt d ≤ 200 → d.depth ≤ 3 → Q v H'
theorem ok_law_odd (T : Tx K mg) : FnOk P w K mg base CX0 3 T.law_odd.f T.law_odd.fd ["_law_drawn"] spOdd := by
  have G_law_one := ok_law_one (P := P) (w := w) (base := base) T
  refine T.law_odd.F.ok sc_law_odd (fun vs H Q E h => ?_) (fun cdv A outer s H vs Q E hr h => ?_)
  · obtain ⟨p, S, rfl, _⟩ := h
    rfl
  obtain ⟨p, S, rfl, hp, hS, hO, q⟩ := h
  refine ⟨_, pss_cons (ps_set (i := 1) sc_law_odd.nd rfl (Or.inl rfl) (pe_lst (pa_cons pe_non (pa_cons pe_bl (pa_cons pe_bl (pa_cons (pe_un un_neg pe_int) (pa_cons pe_int (pa_cons (pe_op op_pow pe_int pe_int) (pa_cons pe_str (pa_cons pe_str (pa_cons pe_str (pa_cons (pe_tup pa_nil) (pa_cons (pe_lst pa_nil) (pa_cons pe_dnewK (pa_cons (pe_tup (pa_cons pe_str pa_nil)) (pa_cons (pe_tup (pa_cons pe_str pa_nil)) (pa_cons (pe_tup (pa_cons pe_str pa_nil)) (pa_cons (pe_tup (pa_cons pe_str (pa_cons pe_int pa_nil))) pa_nil))))))))))))))))))
      (pss_cons (ps_set (i := 1) sc_law_odd.nd rfl (Or.inl rfl) (pe_op op_cat (pv 1) (pe_lst (pa_cons (pe_tup (pa_cons pe_str (pa_cons pe_int (pa_cons pe_int (pa_cons pe_int pa_nil))))) (pa_cons (pe_tup (pa_cons pe_str pa_nil)) (pa_cons (pe_tup (pa_cons pe_str pa_nil)) (pa_cons (pe_tup (pa_cons pe_str (pa_cons pe_int (pa_cons pe_int (pa_cons pe_int (pa_cons pe_int pa_nil)))))) (pa_cons (pe_lst (pa_cons pe_str pa_nil)) (pa_cons (pe_tup (pa_cons pe_int pa_nil)) (pa_cons (pe_tup (pa_cons pe_bl pa_nil)) (pa_cons (pe_tup (pa_cons pe_str (pa_cons pe_non pa_nil))) (pa_cons pe_int (pa_cons pe_int pa_nil)))))))))))))
      (pss_one (ps_ret (pe_call G_law_one (hr.mono (by omega)) (by rfl) T.law_one.g T.law_one.F.kp T.law_one.b .nil pass0 (pa_cons (pv 0) (pa_cons (pe_op op_cat (pv 1) (pe_lst (pa_cons (pe_tup (pa_cons pe_str (pa_cons (pe_lst (pa_cons pe_int pa_nil)) pa_nil))) (pa_cons (pe_tup (pa_cons pe_str (pa_cons (pe_tup (pa_cons pe_str pa_nil)) pa_nil))) (pa_cons (pe_tup (pa_cons pe_str pa_nil)) (pa_cons (pe_tup (pa_cons pe_str pa_nil)) (pa_cons (pe_tup (pa_cons pe_dnewK pa_nil)) (pa_cons (pe_tup (pa_cons (pe_tup (pa_cons pe_str pa_nil)) pa_nil)) pa_nil)))))))) pa_nil)))))), ?_⟩
  refine q_asgR (fun v H' => Ex H H' ∧ Da S H' v (.list odd1)) (fun Q' q' => (show EvDs _ S _ H (.list odd1) from (ds_lst (hO) (da_cons (ds_c .non) (da_cons (ds_c (.bl true)) (da_cons (ds_c (.bl false)) (da_cons (ds_ev (ev_un ev_c ru_neg) (.int _)) (da_cons (ds_c (.int 200)) (da_cons (ds_ev (ev_op ev_c ev_c (rv_I ⟨by decide, by decide, by decide⟩)) (.int _)) (da_cons (ds_c (.str _)) (da_cons (ds_c (.str _)) (da_cons (ds_c (.str _)) (da_cons (ds_tup (hO) da_nil (by decide)) (da_cons (ds_lst (hO) da_nil (by decide)) (da_cons (ds_dict (hO)) (da_cons (ds_tup (hO) (da_cons (ds_c (.str _)) da_nil) (by decide)) (da_cons (ds_tup (hO) (da_cons (ds_c (.str _)) da_nil) (by decide)) (da_cons (ds_tup (hO) (da_cons (ds_c (.str _)) da_nil) (by decide)) (da_cons (ds_tup (hO) (da_cons (ds_c (.str _)) (da_cons (ds_c (.int 0)) da_nil)) (by decide)) da_nil)))))))))))))))) (by decide))) H (Ex.refl _) _ fun v H' e hv => q' v H' ⟨e, hv⟩) ?_
  rintro u1 H1 ⟨e1, hu1⟩
  have o1 := hO.ex e1
  refine q_asgR (fun v H' => Ex H H' ∧ Da S H' v (.list (odd1 ++ odd2))) (fun Q' q' => (ds_cat o1 (ds_ev (ev_var rfl) hu1) (show EvDs _ S _ H1 (.list odd2) from (ds_lst (o1) (da_cons (ds_tup (o1) (da_cons (ds_c (.str _)) (da_cons (ds_c (.int 0)) (da_cons (ds_c (.int 1)) (da_cons (ds_c (.int 2)) da_nil)))) (by decide)) (da_cons (ds_tup (o1) (da_cons (ds_c (.str _)) da_nil) (by decide)) (da_cons (ds_tup (o1) (da_cons (ds_c (.str _)) da_nil) (by decide)) (da_cons (ds_tup (o1) (da_cons (ds_c (.str _)) (da_cons (ds_c (.int 0)) (da_cons (ds_c (.int 1)) (da_cons (ds_c (.int 2)) (da_cons (ds_c (.int 3)) da_nil))))) (by decide)) (da_cons (ds_lst (o1) (da_cons (ds_c (.str _)) da_nil) (by decide)) (da_cons (ds_tup (o1) (da_cons (ds_c (.int 0)) da_nil) (by decide)) (da_cons (ds_tup (o1) (da_cons (ds_c (.bl true)) da_nil) (by decide)) (da_cons (ds_tup (o1) (da_cons (ds_c (.str _)) (da_cons (ds_c .non) da_nil)) (by decide)) (da_cons (ds_c (.int 199)) (da_cons (ds_c (.int 7)) da_nil)))))))))) (by decide))) (by decide)) H1 (Ex.refl _) _ fun v H' e hv => q' v H' ⟨e1.trans e, hv⟩) ?_
  rintro u2 H2 ⟨e2, hu2⟩
  have o2 := hO.ex e2
  refine (ed_oneD (ds := odd1 ++ odd2 ++ odd3) (hp.same e2) hS (ev_var rfl) (ds_cat o2 (ds_ev (ev_var rfl) hu2) (show EvDs _ S _ H2 (.list odd3) from (ds_lst (o2) (da_cons (ds_tup (o2) (da_cons (ds_c (.str _)) (da_cons (ds_lst (o2) (da_cons (ds_c (.int 0)) da_nil) (by decide)) da_nil)) (by decide)) (da_cons (ds_tup (o2) (da_cons (ds_c (.str _)) (da_cons (ds_tup (o2) (da_cons (ds_c (.str _)) da_nil) (by decide)) da_nil)) (by decide)) (da_cons (ds_tup (o2) (da_cons (ds_c (.str _)) da_nil) (by decide)) (da_cons (ds_tup (o2) (da_cons (ds_c (.str _)) da_nil) (by decide)) (da_cons (ds_tup (o2) (da_cons (ds_dict (o2)) da_nil) (by decide)) (da_cons (ds_tup (o2) (da_cons (ds_tup (o2) (da_cons (ds_c (.str _)) da_nil) (by decide)) da_nil) (by decide)) da_nil)))))) (by decide))) (by decide)) (by decide) (by decide)) _ fun v H' k d hv => ?_
  obtain ⟨dd, hdd, hda⟩ := hv
  have hall : (odd1 ++ odd2 ++ odd3).all oddOk = true := by decide +kernel
  have hk := List.all_eq_true.mp hall dd hdd
  unfold oddOk at hk
  simp only [Bool.and_eq_true, Bool.or_eq_true, decide_eq_true_eq] at hk
  exact q v dd H' ((Kp.of e2).trans k) d hda hk.1.1 hk.1.2 hk.2
end
end K1
set_option Elab.async false
set_option linter.all false
set_option maxRecDepth 100000
set_option maxHeartbeats 4000000
namespace K1
open PySem PySem.Spec PyProof.Rows L2 Evl Sl
/-! ### the texts of such data -/
theorem textFrom_up : ∀ (ts : List Str) (k : Nat) (acc : Str), (textFrom k acc ts).length ≤ acc.length + piled ts
  | [], k, acc => by
    show acc.length ≤ acc.length + 0
    exact Nat.le_refl _
  | t :: ts, k, acc => by
    have h := textFrom_up ts (k + 1) (acc ++ (if k > 0 then ", " else "" : String) ++ t)
    rw [strLen_append, strLen_append] at h
    rw [piled_cons]
    have e : (((if k > 0 then ", " else "" : String) : Str)).length ≤ 2 := by split <;> decide
    show (textFrom (k + 1) (acc ++ (if k > 0 then ", " else "" : String) ++ t) ts).length ≤ _
    omega
theorem tupleText_up (ts : List Str) : (tupleText ts).length ≤ piled ts + 3 := by
  unfold tupleText
  rw [strLen_append, strLen_append]
  have e1 : ((("(" : String) : Str)).length = 1 := rfl
  have e3 : (((if ts.length == 1 then ",)" else ")" : String) : Str)).length ≤ 2 := by split <;> decide
  rw [e1]
  by_cases h : ts = []
  · subst h
    show 1 + 0 + _ ≤ 0 + 3
    omega
  · have := join_length_add ts h
    omega
mutual
theorem ok_showable (m : Bool) : ∀ d : PyData, okD m d = true → d.showable = true
  | .none, _ => by simp [PyData.showable]
  | .bool _, _ => by simp [PyData.showable]
  | .str _, _ => by simp [PyData.showable]
  | .int i, h => by
    have h2 : decide (i.natAbs.log2 < 1920) = true := h
    simpa [PyData.showable] using h2
  | .list xs, h => by
    have h2 : (m && okAll m xs) = true := h
    rw [Bool.and_eq_true] at h2
    simpa [PyData.showable] using ok_showableAll m xs h2.2
  | .tuple xs, h => by
    have h2 : okAll m xs = true := h
    simpa [PyData.showable] using ok_showableAll m xs h2
  | .dict [], h => by simp [PyData.showable, PyData.showableKv]
  | .dict (_ :: _), h => by
    have h2 : (!m && false) = true := h
    rw [Bool.and_false] at h2
    cases h2
theorem ok_showableAll (m : Bool) : ∀ ds : List PyData, okAll m ds = true → PyData.showableAll ds = true
  | [], _ => by simp [PyData.showableAll]
  | d :: ds, h => by
    have h2 : (okD m d && okAll m ds) = true := h
    rw [Bool.and_eq_true] at h2
    rw [PyData.showableAll, ok_showable m d h2.1, ok_showableAll m ds h2.2] <;> rfl
end
mutual
theorem ok_noDict : ∀ d : PyData, okD true d = true → d.hasDict = false
  | .none, _ => by simp [PyData.hasDict]
  | .bool _, _ => by simp [PyData.hasDict]
  | .str _, _ => by simp [PyData.hasDict]
  | .int i, h => by simp [PyData.hasDict]
  | .list xs, h => by
    have h2 : (true && okAll true xs) = true := h
    rw [Bool.and_eq_true] at h2
    simpa [PyData.hasDict] using ok_noDictAll xs h2.2
  | .tuple xs, h => by
    have h2 : okAll true xs = true := h
    simpa [PyData.hasDict] using ok_noDictAll xs h2
  | .dict kvs, h => by
    have h2 : (!true && kvs.isEmpty) = true := h
    cases h2
theorem ok_noDictAll : ∀ ds : List PyData, okAll true ds = true → PyData.hasDictAll ds = false
  | [], _ => by simp [PyData.hasDictAll]
  | d :: ds, h => by
    have h2 : (okD true d && okAll true ds) = true := h
    rw [Bool.and_eq_true] at h2
    rw [PyData.hasDictAll, ok_noDict d h2.1, ok_noDictAll ds h2.2] <;> rfl
end
mutual
theorem ok_noLst : ∀ d : PyData, okD false d = true → noLst d = true
  | .none, _ => by simp [noLst]
  | .bool _, _ => by simp [noLst]
  | .str _, _ => by simp [noLst]
  | .int i, h => by simp [noLst]
  | .list xs, h => by
    have h2 : (false && okAll false xs) = true := h
    cases h2
  | .tuple xs, h => by
    have h2 : okAll false xs = true := h
    simpa [noLst] using ok_noLstAll xs h2
  | .dict [], h => by simp [noLst, noLstKv]
  | .dict (_ :: _), h => by
    have h2 : (!false && false) = true := h
    cases h2
theorem ok_noLstAll : ∀ ds : List PyData, okAll false ds = true → noLstAll ds = true
  | [], _ => by simp [noLstAll]
  | d :: ds, h => by
    have h2 : (okD false d && okAll false ds) = true := h
    rw [Bool.and_eq_true] at h2
    rw [noLstAll, ok_noLst d h2.1, ok_noLstAll ds h2.2] <;> rfl
end
theorem ok_kNo {d : PyData} (h : okD true d = true ∨ okD false d = true) : kNo d = true := by
  unfold kNo
  rcases h with h | h
  · rw [ok_noDict d h] <;> rfl
  · rw [ok_noLst d h, Bool.or_true]
mutual
theorem ok_shown (m : Bool) : ∀ d : PyData, okD m d = true → d.shown.length + 2 ≤ 2000 * wt d
  | .none, _ => by
    rw [PyData.shown]
    show (("None" : String) : Str).length + 2 ≤ 2000 * 1
    decide
  | .bool b, _ => by
    rw [PyData.shown]
    show _ ≤ 2000 * 1
    cases b <;> decide
  | .str x, h => by
    have h2 : (x.cps.toList.all fun c => decide (c < 16 ^ 8)) = true := h
    have h3 := StrLaws.reprText_len x (fun c hc => of_decide_eq_true (List.all_eq_true.mp h2 c hc))
    rw [PyData.shown]
    show _ ≤ 2000 * (1 + x.length)
    omega
  | .int i, h => by
    have h2 : decide (i.natAbs.log2 < 1920) = true := h
    have h3 := int_text_len_1921 (of_decide_eq_true h2)
    rw [PyData.shown]
    have hw : wt (.int i) = 1 + i.natAbs.log2 := rfl
    rw [hw]
    have h4 : (Str.ofString (toString i)).length + 2 ≤ 2000 * (1 + i.natAbs.log2) := by omega
    exact h4
  | .list xs, h => by
    have h2 : (m && okAll m xs) = true := h
    rw [Bool.and_eq_true] at h2
    have h3 := ok_shownAll m xs h2.2
    have h4 := textFrom_up (PyData.shownAll xs) 0 "["
    rw [PyData.shown]
    show (textFrom 0 "[" (PyData.shownAll xs) ++ "]").length + 2 ≤ 2000 * (1 + wtAll xs)
    rw [strLen_append]
    have e1 : ((("[" : String) : Str)).length = 1 := rfl
    have e2 : ((("]" : String) : Str)).length = 1 := rfl
    omega
  | .tuple xs, h => by
    have h2 : okAll m xs = true := h
    have h3 := ok_shownAll m xs h2
    have h4 := tupleText_up (PyData.shownAll xs)
    rw [PyData.shown]
    show (tupleText (PyData.shownAll xs)).length + 2 ≤ 2000 * (1 + wtAll xs)
    omega
  | .dict [], h => by
    rw [PyData.shown]
    show (dictText (PyData.shownKv [])).length + 2 ≤ 2000 * 1
    rw [PyData.shownKv]
    decide
  | .dict (_ :: _), h => by
    have h2 : (!m && false) = true := h
    rw [Bool.and_false] at h2
    cases h2
theorem ok_shownAll (m : Bool) : ∀ ds : List PyData, okAll m ds = true → piled (PyData.shownAll ds) ≤ 2000 * wtAll ds
  | [], _ => by
    rw [PyData.shownAll]
    exact Nat.zero_le _
  | d :: ds, h => by
    have h2 : (okD m d && okAll m ds) = true := h
    rw [Bool.and_eq_true] at h2
    have h3 := ok_shown m d h2.1
    have h4 := ok_shownAll m ds h2.2
    rw [PyData.shownAll, piled_cons]
    show _ ≤ 2000 * (wt d + wtAll ds)
    omega
end
def goodD (d : PyData) : Prop := (okD true d = true ∨ okD false d = true) ∧ wt d ≤ 8000 ∧ d.depth ≤ 120
theorem good_shown {d : PyData} (h : goodD d) : d.shown.length ≤ sizeLine := by
  have hs : sizeLine = 16777216 := by decide
  have h1 : d.shown.length + 2 ≤ 2000 * wt d := by
    rcases h.1 with q | q
    · exact ok_shown _ d q
    · exact ok_shown _ d q
  have := h.2.1
  omega
theorem good_showable {d : PyData} (h : goodD d) : d.showable = true := by
  rcases h.1 with q | q
  · exact ok_showable _ d q
  · exact ok_showable _ d q
end K1
set_option Elab.async false
set_option linter.all false
set_option maxRecDepth 100000
set_option maxHeartbeats 4000000
namespace K1
open PySem PySem.Spec PyProof.Rows L2 Evl Sl
section
variable {P : Program} {w : World} {K : PySem.W.Frag} {mg : Str → Option Value} {base : Heap}
mutual
theorem leaves_cnt : ∀ d : PyData, (leaves d).length ≤ cnt d
  | .none | .bool _ | .str _ | .list _ | .dict _ => Nat.zero_le _
  | .int i => Nat.le_refl _
  | .tuple [] => Nat.zero_le _
  | .tuple (x :: xs) => by
    have := leavesAll_cnt xs
    show (leavesAll xs).length ≤ 1 + cntAll xs
    omega
theorem leavesAll_cnt : ∀ ds : List PyData, (leavesAll ds).length ≤ cntAll ds
  | [] => Nat.le_refl _
  | d :: ds => by
    have := leaves_cnt d
    have := leavesAll_cnt ds
    show (leaves d ++ leavesAll ds).length ≤ cnt d + cntAll ds
    rw [List.length_append]
    omega
end
mutual
theorem leaves_small : ∀ d : PyData, wf d = true → ∀ i, i ∈ leaves d → 0 ≤ i ∧ i ≤ 199
  | .none, _, i, h | .bool _, _, i, h | .str _, _, i, h | .list _, _, i, h | .dict _, _, i, h => by cases h
  | .int j, w, i, h => by
    have w2 : (decide (0 ≤ j) && decide (j ≤ 199)) = true := w
    rw [Bool.and_eq_true, decide_eq_true_eq, decide_eq_true_eq] at w2
    have e : i = j := List.mem_singleton.mp h
    rw [e]
    exact w2
  | .tuple [], _, i, h => by cases h
  | .tuple (x :: xs), w, i, h => by
    have w2 : (headOk x xs.length && wfAll xs) = true := w
    exact leavesAll_small xs ((Bool.and_eq_true _ _).mp w2).2 i h
theorem leavesAll_small : ∀ ds : List PyData, wfAll ds = true → ∀ i, i ∈ leavesAll ds → 0 ≤ i ∧ i ≤ 199
  | [], _, i, h => by cases h
  | d :: ds, w, i, h => by
    have w2 : (wf d && wfAll ds) = true := w
    rw [Bool.and_eq_true] at w2
    have h2 : i ∈ leaves d ++ leavesAll ds := h
    rcases List.mem_append.mp h2 with h | h
    · exact leaves_small d w2.1 i h
    · exact leavesAll_small ds w2.2 i h
end
theorem nat_log7 {r : Int} (h0 : 0 ≤ r) (h1 : r < 256) : r.natAbs.log2 ≤ 7 := nat_log h0 (by
  have : (2 : Int) ^ (7 + 1) = 256 := by decide
  omega)
theorem wt_ints : ∀ xs : List Int, (∀ i, i ∈ xs → 0 ≤ i ∧ i ≤ 199) → wtAll (xs.map PyData.int) ≤ 8 * xs.length
  | [], _ => Nat.le_refl _
  | x :: xs, h => by
    have h1 := wt_ints xs fun i hi => h i (List.mem_cons_of_mem _ hi)
    have h2 := h x List.mem_cons_self
    have h3 : x.natAbs.log2 ≤ 7 := nat_log7 h2.1 (by omega)
    show 1 + x.natAbs.log2 + wtAll (xs.map PyData.int) ≤ 8 * (xs.length + 1)
    omega
theorem lay_ints : ∀ xs : List Int, PyData.canLayAll0 (xs.map PyData.int) = true ∧ PyData.depthAll (xs.map PyData.int) = 0
  | [] => ⟨by simp [PyData.canLayAll0], rfl⟩
  | x :: xs => by
    have h := lay_ints xs
    constructor
    · rw [List.map_cons, PyData.canLayAll0, h.1]
      simp [PyData.canLay0]
    · show max 0 _ = 0
      rw [h.2] <;> rfl
theorem da_ints (S : Addr → Prop) (H : Hp) : ∀ xs : List Int, DaAll S H (xs.map V.int) (xs.map PyData.int)
  | [] => .nil
  | x :: xs => .cons (.int x) (da_ints S H xs)
theorem ev_repr {S : Addr → Prop} {σ : L2.St} {H : Hp} {ta : TE} {v : V} {d : PyData} (ha : Ev ta σ H v) (hd : Da S H v d) (hg : goodD d) : Ev (tCB rRepr (tCons ta tNil)) σ H (.str d.shown) :=
  ev_cb (ea_cons ha ea_nil) fun H1 e Q q => ⟨S, v, d, rfl, hd.same e, good_showable hg, ok_kNo hg.1, by have := hg.2.2; omega, good_shown hg, q H1 (Ex.refl H1)⟩
theorem ev_same {S : Addr → Prop} {σ : L2.St} {H : Hp} {ta : TA} {E : XK} {D : PyData} (h : EvDA ta S σ H [D, D]) (hz : Sz D) (hl : D.canLay0 = true) (hd : D.depth < 5) : Ev (tCall (spSame 5) [] E ta) σ H (.bl true) := fun H1 e Q q =>
  h H1 e _ fun vs H2 e2 hvs => by
    cases hvs with
    | cons hx t =>
      cases t with
      | cons hy t =>
        cases t
        exact ⟨S, _, _, D, rfl, hx, hy, hz, hl, hd, by decide, fun H3 e3 => q H3 (e2.trans e3)⟩
def SizeAt (u : V) (H : Hp) : Option (Nat × Nat) → Prop
  | none => u = .non
  | some (c, h) => ∃ l, u = .ref l ∧ H l = some (.lst [.int (c : Int), .int (h : Int)])
theorem SizeAt.same {u : V} {H H' : Hp} (e : Ex H H') : ∀ {o : Option (Nat × Nat)}, SizeAt u H o → SizeAt u H' o
  | none, h => h
  | some (c, h), ⟨l, e1, r⟩ => ⟨l, e1, e _ _ r⟩
/-! ### _law_right -/
def spRight : Sp := fun vs H Q _ => ∃ (S : Addr → Prop) (v : V) (d : PyData), vs = [v] ∧ Da S H v d ∧ goodD d ∧ ∀ H', Ex H H' → Q (.bl true) H'
theorem ok_law_right (T : Tx K mg) : FnG P w K mg base 200 T.law_right.f T.law_right.fd ["_law_value"] spRight := by
  have G_law_look := ok_law_look (P := P) (w := w) (base := base) T 121
  have G_law_same := ok_law_same (P := P) (w := w) (base := base) T 5
  have G_is_shape := ok_is_shape (P := P) (w := w) (base := base) T
  have G_variables_of := ok_variables_of (P := P) (w := w) (base := base) T
  have G_count_nodes := ok_count_nodes (P := P) (w := w) (base := base) T 121
  have G_law_vars := ok_law_vars (P := P) (w := w) (base := base) T 121
  refine fnG_mk (k := 199) T.law_right.F sc_law_right (fun vs H Q E h => ?_) (fun cdv A outer s H vs Q hg hr h => ?_)
  · obtain ⟨S, v, d, rfl, _⟩ := h
    rfl
  obtain ⟨S, v, d, rfl, hd, hgo, q⟩ := h
  have hgd : (A.deeper (envOfC (Str.ofString "_law_right") (defScope s_law_right) s.heap.objs.size T.law_right.f cdv)).guards = some [] := hg
  refine ⟨_, pss_cons (ps_set (i := 1) sc_law_right.nd rfl (Or.inl rfl) (pe_callB (call_repr hgd (hu1010 hr)) (by rfl) T.m_repr (by decide +kernel) (pa_cons (pv 0) pa_nil)))
      (pss_cons (ps_set (i := 2) sc_law_right.nd rfl (Or.inl rfl) (pe_call G_law_look (hr.mono (by omega)) (by rfl) T.law_look.g T.law_look.F.kp T.law_look.b .nil pass0 (pa_cons (pv 0) pa_nil)))
      (pss_cons (ps_set (i := 3) sc_law_right.nd rfl (Or.inl rfl) (pe_and (pe_cmpR op_notN (pv 2) pe_non (nomark _)) (pe_and (pe_cmpR op_le (pe_ix ix_list (pv 2) pe_int (fun _ _ => rfl)) pe_int (nomark _)) (pe_one (pe_cmpR op_le (pe_ix ix_list (pv 2) pe_int (fun _ _ => rfl)) pe_int (nomark _))))))
      (pss_cons (ps_if (PW.pt (pw_or (pt_not (pt_val (pe_call G_law_same (hr.mono (by omega)) (by rfl) T.law_same.g T.law_same.F.kp T.law_same.b .nil pass0 (pa_cons (pe_call G_is_shape (hr.mono (by omega)) (by rfl) T.is_shape.g T.is_shape.F.kp T.is_shape.b .nil pass0 (pa_cons (pv 0) pa_nil)) (pa_cons (pv 3) pa_nil))))) (pw_or1 (pt_cmpR op_ne (pe_callB (call_repr hgd (hu1010 hr)) (by rfl) T.m_repr (by decide +kernel) (pa_cons (pv 0) pa_nil)) (pv 1) (nomark _))))) (pss_one (ps_ret pe_bl)) pss_nil)
      (pss_cons (ps_if (pt_not (pt_val (pv 3))) (pss_one (ps_ret pe_bl)) pss_nil)
      (pss_cons (ps_set (i := 4) sc_law_right.nd rfl (Or.inl rfl) (pe_lst (pa_cons (pe_call G_variables_of (hr.mono (by omega)) (by rfl) T.variables_of.g T.variables_of.F.kp T.variables_of.b .nil pass0 (pa_cons (pv 0) pa_nil)) (pa_cons (pe_call G_count_nodes (hr.mono (by omega)) (by rfl) T.count_nodes.g T.count_nodes.F.kp T.count_nodes.b .nil pass0 (pa_cons (pv 0) pa_nil)) pa_nil))))
      (pss_one (ps_ret (pe_and (pe_call G_law_same (hr.mono (by omega)) (by rfl) T.law_same.g T.law_same.F.kp T.law_same.b .nil pass0 (pa_cons (pv 4) (pa_cons (pe_lst (pa_cons (pe_callTy call_tuple_of (by rfl) T.m_tuple (by decide +kernel) (pa_cons (pe_call G_law_vars (hr.mono (by omega)) (by rfl) T.law_vars.g T.law_vars.F.kp T.law_vars.b .nil pass0 (pa_cons (pv 0) pa_nil)) pa_nil)) (pa_cons (pe_ix ix_list (pv 2) pe_int (fun _ _ => rfl)) pa_nil))) pa_nil))) (pe_one (pe_cmpR op_eq (pe_callB (call_repr hgd (hu1010 hr)) (by rfl) T.m_repr (by decide +kernel) (pa_cons (pv 0) pa_nil)) (pv 1) (nomark _))))))))))), ?_⟩
  have hSz : Sz d := by
    have := hgo.2.1
    show wt d ≤ 20000
    omega
  have hdp : d.depth < 121 := by
    have := hgo.2.2
    omega
  refine q_asg (ev_repr (ev_var rfl) hd hgo) fun H1 e1 => ?_
  refine q_asgR (fun u H' => Ex H1 H' ∧ SizeAt u H' (lookD d)) (fun Q' q' => ⟨v, rfl, S, v, d, rfl, hd.same e1, hSz, hdp, ?_⟩) ?_
  · cases hl : lookD d with
    | none => exact fun H' e => q' _ _ ⟨e, by rw [hl]; rfl⟩
    | some ch =>
      obtain ⟨c, h⟩ := ch
      exact fun p H' hp e hpp => q' _ _ ⟨e, by rw [hl]; exact ⟨p, rfl, hpp⟩⟩
  rintro u H2 ⟨e2, hu⟩
  have e12 := e1.trans e2
  have hd2 := hd.same e12
  -- what is due
  refine q_asg (v := .bl (shapeD d)) ?_ fun H3 e3 => ?_
  · cases hw : wf d with
    | false =>
      have hl : lookD d = none := by
        unfold lookD
        rw [hw]
        rfl
      rw [hl] at hu
      have hu : u = .non := hu
      subst hu
      refine ev_is (ev_andV (a := false) (b := true) (ev_op (ev_var rfl) ev_c (rv_val fun H' e Q' q' => ⟨rfl, q'⟩)) fun z => nomatch z) (congrArg V.bl ?_)
      unfold shapeD
      rw [hw, Bool.and_false] <;> rfl
    | true =>
      have hl : lookD d = some (cnt d, hgt d) := by
        unfold lookD
        rw [hw]
        rfl
      rw [hl] at hu
      obtain ⟨l, rfl, hll⟩ := hu
      refine ev_is (ev_andV (a := true) (b := decide ((cnt d : Int) ≤ 200) && decide ((hgt d : Int) ≤ 30)) (ev_op (ev_var rfl) ev_c (rv_val fun H' e Q' q' => ⟨rfl, q'⟩)) fun _ => ev_andV (ev_op (ev_op (ev_var rfl) ev_c (rv_ixL (K := K) (sq_of hll) (at_of (j := 0) rfl rfl))) ev_c rv_I0) fun _ => ev_op (ev_op (ev_var rfl) ev_c (rv_ixL (K := K) (sq_of hll) (at_of (j := 1) rfl rfl))) ev_c rv_I0) (congrArg V.bl ?_)
      unfold shapeD smallD
      rw [hw, Bool.true_and, Bool.and_true]
      congr 1 <;> (apply decide_eq_decide.mpr; omega)
  have e13 := e12.trans e3
  have hd3 := hd.same e13
  have hu3 := hu.same e3
  refine q_when (b := false) (et_or (a := false) (b := false) (et_is (et_not (a := true) (et_B (ev_same (S := fun _ => False) (D := .bool (shapeD d)) (da_cons (ds_ev (ev_spD (ev_var rfl) hd3 hSz) (.bl _)) (da_cons (ds_ev (ev_var rfl) (.bl _)) da_nil)) (by show 1 ≤ 20000; decide) (by simp [PyData.canLay0]) (by show 0 < 5; decide)))) rfl) fun _ => et_test (ev_is (ev_op (ev_repr (ev_var rfl) hd3 hgo) (ev_var rfl) (rv_ne rfl)) (congrArg V.bl (by rw [decide_eq_true rfl] <;> rfl)))) (fun z => nomatch z) fun _ H4 e4 => ?_
  have e14 := e13.trans e4
  refine q_when (b := !shapeD d) (et_not (et_B (ev_var rfl))) (fun hb H5 e5 => ?_) (fun hb H5 e5 => ?_)
  · exact s_ret ev_c fun H6 e6 => q H6 ((e14.trans e5).trans e6)
  have e15 := e14.trans e5
  have hsh : shapeD d = true := by
    cases hh : shapeD d with
    | true => rfl
    | false =>
      rw [hh] at hb
      cases hb
  have hsh2 : cnt d ≤ 200 ∧ wf d = true := by
    unfold shapeD smallD at hsh
    simp only [Bool.and_eq_true, decide_eq_true_eq] at hsh
    exact ⟨hsh.1.1, hsh.2⟩
  have hl : lookD d = some (cnt d, hgt d) := by
    unfold lookD
    rw [hsh2.2]
    rfl
  rw [hl] at hu3
  obtain ⟨l, rfl, hll⟩ := hu3
  have hd5 := hd.same e15
  have hl5 := e5 _ _ (e4 _ _ hll)
  have hvl : (varsD d).length ≤ 200 := by
    have h1 := firsts_len [] (leaves d)
    have h2 := leaves_cnt d
    show (firsts [] (leaves d)).length ≤ 200
    simp only [List.length_nil] at h1
    omega
  have hvs : ∀ i, i ∈ varsD d → 0 ≤ i ∧ i ≤ 199 := fun i hi => by
    have : i ∈ firsts [] (leaves d) := hi
    rcases mem_firsts.mp this with h | h
    · cases h
    · exact leaves_small d hsh2.2 i h
  have hwv := wt_ints (varsD d) hvs
  have hlv := lay_ints (varsD d)
  refine q_asgR (fun w H' => Ex H5 H' ∧ Da (fun _ => False) H' w (.list [.tuple ((varsD d).map PyData.int), .int (cnt d : Int)])) (fun Q' q' => ⟨v, rfl, S, v, d, rfl, hd5, hSz, hsh2.2, fun pv H6 hpv e6 h6 => ?_⟩) ?_
  · refine (ev_spD (E := E0) (pre := pCnt 121) (g := fun d => V.int ((cnt d : Nat) : Int)) (ta := tVar 0) (σ := [some v, some (.str d.shown), some (.ref l), some (.bl (shapeD d)), none]) (ev_var rfl) (hd5.same e6) ⟨hSz, hdp⟩) H6 (Ex.refl _) _ fun H7 e7 => ⟨by show 2 ≤ sizeLine; decide, fun a ha => q' _ _ ⟨(e6.trans e7).trans (Ex.new ha), ?_⟩⟩
    exact .lst (fun z => z) upd_same (.cons (.tup (fun z => z) ((Ex.new ha) _ _ (e7 _ _ h6)) (da_ints _ _ _)) (.cons (.int _) .nil))
  rintro w2 H6 ⟨e6, hw6⟩
  have e16 := e15.trans e6
  have hd6 := hd.same e16
  have hl6 := e6 _ _ hl5
  have hO : Occ (fun _ => False) H6 := fun _ z => z.elim
  have hcl : (cnt d : Int).natAbs.log2 ≤ 7 := nat_log7 (by omega) (by omega)
  refine s_ret (v := .bl true) (ev_is (ev_andV (a := true) (b := true) (ev_same (S := fun _ => False) (D := .list [.tuple ((varsD d).map PyData.int), .int (cnt d : Int)]) (da_cons (ds_ev (ev_var rfl) hw6) (da_cons (ds_lst hO (da_cons (fun H7 e7 Q' q' => ?_) (da_cons (ds_ev (ev_op (ev_var rfl) ev_c (rv_ixL (K := K) (sq_of hl6) (at_of (j := 0) rfl rfl))) (.int _)) da_nil)) (by show 2 ≤ 100000; decide)) da_nil)) ?_ ?_ ?_) fun _ => ev_is (ev_op (ev_repr (ev_var rfl) hd6 hgo) (ev_var rfl) (rv_eq rfl)) (congrArg V.bl (decide_eq_true rfl))) rfl) fun H7 e7 => q H7 (e16.trans e7)
  · refine ⟨v, rfl, S, v, d, rfl, hd6.same e7, hSz, hsh2.2, hdp, fun pv H8 hpv e8 h8 => ⟨pv, _, rfl, .inl ⟨sq_of h8, fun a ha => q' _ _ (e8.trans (Ex.new ha)) (.tup (fun z => z) upd_same (da_ints _ _ _))⟩⟩⟩
  · show 1 + (1 + wtAll ((varsD d).map PyData.int) + (1 + (cnt d : Int).natAbs.log2 + 0)) ≤ 20000
    omega
  · simp [PyData.canLay0, PyData.canLayAll0, hlv.1]
  · show max (PyData.depthAll ((varsD d).map PyData.int) + 1) (max 0 0) + 1 < 5
    rw [hlv.2]
    decide
end
end K1
set_option Elab.async false
set_option linter.all false
set_option maxRecDepth 100000
set_option maxHeartbeats 4000000
namespace K1
open PySem PySem.Spec PyProof.Rows L2 Evl Sl
section
variable {P : Program} {w : World} {K : PySem.W.Frag} {mg : Str → Option Value} {base : Heap}
theorem fnG_mkN {P : Program} {w : World} {K : PySem.W.Frag} {mg : Str → Option Value} {base : Heap} {x qual : Str} {st : Stmt} {f : Addr} {fd : FuncData} {N ps : List Str} {k : Nat} {sp : Sp} (F : Fun K x qual st f fd) (S : FnScope N ps (defScope st)) (len : ∀ vs H Q E, sp vs H Q E → vs.length = ps.length)
    (body : ∀ (cdv : Value) (A : Around) (outer : List Env) (s : Shared) (H : Hp) (vs : List V) (Q : VK), A.guards = some [] → Room k (A.deeper (envOfC qual (defScope st) s.heap.objs.size f cdv)) → sp vs H Q E0 →
      ∃ t, PSs (cxOf CX0 P w K mg base N qual (defScope st) f cdv A outer s H E0).nox (defBody st) t ∧ t { nx := fun _ H' => Q .non H', rt := Q } (L2.start N vs) H) : FnG P w K mg base (k + 1) f fd ps sp :=
  fnG_mk F S len fun cdv A outer s H vs Q g r h => by
    obtain ⟨t, ht, q⟩ := body cdv A outer s H vs Q g r h
    exact ⟨t, ht.nox, q⟩
/-! ### parts of the proof of law -/
theorem ev_rightD {S : Addr → Prop} {σ : L2.St} {H : Hp} {ta : TA} {d : PyData} (h : EvDA ta S σ H [d]) (hg : goodD d) : Ev (fun σ H Q => ta σ H fun vs H1 => spRight vs H1 Q E0) σ H (.bl true) := fun H1 e Q q =>
  h H1 e _ fun vs H2 e2 hvs => by
    cases hvs with
    | cons hv t =>
      cases t
      exact ⟨S, _, d, rfl, hv, hg, fun H' e' => q H' (e2.trans e')⟩
theorem s_forVals {K : PySem.W.Frag} {S : Addr → Prop} {σ : L2.St} {H : Hp} {tl : TE} {tu : TS} {D : Ends} {j : Nat} {G : PyData → Prop} {R : Hp → Prop} (h0 : ∃ y, σ = σ.set j y) (hR : ∀ H1 H2, Ex H1 H2 → R H1 → R H2)
    (h : ∀ Q : VK, (∀ l vs ds H1, H1 l = some (.lst vs) → DaAll S H1 vs ds → (∀ d, d ∈ ds → G d) → R H1 → Q (.ref l) H1) → tl σ H Q)
    (hs : ∀ x d H2, R H2 → Da S H2 x d → G d → ∀ D' : Ends, (∀ H3, Ex H2 H3 → D'.nx (σ.set j (some x)) H3) → tu D' (σ.set j (some x)) H2)
    (hd : ∀ y H1, R H1 → D.nx (σ.set j y) H1) : tFor (iList K tl) (gName j) tu D σ H :=
  h _ fun l vs ds H1 hl hda hg hr => ⟨l, rfl, ⟨vs, sq_of hl⟩, for_list (fun i σ' H' => Ex H1 H' ∧ ∃ y, σ' = σ.set j y) ⟨Ex.refl H1, h0⟩ (fun i σ' H' _ p => sq_of (p.1 _ _ hl)) (fun i x σ' H' hx p => by
    obtain ⟨e, y, rfl⟩ := p
    obtain ⟨d, hd2, hx2⟩ := (hda.same e).get hx
    show tu _ ((σ.set j y).set j (some x)) H'
    rw [List.set_set]
    exact hs x d H' (hR _ _ e hr) hx2 (hg d (List.mem_of_getElem? hd2)) _ fun H3 e3 => ⟨e.trans e3, _, rfl⟩) (fun σ' H' p => by
    obtain ⟨e, y, rfl⟩ := p
    exact hd y H' (hR _ _ e hr))⟩
theorem q_forVals {K : PySem.W.Frag} {S : Addr → Prop} {σ : L2.St} {H : Hp} {tl : TE} {tu tz : TS} {D : Ends} {j : Nat} {G : PyData → Prop} {R : Hp → Prop} (h0 : ∃ y, σ = σ.set j y) (hR : ∀ H1 H2, Ex H1 H2 → R H1 → R H2)
    (h : ∀ Q : VK, (∀ l vs ds H1, H1 l = some (.lst vs) → DaAll S H1 vs ds → (∀ d, d ∈ ds → G d) → R H1 → Q (.ref l) H1) → tl σ H Q)
    (hs : ∀ x d H2, R H2 → Da S H2 x d → G d → ∀ D' : Ends, (∀ H3, Ex H2 H3 → D'.nx (σ.set j (some x)) H3) → tu D' (σ.set j (some x)) H2)
    (hd : ∀ y H1, R H1 → tz D (σ.set j y) H1) : tSeq (tFor (iList K tl) (gName j) tu) tz D σ H :=
  s_forVals (D := { D with nx := tz D }) h0 hR h hs hd
theorem q_forFam {K : PySem.W.Frag} {S : Addr → Prop} {σ : L2.St} {H : Hp} {tl : TE} {tu tz : TS} {D : Ends} {j : Nat} {G : PyData → Prop} (Fam : L2.St → Prop) (h0 : Fam σ)
    (h : ∀ Q : VK, (∀ l vs ds H1, H1 l = some (.lst vs) → DaAll S H1 vs ds → (∀ d, d ∈ ds → G d) → Q (.ref l) H1) → tl σ H Q)
    (hs : ∀ x d σ' H2, Fam σ' → Da S H2 x d → G d → ∀ D' : Ends, (∀ σ2 H3, Fam σ2 → Ex H2 H3 → D'.nx σ2 H3) → tu D' (σ'.set j (some x)) H2)
    (hd : ∀ σ' H1, Fam σ' → tz D σ' H1) : tSeq (tFor (iList K tl) (gName j) tu) tz D σ H :=
  h _ fun l vs ds H1 hl hda hg => ⟨l, rfl, ⟨vs, sq_of hl⟩, for_list (D := { D with nx := tz D }) (fun i σ' H' => Ex H1 H' ∧ Fam σ') ⟨Ex.refl H1, h0⟩ (fun i σ' H' _ p => sq_of (p.1 _ _ hl)) (fun i x σ' H' hx p => by
    obtain ⟨e, f⟩ := p
    obtain ⟨d, hd2, hx2⟩ := (hda.same e).get hx
    exact hs x d σ' H' f hx2 (hg d (List.mem_of_getElem? hd2)) _ fun σ2 H3 f2 e3 => ⟨e.trans e3, f2⟩) (fun σ' H' p => hd σ' H' p.2)⟩
def EvTF (t : TT) (σ : L2.St) (H : Hp) (M : Hp → Prop) : Prop := ∀ Q : Bool → Hp → Prop, (∀ H', M H' → Q false H') → t σ H Q
theorem tf_or {t u : TT} {σ : L2.St} {H : Hp} {M N : Hp → Prop} (h1 : EvTF t σ H M) (h2 : ∀ H', M H' → EvTF u σ H' N) : EvTF (tOr t u) σ H N := fun Q q => h1 _ fun H' m => (show u σ H' Q from h2 H' m Q q)
theorem tf_not {te : TE} {σ : L2.St} {H : Hp} {M : Hp → Prop} (h : ∀ Q : VK, (∀ H', M H' → Q (.bl true) H') → te σ H Q) : EvTF (tNot (tB te)) σ H M := fun Q q => h _ fun H' m => ⟨true, rfl, q H' m⟩
theorem s_whenF {t : TT} {tu : TS} {D : Ends} {σ : L2.St} {H : Hp} {M : Hp → Prop} (h : EvTF t σ H M) (k : ∀ H', M H' → D.nx σ H') : tIfS t tu tNext D σ H := h _ fun H' m => (show D.nx σ H' from k H' m)
theorem occ_p {H : Hp} {p : Addr} (d : Drawn H p) : Occ (fun b => b = p) H := fun a e => by
  rw [e]
  exact d.some
theorem ed_other_odd {p : Addr} {σ : L2.St} {H : Hp} {te tx : TE} {x : V} {d : PyData} {E F : XK} (hp : Drawn H p) (ha : Ev te σ H (.ref p)) (hx : Ev tx σ H x) (hd : Da (fun b => b = p) H x d) (pd : pureD d) (hw : wt d ≤ 5000) (hdp : d.depth ≤ 80) :
    EvD p (tCall (spOther 100) [] E (tCons te (tCons tx (tCons (tCall spOdd [] F (tCons te tNil)) tNil)))) σ H (fun v H' => ∃ d', Da (fun b => b = p) H' v d' ∧ goodD d') := fun Q q =>
  ha H (Ex.refl H) _ fun H1 e1 => hx H1 e1 _ fun H2 e2 => ha H2 (e1.trans e2) _ fun H3 e3 => ⟨p, fun b => b = p, rfl, hp.same ((e1.trans e2).trans e3), rfl, occ_p (hp.same ((e1.trans e2).trans e3)), fun vo dd Ho ko dro hvo okd wtd dpd =>
    ⟨p, x, vo, d, dd, fun b => b = p, rfl, dro, rfl, occ_p dro, (hd.same ((e1.trans e2).trans e3)).keep ko (fun _ z => z), hvo, pd, by omega, by omega, fun v d' H' k dr hv ok _ w dp => q v H' (((Kp.of ((e1.trans e2).trans e3)).trans ko).trans k) dr ⟨d', hv, okd.imp (ok true) (ok false), by omega, by omega⟩⟩⟩
def goodB (d : PyData) : Bool := (okD true d || okD false d) && decide (wt d ≤ 8000) && decide (d.depth ≤ 120)
theorem good_of {d : PyData} (h : goodB d = true) : goodD d := by
  unfold goodB at h
  simp only [Bool.and_eq_true, Bool.or_eq_true, decide_eq_true_eq] at h
  exact ⟨h.1.1, h.1.2, h.2⟩
def signs12 : List PyData := [.str "A\n", .str "Ab\n", .str "\nA", .str "A_b", .str "A b", .str "A-", .str "->\n", .str "Aa1Bb2Cc", .str "Aa1Bb2Cc\n", .str "Aa1Bb2Cc3", .str "A", .str "List"]
def six (d : PyData) : List PyData := [.tuple [d], .tuple [d, .int 0], .tuple [d, .int 0, .int 199], .tuple [d, .int 1, .tuple [.str "A"], .int 0], .tuple [d, .int 0, .int 1, .int 2, .int 3], d]
def wrap (d : PyData) : PyData := .tuple [.str "P", d, .tuple [.str "P", .int 0, .tuple [.str "P", d, .int 1, .int 2]]]
theorem six_good : signs12.all (fun s => (six s).all fun d => goodB d && goodB (wrap d)) = true := by decide +kernel
/-! ### law -/
def spLaw (K : PySem.W.Frag) : Sp := fun vs H Q _ => ∃ (a : Addr) (ns : List Int), vs = [.ref a] ∧ SqL K H a (ns.map V.int) ∧ ns.length ≤ 63 ∧ ∀ H', Q (.bl true) H'
theorem ok_law (T : Tx K mg) : FnG P w K mg base 210 T.law.f T.law.fd ["_law_script"] (spLaw K) := by
  have G_law_draws := ok_law_draws (P := P) (w := w) (base := base) T
  have G_law_next := ok_law_next (P := P) (w := w) (base := base) T
  have G_law_one := ok_law_one (P := P) (w := w) (base := base) T
  have G_law_sized := ok_law_sized (P := P) (w := w) (base := base) T 202
  have G_law_tower := ok_law_tower (P := P) (w := w) (base := base) T
  have G_law_other := ok_law_other (P := P) (w := w) (base := base) T 100
  have G_law_odd := ok_law_odd (P := P) (w := w) (base := base) T
  have G_law_right := ok_law_right (P := P) (w := w) (base := base) T
  refine fnG_mkN (k := 209) T.law.F sc_law (fun vs H Q E h => ?_) (fun cdv A outer s H vs Q hg hr h => ?_)
  · obtain ⟨a, ns, rfl, _⟩ := h
    rfl
  obtain ⟨a, ns, rfl, hS, hlen, q⟩ := h
  have hgd : (A.deeper (envOfC (Str.ofString "law") (defScope s_law) s.heap.objs.size T.law.f cdv)).guards = some [] := hg
  refine ⟨_, pss_cons (ps_set (i := 1) sc_law.nd rfl (Or.inl rfl) (pe_call G_law_draws (hr.mono (by omega)) (by rfl) T.law_draws.g T.law_draws.F.kp T.law_draws.b .nil pass0 (pa_cons (pv 0) pa_nil)))
      (pss_cons (ps_for PassesOwn.never rfl (pi_range1 (by rfl) T.m_range (pa_cons pe_int pa_nil)) (pg_name (i := 2) sc_law.nd rfl (Or.inl rfl)) (pss_cons (ps_set (i := 5) sc_law.nd rfl (Or.inl rfl) (pe_call G_law_one (hr.mono (by omega)) (by rfl) T.law_one.g T.law_one.F.kp T.law_one.b .nil pass0 (pa_cons (pv 1) (pa_cons (pe_lst (pa_cons pe_int (pa_cons pe_int (pa_cons pe_int (pa_cons (pe_op op_add pe_int (pe_call G_law_next (hr.mono (by omega)) (by rfl) T.law_next.g T.law_next.F.kp T.law_next.b .nil pass0 (pa_cons (pv 1) (pa_cons pe_int pa_nil)))) (pa_cons pe_int (pa_cons pe_int (pa_cons pe_int (pa_cons pe_int pa_nil))))))))) pa_nil))))
      (pss_cons (ps_set (i := 6) sc_law.nd rfl (Or.inl rfl) (pe_call G_law_sized (hr.mono (by omega)) (by rfl) T.law_sized.g T.law_sized.F.kp T.law_sized.b .nil pass0 (pa_cons (pv 1) (pa_cons (pv 5) (pa_cons (pe_call G_law_one (hr.mono (by omega)) (by rfl) T.law_one.g T.law_one.F.kp T.law_one.b .nil pass0 (pa_cons (pv 1) (pa_cons (pe_lst (pa_cons pe_int (pa_cons pe_int (pa_cons pe_int pa_nil)))) pa_nil))) pa_nil)))))
      (pss_cons (ps_set (i := 7) sc_law.nd rfl (Or.inl rfl) (pe_call G_law_tower (hr.mono (by omega)) (by rfl) T.law_tower.g T.law_tower.F.kp T.law_tower.b .nil pass0 (pa_cons (pv 1) (pa_cons (pe_op op_add pe_int (pe_call G_law_next (hr.mono (by omega)) (by rfl) T.law_next.g T.law_next.F.kp T.law_next.b .nil pass0 (pa_cons (pv 1) (pa_cons pe_int pa_nil)))) (pa_cons (pe_call G_law_sized (hr.mono (by omega)) (by rfl) T.law_sized.g T.law_sized.F.kp T.law_sized.b .nil pass0 (pa_cons (pv 1) (pa_cons (pe_op op_add pe_int (pe_call G_law_next (hr.mono (by omega)) (by rfl) T.law_next.g T.law_next.F.kp T.law_next.b .nil pass0 (pa_cons (pv 1) (pa_cons pe_int pa_nil)))) (pa_cons pe_int pa_nil)))) pa_nil)))))
      (pss_cons (ps_for PassesOwn.never rfl (pi_list (pe_lst (pa_cons (pv 6) (pa_cons (pv 7) (pa_cons (pe_call G_law_other (hr.mono (by omega)) (by rfl) T.law_other.g T.law_other.F.kp T.law_other.b .nil pass0 (pa_cons (pv 1) (pa_cons (pv 6) (pa_cons (pe_call G_law_odd (hr.mono (by omega)) (by rfl) T.law_odd.g T.law_odd.F.kp T.law_odd.b .nil pass0 (pa_cons (pv 1) pa_nil)) pa_nil)))) (pa_cons (pe_call G_law_other (hr.mono (by omega)) (by rfl) T.law_other.g T.law_other.F.kp T.law_other.b .nil pass0 (pa_cons (pv 1) (pa_cons (pv 7) (pa_cons (pe_call G_law_odd (hr.mono (by omega)) (by rfl) T.law_odd.g T.law_odd.F.kp T.law_odd.b .nil pass0 (pa_cons (pv 1) pa_nil)) pa_nil)))) pa_nil)))))) (pg_name (i := 8) sc_law.nd rfl (Or.inl rfl)) (pss_one (ps_if (pt_not (pt_val (pe_callG G_law_right hgd (hr.mono (by omega)) (by rfl) T.law_right.g T.law_right.F.kp T.law_right.b (pa_cons (pv 8) pa_nil)))) (pss_one (ps_ret pe_bl)) pss_nil)))
      (pss_one (ps_if (PW.pt (pw_or (pt_not (pt_val (pe_callG G_law_right hgd (hr.mono (by omega)) (by rfl) T.law_right.g T.law_right.F.kp T.law_right.b (pa_cons (pe_call G_law_odd (hr.mono (by omega)) (by rfl) T.law_odd.g T.law_odd.F.kp T.law_odd.b .nil pass0 (pa_cons (pv 1) pa_nil)) pa_nil)))) (pw_or1 (pt_not (pt_val (pe_callG G_law_right hgd (hr.mono (by omega)) (by rfl) T.law_right.g T.law_right.F.kp T.law_right.b (pa_cons (pe_call G_law_other (hr.mono (by omega)) (by rfl) T.law_other.g T.law_other.F.kp T.law_other.b .nil pass0 (pa_cons (pv 1) (pa_cons (pv 6) (pa_cons (pv 6) pa_nil)))) pa_nil))))))) (pss_one (ps_ret pe_bl)) pss_nil)))))))
      (pss_cons (ps_set (i := 3) sc_law.nd rfl (Or.inl rfl) (pe_lst (pa_cons pe_str (pa_cons pe_str (pa_cons pe_str (pa_cons pe_str (pa_cons pe_str (pa_cons pe_str (pa_cons pe_str (pa_cons pe_str (pa_cons pe_str (pa_cons pe_str (pa_cons pe_str (pa_cons pe_str pa_nil))))))))))))))
      (pss_cons (ps_for PassesOwn.never rfl (pi_list (pv 3)) (pg_name (i := 4) sc_law.nd rfl (Or.inl rfl)) (pss_one (ps_for PassesOwn.never rfl (pi_list (pe_lst (pa_cons (pe_tup (pa_cons (pv 4) pa_nil)) (pa_cons (pe_tup (pa_cons (pv 4) (pa_cons pe_int pa_nil))) (pa_cons (pe_tup (pa_cons (pv 4) (pa_cons pe_int (pa_cons pe_int pa_nil)))) (pa_cons (pe_tup (pa_cons (pv 4) (pa_cons pe_int (pa_cons (pe_tup (pa_cons pe_str pa_nil)) (pa_cons pe_int pa_nil))))) (pa_cons (pe_tup (pa_cons (pv 4) (pa_cons pe_int (pa_cons pe_int (pa_cons pe_int (pa_cons pe_int pa_nil)))))) (pa_cons (pv 4) pa_nil)))))))) (pg_name (i := 8) sc_law.nd rfl (Or.inl rfl)) (pss_one (ps_if (PW.pt (pw_or (pt_not (pt_val (pe_callG G_law_right hgd (hr.mono (by omega)) (by rfl) T.law_right.g T.law_right.F.kp T.law_right.b (pa_cons (pv 8) pa_nil)))) (pw_or1 (pt_not (pt_val (pe_callG G_law_right hgd (hr.mono (by omega)) (by rfl) T.law_right.g T.law_right.F.kp T.law_right.b (pa_cons (pe_tup (pa_cons pe_str (pa_cons (pv 8) (pa_cons (pe_tup (pa_cons pe_str (pa_cons pe_int (pa_cons (pe_tup (pa_cons pe_str (pa_cons (pv 8) (pa_cons pe_int (pa_cons pe_int pa_nil))))) pa_nil)))) pa_nil)))) pa_nil))))))) (pss_one (ps_ret pe_bl)) pss_nil)))))
      (pss_one (ps_ret pe_bl))))), ?_⟩
  refine q_asgR (fun v H' => ∃ p, v = .ref p ∧ Drawn H' p) (fun Q' q' => ⟨.ref a, rfl, a, ns, rfl, hS, hlen, fun p H' _ _ d => q' _ _ ⟨p, rfl, d⟩⟩) ?_
  rintro _ H0 ⟨p, rfl, dr0⟩
  refine q_forR1 (ea_cons ev_c ea_nil) (by decide) (fun i σ' H' => Drawn H' p ∧ ∃ y2 y5 y6 y7 y8 : Option V, σ' = [some (.ref a), some (.ref p), y2, none, none, y5, y6, y7, y8]) (fun H1 e1 => ⟨dr0.same e1, none, none, none, none, none, rfl⟩) (fun i σ' H1 hi h => ?_) (fun σ' H1 h => ?_)
  · obtain ⟨dr1, y2, y5, y6, y7, y8, rfl⟩ := h
    -- many
    refine q_asgR (fun v H' => ∃ m : Nat, v = .int m ∧ 1 ≤ m ∧ m ≤ 201 ∧ Drawn H' p) (fun Q' q' => ⟨.ref p, rfl, (ed_next dr1 (ev_var rfl) ev_c (by decide) (by decide)) _ fun v H2 k2 d2 hr => ?_⟩) ?_
    · obtain ⟨r, rfl, r0, r1⟩ := hr
      refine ⟨1, r, rfl, rfl, by show 8 ≤ sizeLine; decide, fun l hl => ⟨p, l, _, rfl, d2.same (Ex.new hl), upd_same, fun e => d2.some (by rw [← e]; exact hl), by show 1 ≤ 8; decide, by show 8 ≤ 1000; decide, fun v H3 hv k3 d3 => q' v H3 ?_⟩⟩
      simp only [List.mem_cons, List.not_mem_nil, or_false] at hv
      rcases hv with e | e | e | e | e | e | e | e
      · exact ⟨1, e, by omega, by omega, d3⟩
      · exact ⟨2, e, by omega, by omega, d3⟩
      · exact ⟨3, e, by omega, by omega, d3⟩
      · exact ⟨(1 + r).toNat, e.trans (congrArg V.int (by omega)), by omega, by omega, d3⟩
      · exact ⟨199, e, by omega, by omega, d3⟩
      · exact ⟨200, e, by omega, by omega, d3⟩
      · exact ⟨201, e, by omega, by omega, d3⟩
      · exact ⟨200, e, by omega, by omega, d3⟩
    rintro _ H2 ⟨m, rfl, m1, m2, dr2⟩
    -- shape
    refine q_asgR (fun v H' => ∃ d, Da (fun b => b = p) H' v d ∧ pureD d ∧ wt d ≤ 2010 ∧ d.depth ≤ 40 ∧ Drawn H' p) (fun Q' q' => ⟨.ref p, rfl, .int m, rfl, (ed_one dr2 (ev_var rfl) (el_lst (ea_cons ev_c (ea_cons ev_c (ea_cons ev_c ea_nil))) (by show 3 ≤ 100000; decide)) (by show 1 ≤ 3; decide) (by show 3 ≤ 1000; decide)) _ fun v H3 k3 d3 hv => ?_⟩) ?_
    · have hlim : ∃ lim : Int, v = .int lim ∧ 1 ≤ lim ∧ lim ≤ 200 := by
        simp only [List.mem_cons, List.not_mem_nil, or_false] at hv
        rcases hv with e | e | e <;> exact ⟨_, e, by decide, by decide⟩
      obtain ⟨lim, rfl, l1, l2⟩ := hlim
      exact ⟨p, m, lim, fun b => b = p, rfl, d3, m1, by omega, by omega, l1, l2, rfl, occ_p d3, fun v d H' k dr hv pd hw hdp => q' v H' ⟨d, hv, pd, by omega, by
        have : lv m ≤ 40 := by
          unfold lv
          split <;> omega
        omega, dr⟩⟩
    rintro x6 H3 ⟨d6, hd6, pd6, w6, dp6, dr3⟩
    -- high
    refine q_asgR (fun v H' => ∃ d, Da (fun b => b = p) H' v d ∧ pureD d ∧ wt d ≤ 2010 ∧ d.depth ≤ 40 ∧ Kp (fun b => b = p) H3 H' ∧ Drawn H' p) (fun Q' q' => ⟨.ref p, rfl, (ed_next dr3 (ev_var rfl) ev_c (by decide) (by decide)) _ fun v H4 k4 d4 hr => ?_⟩) ?_
    · obtain ⟨r, rfl, r0, r1⟩ := hr
      refine ⟨24, r, rfl, rfl, .ref p, rfl, (ed_next d4 (ev_var rfl) ev_c (by decide) (by decide)) _ fun v H5 k5 d5 hr => ?_⟩
      obtain ⟨r2, rfl, r20, r21⟩ := hr
      refine ⟨1, r2, rfl, rfl, p, (1 + r2).toNat, 200, fun b => b = p, ?_, d5, by omega, by omega, by omega, by decide, by decide, rfl, occ_p d5, fun v d H6 k6 d6' hv pd hw hdp => ⟨p, (24 + r).toNat, v, d, fun b => b = p, ?_, d6', by omega, rfl, occ_p d6', hv, pd, fun u d' H7 k7 d7 hu pd' hw' hdp' => q' u H7 ⟨d', hu, pd', ?_, ?_, ((k4.trans k5).trans k6).trans k7, d7⟩⟩⟩
      · have : (((1 + r2).toNat : Nat) : Int) = 1 + r2 := by omega
        rw [this]
        rfl
      · have : (((24 + r).toNat : Nat) : Int) = 24 + r := by omega
        rw [this]
        rfl
      · omega
      · have : lv (1 + r2).toNat ≤ 4 := by
          unfold lv
          split <;> omega
        omega
    rintro x7 H4 ⟨d7, hd7, pd7, w7, dp7, k34, dr4⟩
    have hd64 : Da (fun b => b = p) H4 x6 d6 := hd6.keep k34 fun _ z => z
    refine q_forVals (S := fun b => b = p) (G := goodD) (R := fun H' => Kp (fun b => b = p) H4 H' ∧ Drawn H' p) ⟨_, rfl⟩ (fun Ha Hb e h => ⟨h.1.trans (Kp.of e), h.2.same e⟩) (fun Q' q' => ⟨x6, rfl, x7, rfl, (ed_other_odd dr4 (ev_var rfl) (ev_var rfl) hd64 pd6 (by omega) (by omega)) _ fun v8 H5 k5 dr5 h8 => ?_⟩) (fun x d H5 hR hx hg D' hD' => ?_) (fun y H5 hR => ?_)
    · obtain ⟨d8, hd8, g8⟩ := h8
      refine (ed_other_odd dr5 (ev_var rfl) (ev_var rfl) (hd7.keep k5 fun _ z => z) pd7 (by omega) (by omega)) _ fun v9 H6 k6 dr6 h9 => ?_
      obtain ⟨d9, hd9, g9⟩ := h9
      have k56 := k5.trans k6
      refine ⟨by show 4 ≤ sizeLine; decide, fun l hl => q' l _ [d6, d7, d8, d9] _ upd_same (DaAll.same (Ex.new hl) (.cons (hd64.keep k56 fun _ z => z) (.cons (hd7.keep k56 fun _ z => z) (.cons (hd8.keep k6 fun _ z => z) (.cons hd9 .nil))))) (fun d hd => ?_) ⟨k56.trans (Kp.of (Ex.new hl)), dr6.same (Ex.new hl)⟩⟩
      simp only [List.mem_cons, List.not_mem_nil, or_false] at hd
      rcases hd with e | e | e | e <;> subst e
      · exact ⟨.inl pd6.1, by omega, by omega⟩
      · exact ⟨.inl pd7.1, by omega, by omega⟩
      · exact g8
      · exact g9
    · exact s_when (b := false) (et_is (et_not (a := true) (et_B (ev_rightD (da_cons (ds_ev (ev_var rfl) hx) da_nil) hg))) rfl) (fun z => nomatch z) fun _ H6 e6 => hD' H6 e6
    · obtain ⟨k45, dr5⟩ := hR
      have hd65 : Da (fun b => b = p) H5 x6 d6 := hd64.keep k45 fun _ z => z
      refine s_whenF (M := fun H' => Drawn H' p) (tf_or (M := fun H' => Kp (fun b => b = p) H5 H' ∧ Drawn H' p) (tf_not fun Q' q' => ?_) fun H6 h6 => tf_not fun Q' q' => ?_) (fun H7 h7 => ⟨h7, _, _, _, _, _, rfl⟩)
      · exact ⟨.ref p, rfl, p, fun b => b = p, rfl, dr5, rfl, occ_p dr5, fun vo dd Ho ko dro hvo okd wtd dpd => ⟨fun b => b = p, vo, dd, rfl, hvo, ⟨okd, by omega, by omega⟩, fun H' e' => q' H' ⟨ko.trans (Kp.of e'), dro.same e'⟩⟩⟩
      · obtain ⟨k6, dr6⟩ := h6
        have hd66 : Da (fun b => b = p) H6 x6 d6 := hd65.keep k6 fun _ z => z
        exact ⟨.ref p, rfl, x6, rfl, x6, rfl, p, x6, x6, d6, d6, fun b => b = p, rfl, dr6, rfl, occ_p dr6, hd66, hd66, pd6, by omega, by omega, fun v d' H' k dr hv ok _ w dp => ⟨fun b => b = p, v, d', rfl, hv, ⟨.inl (ok true pd6.1), by omega, by omega⟩, fun H'' e' => q' H'' (dr.same e')⟩⟩
  · obtain ⟨dr1, y2, y5, y6, y7, y8, rfl⟩ := h
    have hO : ∀ H', Occ (fun _ => False) H' := fun _ _ z => z.elim
    refine q_asgR (fun v H' => Da (fun _ => False) H' v (.list signs12)) (fun Q' q' => (show EvDs _ (fun _ => False) _ H1 (.list signs12) from ds_lst (hO _) (da_cons (ds_c (.str _)) (da_cons (ds_c (.str _)) (da_cons (ds_c (.str _)) (da_cons (ds_c (.str _)) (da_cons (ds_c (.str _)) (da_cons (ds_c (.str _)) (da_cons (ds_c (.str _)) (da_cons (ds_c (.str _)) (da_cons (ds_c (.str _)) (da_cons (ds_c (.str _)) (da_cons (ds_c (.str _)) (da_cons (ds_c (.str _)) da_nil)))))))))))) (by decide)) H1 (Ex.refl _) _ fun v H' e hv => q' v H' hv) ?_
    intro x3 H2 hx3
    cases hx3 with
    | @lst l xs _ nl hl hxs =>
      refine q_forFam (S := fun _ => False) (G := fun d => d ∈ signs12) (fun σ' => ∃ y4 y8, σ' = [some (.ref a), some (.ref p), y2, some (.ref l), y4, y5, y6, y7, y8]) ⟨_, _, rfl⟩ (fun Q' q' => ⟨.ref l, rfl, q' l xs signs12 H2 hl hxs (fun d hd => hd)⟩) (fun x d σ' H3 hσ hx hd D' hD' => ?_) (fun σ' H3 hσ => by
        obtain ⟨y4, y8, rfl⟩ := hσ
        exact s_ret ev_c fun H4 e4 => q H4)
      obtain ⟨y4, y8, rfl⟩ := hσ
      have h6 := List.all_eq_true.mp six_good d hd
      have hall : ∀ e, e ∈ six d → goodB e = true ∧ goodB (wrap e) = true := fun e he => (Bool.and_eq_true _ _).mp (List.all_eq_true.mp h6 e he)
      have vA : ∀ y8, EvDs (tVar 4) (fun _ => False) [some (.ref a), some (.ref p), y2, some (.ref l), some x, y5, y6, y7, y8] H3 d := fun y8 => ds_ev (ev_var rfl) hx
      have iA : ∀ z : Int, EvDs (tC (.int z)) (fun _ => False) [some (.ref a), some (.ref p), y2, some (.ref l), some x, y5, y6, y7, y8] H3 (.int z) := fun z => ds_c (.int z)
      refine s_forVals (S := fun _ => False) (G := fun e => e ∈ six d) (R := fun H' => Ex H3 H') ⟨_, rfl⟩ (fun _ _ e h => h.trans e) (fun Q' q' => (show EvDs _ (fun _ => False) [some (.ref a), some (.ref p), y2, some (.ref l), some x, y5, y6, y7, y8] H3 (.list (six d)) from ds_lst (hO _) (da_cons (ds_tup (hO _) (da_cons (vA _) da_nil) (by show 1 ≤ 100000; decide)) (da_cons (ds_tup (hO _) (da_cons (vA _) (da_cons (iA _) da_nil)) (by show 2 ≤ 100000; decide)) (da_cons (ds_tup (hO _) (da_cons (vA _) (da_cons (iA _) (da_cons (iA _) da_nil))) (by show 3 ≤ 100000; decide))
        (da_cons (ds_tup (hO _) (da_cons (vA _) (da_cons (iA _) (da_cons (ds_tup (hO _) (da_cons (ds_c (.str _)) da_nil) (by show 1 ≤ 100000; decide)) (da_cons (iA _) da_nil)))) (by show 4 ≤ 100000; decide)) (da_cons (ds_tup (hO _) (da_cons (vA _) (da_cons (iA _) (da_cons (iA _) (da_cons (iA _) (da_cons (iA _) da_nil))))) (by show 5 ≤ 100000; decide)) (da_cons (vA _) da_nil)))))) (by show 6 ≤ 100000; decide)) H3 (Ex.refl _) _ fun v H' e hv => ?_) (fun x8 e8 H4 e34 hx8 he8 D2 hD2 => ?_) (fun y H4 e34 => ?_)
      · cases hv with
        | @lst l2 vs2 _ nl2 hl2 hvs2 => exact q' l2 vs2 (six d) H' hl2 hvs2 (fun d hd => hd) e
      · have hg := hall e8 he8
        have xA : EvDs (tVar 8) (fun _ => False) [some (.ref a), some (.ref p), y2, some (.ref l), some x, y5, y6, y7, some x8] H4 e8 := ds_ev (ev_var rfl) hx8
        have jA : ∀ z : Int, EvDs (tC (.int z)) (fun _ => False) [some (.ref a), some (.ref p), y2, some (.ref l), some x, y5, y6, y7, some x8] H4 (.int z) := fun z => ds_c (.int z)
        have pA : EvDs (tC (.str "P")) (fun _ => False) [some (.ref a), some (.ref p), y2, some (.ref l), some x, y5, y6, y7, some x8] H4 (.str "P") := ds_c (.str _)
        refine s_when (b := false) (et_or (a := false) (b := false) (et_is (et_not (a := true) (et_B (ev_rightD (da_cons xA da_nil) (good_of hg.1)))) rfl) fun _ => et_is (et_not (a := true) (et_B (ev_rightD (da_cons (ds_tup (hO _) (da_cons pA (da_cons xA (da_cons (ds_tup (hO _) (da_cons pA (da_cons (jA _) (da_cons (ds_tup (hO _) (da_cons pA (da_cons xA (da_cons (jA _) (da_cons (jA _) da_nil)))) (by show 4 ≤ 100000; decide)) da_nil))) (by show 3 ≤ 100000; decide)) da_nil))) (by show 3 ≤ 100000; decide)) da_nil) (good_of hg.2)))) rfl) (fun z => nomatch z) fun _ H5 e5 => hD2 H5 e5
      · exact hD' _ H4 ⟨_, _, rfl⟩ e34
end
end K1
set_option Elab.async false
set_option linter.all false
set_option maxRecDepth 100000
set_option maxHeartbeats 8000000
namespace K1
open PySem PySem.Spec PyProof.Rows L2 Sl
theorem all_mk {l : PySem.W.OpenLaw} {w : World} {K : PySem.W.Frag} {h : Heap} {mg : Str → Option Value} {fa f0 f1 f2 f3 f4 f5 f6 f7 f8 f9 f10 f11 f12 f13 f14 f15 f16 f17 f18 f19 f20 f21 : Addr} (X : K.In h) (G : h.Ns mainGlobals mg) (hfa : mg "law" = some (.ref fa))
    {od0 an0 : Option Addr} {sl0 : Array (Option Value)} {oc0 kV0 dc0 pm0 cd0 ct0 : Value}
    {od1 an1 : Option Addr} {sl1 : Array (Option Value)} {oc1 kV1 dc1 pm1 cd1 ct1 : Value}
    {od2 an2 : Option Addr} {sl2 : Array (Option Value)} {oc2 kV2 dc2 pm2 cd2 ct2 : Value}
    {od3 an3 : Option Addr} {sl3 : Array (Option Value)} {oc3 kV3 dc3 pm3 cd3 ct3 : Value}
    {od4 an4 : Option Addr} {sl4 : Array (Option Value)} {oc4 kV4 dc4 pm4 cd4 ct4 : Value}
    {od5 an5 : Option Addr} {sl5 : Array (Option Value)} {oc5 kV5 dc5 pm5 cd5 ct5 : Value}
    {od6 an6 : Option Addr} {sl6 : Array (Option Value)} {oc6 kV6 dc6 pm6 cd6 ct6 : Value}
    {od7 an7 : Option Addr} {sl7 : Array (Option Value)} {oc7 kV7 dc7 pm7 cd7 ct7 : Value}
    {od8 an8 : Option Addr} {sl8 : Array (Option Value)} {oc8 kV8 dc8 pm8 cd8 ct8 : Value}
    {od9 an9 : Option Addr} {sl9 : Array (Option Value)} {oc9 kV9 dc9 pm9 cd9 ct9 : Value}
    {od10 an10 : Option Addr} {sl10 : Array (Option Value)} {oc10 kV10 dc10 pm10 cd10 ct10 : Value}
    {od11 an11 : Option Addr} {sl11 : Array (Option Value)} {oc11 kV11 dc11 pm11 cd11 ct11 : Value}
    {od12 an12 : Option Addr} {sl12 : Array (Option Value)} {oc12 kV12 dc12 pm12 cd12 ct12 : Value}
    {od13 an13 : Option Addr} {sl13 : Array (Option Value)} {oc13 kV13 dc13 pm13 cd13 ct13 : Value}
    {od14 an14 : Option Addr} {sl14 : Array (Option Value)} {oc14 kV14 dc14 pm14 cd14 ct14 : Value}
    {od15 an15 : Option Addr} {sl15 : Array (Option Value)} {oc15 kV15 dc15 pm15 cd15 ct15 : Value}
    {od16 an16 : Option Addr} {sl16 : Array (Option Value)} {oc16 kV16 dc16 pm16 cd16 ct16 : Value}
    {od17 an17 : Option Addr} {sl17 : Array (Option Value)} {oc17 kV17 dc17 pm17 cd17 ct17 : Value}
    {od18 an18 : Option Addr} {sl18 : Array (Option Value)} {oc18 kV18 dc18 pm18 cd18 ct18 : Value}
    {od19 an19 : Option Addr} {sl19 : Array (Option Value)} {oc19 kV19 dc19 pm19 cd19 ct19 : Value}
    {od20 an20 : Option Addr} {sl20 : Array (Option Value)} {oc20 kV20 dc20 pm20 cd20 ct20 : Value}
    {od21 an21 : Option Addr} {sl21 : Array (Option Value)} {oc21 kV21 dc21 pm21 cd21 ct21 : Value}
    {t_VARIABLES : Tok}
    {t_NODES : Tok}
    {t_DEPTH : Tok}
    {t_CAPITAL : Tok}
    {t_LETTERS_AND_DIGITS : Tok}
    {t_LONGEST : Tok}
    {t_TOO_MANY : Tok}
    {t_MOST_PARTS : Tok}
    {p_INT : Addr} {od_INT : Option Addr} {sl_INT : Array (Option Value)} {n_INT : Nat} {tk_INT_0 : Tok}
    {p_BOOL : Addr} {od_BOOL : Option Addr} {sl_BOOL : Array (Option Value)} {n_BOOL : Nat} {tk_BOOL_0 : Tok}
    (a0 : PySem.W.nsIn K mainGlobals "is_integer" = some (some (.ref f0))) (l0 : K.lookup f0 = some ⟨oc0, od0, .func (PySem.W.fnOf "is_integer" "is_integer" (defArgs s_is_integer) (defBody s_is_integer) (defScope s_is_integer) .none kV0 dc0 pm0 an0 cd0 ct0), sl0⟩) (c0 : PySem.W.codeIn K cd0 "is_integer" = true) (k0 : PySem.W.keepIn K (.ref f0) = true)
    (a1 : PySem.W.nsIn K mainGlobals "is_name" = some (some (.ref f1))) (l1 : K.lookup f1 = some ⟨oc1, od1, .func (PySem.W.fnOf "is_name" "is_name" (defArgs s_is_name) (defBody s_is_name) (defScope s_is_name) .none kV1 dc1 pm1 an1 cd1 ct1), sl1⟩) (c1 : PySem.W.codeIn K cd1 "is_name" = true) (k1 : PySem.W.keepIn K (.ref f1) = true)
    (a2 : PySem.W.nsIn K mainGlobals "is_variable" = some (some (.ref f2))) (l2 : K.lookup f2 = some ⟨oc2, od2, .func (PySem.W.fnOf "is_variable" "is_variable" (defArgs s_is_variable) (defBody s_is_variable) (defScope s_is_variable) .none kV2 dc2 pm2 an2 cd2 ct2), sl2⟩) (c2 : PySem.W.codeIn K cd2 "is_variable" = true) (k2 : PySem.W.keepIn K (.ref f2) = true)
    (a3 : PySem.W.nsIn K mainGlobals "formed_nodes" = some (some (.ref f3))) (l3 : K.lookup f3 = some ⟨oc3, od3, .func (PySem.W.fnOf "formed_nodes" "formed_nodes" (defArgs s_formed_nodes) (defBody s_formed_nodes) (defScope s_formed_nodes) .none kV3 dc3 pm3 an3 cd3 ct3), sl3⟩) (c3 : PySem.W.codeIn K cd3 "formed_nodes" = true) (k3 : PySem.W.keepIn K (.ref f3) = true)
    (a4 : PySem.W.nsIn K mainGlobals "nodes_of" = some (some (.ref f4))) (l4 : K.lookup f4 = some ⟨oc4, od4, .func (PySem.W.fnOf "nodes_of" "nodes_of" (defArgs s_nodes_of) (defBody s_nodes_of) (defScope s_nodes_of) .none kV4 dc4 pm4 an4 cd4 ct4), sl4⟩) (c4 : PySem.W.codeIn K cd4 "nodes_of" = true) (k4 : PySem.W.keepIn K (.ref f4) = true)
    (a5 : PySem.W.nsIn K mainGlobals "is_shape" = some (some (.ref f5))) (l5 : K.lookup f5 = some ⟨oc5, od5, .func (PySem.W.fnOf "is_shape" "is_shape" (defArgs s_is_shape) (defBody s_is_shape) (defScope s_is_shape) .none kV5 dc5 pm5 an5 cd5 ct5), sl5⟩) (c5 : PySem.W.codeIn K cd5 "is_shape" = true) (k5 : PySem.W.keepIn K (.ref f5) = true)
    (a6 : PySem.W.nsIn K mainGlobals "variables_of" = some (some (.ref f6))) (l6 : K.lookup f6 = some ⟨oc6, od6, .func (PySem.W.fnOf "variables_of" "variables_of" (defArgs s_variables_of) (defBody s_variables_of) (defScope s_variables_of) .none kV6 dc6 pm6 an6 cd6 ct6), sl6⟩) (c6 : PySem.W.codeIn K cd6 "variables_of" = true) (k6 : PySem.W.keepIn K (.ref f6) = true)
    (a7 : PySem.W.nsIn K mainGlobals "count_nodes" = some (some (.ref f7))) (l7 : K.lookup f7 = some ⟨oc7, od7, .func (PySem.W.fnOf "count_nodes" "count_nodes" (defArgs s_count_nodes) (defBody s_count_nodes) (defScope s_count_nodes) .none kV7 dc7 pm7 an7 cd7 ct7), sl7⟩) (c7 : PySem.W.codeIn K cd7 "count_nodes" = true) (k7 : PySem.W.keepIn K (.ref f7) = true)
    (a8 : PySem.W.nsIn K mainGlobals "_law_draws" = some (some (.ref f8))) (l8 : K.lookup f8 = some ⟨oc8, od8, .func (PySem.W.fnOf "_law_draws" "_law_draws" (defArgs s_law_draws) (defBody s_law_draws) (defScope s_law_draws) .none kV8 dc8 pm8 an8 cd8 ct8), sl8⟩) (c8 : PySem.W.codeIn K cd8 "_law_draws" = true) (k8 : PySem.W.keepIn K (.ref f8) = true)
    (a9 : PySem.W.nsIn K mainGlobals "_law_next" = some (some (.ref f9))) (l9 : K.lookup f9 = some ⟨oc9, od9, .func (PySem.W.fnOf "_law_next" "_law_next" (defArgs s_law_next) (defBody s_law_next) (defScope s_law_next) .none kV9 dc9 pm9 an9 cd9 ct9), sl9⟩) (c9 : PySem.W.codeIn K cd9 "_law_next" = true) (k9 : PySem.W.keepIn K (.ref f9) = true)
    (a10 : PySem.W.nsIn K mainGlobals "_law_one" = some (some (.ref f10))) (l10 : K.lookup f10 = some ⟨oc10, od10, .func (PySem.W.fnOf "_law_one" "_law_one" (defArgs s_law_one) (defBody s_law_one) (defScope s_law_one) .none kV10 dc10 pm10 an10 cd10 ct10), sl10⟩) (c10 : PySem.W.codeIn K cd10 "_law_one" = true) (k10 : PySem.W.keepIn K (.ref f10) = true)
    (a11 : PySem.W.nsIn K mainGlobals "_law_same" = some (some (.ref f11))) (l11 : K.lookup f11 = some ⟨oc11, od11, .func (PySem.W.fnOf "_law_same" "_law_same" (defArgs s_law_same) (defBody s_law_same) (defScope s_law_same) .none kV11 dc11 pm11 an11 cd11 ct11), sl11⟩) (c11 : PySem.W.codeIn K cd11 "_law_same" = true) (k11 : PySem.W.keepIn K (.ref f11) = true)
    (a12 : PySem.W.nsIn K mainGlobals "_law_vars" = some (some (.ref f12))) (l12 : K.lookup f12 = some ⟨oc12, od12, .func (PySem.W.fnOf "_law_vars" "_law_vars" (defArgs s_law_vars) (defBody s_law_vars) (defScope s_law_vars) .none kV12 dc12 pm12 an12 cd12 ct12), sl12⟩) (c12 : PySem.W.codeIn K cd12 "_law_vars" = true) (k12 : PySem.W.keepIn K (.ref f12) = true)
    (a13 : PySem.W.nsIn K mainGlobals "_law_leaf" = some (some (.ref f13))) (l13 : K.lookup f13 = some ⟨oc13, od13, .func (PySem.W.fnOf "_law_leaf" "_law_leaf" (defArgs s_law_leaf) (defBody s_law_leaf) (defScope s_law_leaf) .none kV13 dc13 pm13 an13 cd13 ct13), sl13⟩) (c13 : PySem.W.codeIn K cd13 "_law_leaf" = true) (k13 : PySem.W.keepIn K (.ref f13) = true)
    (a14 : PySem.W.nsIn K mainGlobals "_law_sized" = some (some (.ref f14))) (l14 : K.lookup f14 = some ⟨oc14, od14, .func (PySem.W.fnOf "_law_sized" "_law_sized" (defArgs s_law_sized) (defBody s_law_sized) (defScope s_law_sized) .none kV14 dc14 pm14 an14 cd14 ct14), sl14⟩) (c14 : PySem.W.codeIn K cd14 "_law_sized" = true) (k14 : PySem.W.keepIn K (.ref f14) = true)
    (a15 : PySem.W.nsIn K mainGlobals "_law_tower" = some (some (.ref f15))) (l15 : K.lookup f15 = some ⟨oc15, od15, .func (PySem.W.fnOf "_law_tower" "_law_tower" (defArgs s_law_tower) (defBody s_law_tower) (defScope s_law_tower) .none kV15 dc15 pm15 an15 cd15 ct15), sl15⟩) (c15 : PySem.W.codeIn K cd15 "_law_tower" = true) (k15 : PySem.W.keepIn K (.ref f15) = true)
    (a16 : PySem.W.nsIn K mainGlobals "_law_other" = some (some (.ref f16))) (l16 : K.lookup f16 = some ⟨oc16, od16, .func (PySem.W.fnOf "_law_other" "_law_other" (defArgs s_law_other) (defBody s_law_other) (defScope s_law_other) .none kV16 dc16 pm16 an16 cd16 ct16), sl16⟩) (c16 : PySem.W.codeIn K cd16 "_law_other" = true) (k16 : PySem.W.keepIn K (.ref f16) = true)
    (a17 : PySem.W.nsIn K mainGlobals "_law_odd" = some (some (.ref f17))) (l17 : K.lookup f17 = some ⟨oc17, od17, .func (PySem.W.fnOf "_law_odd" "_law_odd" (defArgs s_law_odd) (defBody s_law_odd) (defScope s_law_odd) .none kV17 dc17 pm17 an17 cd17 ct17), sl17⟩) (c17 : PySem.W.codeIn K cd17 "_law_odd" = true) (k17 : PySem.W.keepIn K (.ref f17) = true)
    (a18 : PySem.W.nsIn K mainGlobals "_law_named" = some (some (.ref f18))) (l18 : K.lookup f18 = some ⟨oc18, od18, .func (PySem.W.fnOf "_law_named" "_law_named" (defArgs s_law_named) (defBody s_law_named) (defScope s_law_named) .none kV18 dc18 pm18 an18 cd18 ct18), sl18⟩) (c18 : PySem.W.codeIn K cd18 "_law_named" = true) (k18 : PySem.W.keepIn K (.ref f18) = true)
    (a19 : PySem.W.nsIn K mainGlobals "_law_look" = some (some (.ref f19))) (l19 : K.lookup f19 = some ⟨oc19, od19, .func (PySem.W.fnOf "_law_look" "_law_look" (defArgs s_law_look) (defBody s_law_look) (defScope s_law_look) .none kV19 dc19 pm19 an19 cd19 ct19), sl19⟩) (c19 : PySem.W.codeIn K cd19 "_law_look" = true) (k19 : PySem.W.keepIn K (.ref f19) = true)
    (a20 : PySem.W.nsIn K mainGlobals "_law_right" = some (some (.ref f20))) (l20 : K.lookup f20 = some ⟨oc20, od20, .func (PySem.W.fnOf "_law_right" "_law_right" (defArgs s_law_right) (defBody s_law_right) (defScope s_law_right) .none kV20 dc20 pm20 an20 cd20 ct20), sl20⟩) (c20 : PySem.W.codeIn K cd20 "_law_right" = true) (k20 : PySem.W.keepIn K (.ref f20) = true)
    (a21 : PySem.W.nsIn K mainGlobals "law" = some (some (.ref f21))) (l21 : K.lookup f21 = some ⟨oc21, od21, .func (PySem.W.fnOf "law" "law" (defArgs s_law) (defBody s_law) (defScope s_law) .none kV21 dc21 pm21 an21 cd21 ct21), sl21⟩) (c21 : PySem.W.codeIn K cd21 "law" = true) (k21 : PySem.W.keepIn K (.ref f21) = true)
    (v_VARIABLES : PySem.W.nsIn K mainGlobals "VARIABLES" = some (some (.int 199 t_VARIABLES)))
    (v_NODES : PySem.W.nsIn K mainGlobals "NODES" = some (some (.int 200 t_NODES)))
    (v_DEPTH : PySem.W.nsIn K mainGlobals "DEPTH" = some (some (.int 30 t_DEPTH)))
    (v_CAPITAL : PySem.W.nsIn K mainGlobals "CAPITAL" = some (some (.str "ABCDEFGHIJKLMNOPQRSTUVWXYZ" t_CAPITAL)))
    (v_LETTERS_AND_DIGITS : PySem.W.nsIn K mainGlobals "LETTERS_AND_DIGITS" = some (some (.str "ABCDEFGHIJKLMNOPQRSTUVWXYZabcdefghijklmnopqrstuvwxyz0123456789" t_LETTERS_AND_DIGITS)))
    (v_LONGEST : PySem.W.nsIn K mainGlobals "LONGEST" = some (some (.int 8 t_LONGEST)))
    (v_TOO_MANY : PySem.W.nsIn K mainGlobals "TOO_MANY" = some (some (.int 1000 t_TOO_MANY)))
    (v_MOST_PARTS : PySem.W.nsIn K mainGlobals "MOST_PARTS" = some (some (.int 3 t_MOST_PARTS)))
    (v_INT : PySem.W.nsIn K mainGlobals "INT" = some (some (.ref p_INT))) (w_INT : K.lookup p_INT = some ⟨.type "tuple", od_INT, .seq #[.str "Int" tk_INT_0] n_INT, sl_INT⟩)
    (v_BOOL : PySem.W.nsIn K mainGlobals "BOOL" = some (some (.ref p_BOOL))) (w_BOOL : K.lookup p_BOOL = some ⟨.type "tuple", od_BOOL, .seq #[.str "Bool" tk_BOOL_0] n_BOOL, sl_BOOL⟩)
    (z_isinstance : PySem.W.nsIn K mainGlobals "isinstance" = some none)
    (z_len : PySem.W.nsIn K mainGlobals "len" = some none)
    (z_int : PySem.W.nsIn K mainGlobals "int" = some none)
    (z_str : PySem.W.nsIn K mainGlobals "str" = some none)
    (z_bool : PySem.W.nsIn K mainGlobals "bool" = some none)
    (z_tuple : PySem.W.nsIn K mainGlobals "tuple" = some none)
    (z_list : PySem.W.nsIn K mainGlobals "list" = some none)
    (z_sum : PySem.W.nsIn K mainGlobals "sum" = some none)
    (z_max : PySem.W.nsIn K mainGlobals "max" = some none)
    (z_min : PySem.W.nsIn K mainGlobals "min" = some none)
    (z_abs : PySem.W.nsIn K mainGlobals "abs" = some none)
    (z_repr : PySem.W.nsIn K mainGlobals "repr" = some none)
    (z_range : PySem.W.nsIn K mainGlobals "range" = some none)
    : ∃ fd : FuncData, (∀ (s : Shared) (v : Value), BindsTo s fd ⟨[v], []⟩ [("_law_script", v)]) ∧ ∀ base : Heap, K.In base → base.Ns mainGlobals mg → FnG l.prog w K mg base 210 fa fd ["_law_script"] (spLaw K) := by
  have e := hfa.symm.trans (PySem.W.mg_of X G a21)
  cases e
  let T : Tx K mg := {
    is_integer := ⟨f0, _, fun_mk (st := s_is_integer) l0 c0 k0, PySem.W.mg_of X G a0, (fun_mk (st := s_is_integer) l0 c0 k0).binds (ps := ["value"]) fun _ _ _ _ _ _ us hl => match us, hl with | [_], _ => rfl⟩,
    is_name := ⟨f1, _, fun_mk (st := s_is_name) l1 c1 k1, PySem.W.mg_of X G a1, (fun_mk (st := s_is_name) l1 c1 k1).binds (ps := ["value"]) fun _ _ _ _ _ _ us hl => match us, hl with | [_], _ => rfl⟩,
    is_variable := ⟨f2, _, fun_mk (st := s_is_variable) l2 c2 k2, PySem.W.mg_of X G a2, (fun_mk (st := s_is_variable) l2 c2 k2).binds (ps := ["value"]) fun _ _ _ _ _ _ us hl => match us, hl with | [_], _ => rfl⟩,
    formed_nodes := ⟨f3, _, fun_mk (st := s_formed_nodes) l3 c3 k3, PySem.W.mg_of X G a3, (fun_mk (st := s_formed_nodes) l3 c3 k3).binds (ps := ["value", "levels"]) fun _ _ _ _ _ _ us hl => match us, hl with | [_, _], _ => rfl⟩,
    nodes_of := ⟨f4, _, fun_mk (st := s_nodes_of) l4 c4 k4, PySem.W.mg_of X G a4, (fun_mk (st := s_nodes_of) l4 c4 k4).binds (ps := ["value"]) fun _ _ _ _ _ _ us hl => match us, hl with | [_], _ => rfl⟩,
    is_shape := ⟨f5, _, fun_mk (st := s_is_shape) l5 c5 k5, PySem.W.mg_of X G a5, (fun_mk (st := s_is_shape) l5 c5 k5).binds (ps := ["value"]) fun _ _ _ _ _ _ us hl => match us, hl with | [_], _ => rfl⟩,
    variables_of := ⟨f6, _, fun_mk (st := s_variables_of) l6 c6 k6, PySem.W.mg_of X G a6, (fun_mk (st := s_variables_of) l6 c6 k6).binds (ps := ["shape"]) fun _ _ _ _ _ _ us hl => match us, hl with | [_], _ => rfl⟩,
    count_nodes := ⟨f7, _, fun_mk (st := s_count_nodes) l7 c7 k7, PySem.W.mg_of X G a7, (fun_mk (st := s_count_nodes) l7 c7 k7).binds (ps := ["shape"]) fun _ _ _ _ _ _ us hl => match us, hl with | [_], _ => rfl⟩,
    law_draws := ⟨f8, _, fun_mk (st := s_law_draws) l8 c8 k8, PySem.W.mg_of X G a8, (fun_mk (st := s_law_draws) l8 c8 k8).binds (ps := ["_law_script"]) fun _ _ _ _ _ _ us hl => match us, hl with | [_], _ => rfl⟩,
    law_next := ⟨f9, _, fun_mk (st := s_law_next) l9 c9 k9, PySem.W.mg_of X G a9, (fun_mk (st := s_law_next) l9 c9 k9).binds (ps := ["_law_drawn", "_law_many"]) fun _ _ _ _ _ _ us hl => match us, hl with | [_, _], _ => rfl⟩,
    law_one := ⟨f10, _, fun_mk (st := s_law_one) l10 c10 k10, PySem.W.mg_of X G a10, (fun_mk (st := s_law_one) l10 c10 k10).binds (ps := ["_law_drawn", "_law_items"]) fun _ _ _ _ _ _ us hl => match us, hl with | [_, _], _ => rfl⟩,
    law_same := ⟨f11, _, fun_mk (st := s_law_same) l11 c11 k11, PySem.W.mg_of X G a11, (fun_mk (st := s_law_same) l11 c11 k11).binds (ps := ["_law_found", "_law_due"]) fun _ _ _ _ _ _ us hl => match us, hl with | [_, _], _ => rfl⟩,
    law_vars := ⟨f12, _, fun_mk (st := s_law_vars) l12 c12 k12, PySem.W.mg_of X G a12, (fun_mk (st := s_law_vars) l12 c12 k12).binds (ps := ["_law_shape"]) fun _ _ _ _ _ _ us hl => match us, hl with | [_], _ => rfl⟩,
    law_leaf := ⟨f13, _, fun_mk (st := s_law_leaf) l13 c13 k13, PySem.W.mg_of X G a13, (fun_mk (st := s_law_leaf) l13 c13 k13).binds (ps := ["_law_drawn", "_law_limit"]) fun _ _ _ _ _ _ us hl => match us, hl with | [_, _], _ => rfl⟩,
    law_sized := ⟨f14, _, fun_mk (st := s_law_sized) l14 c14 k14, PySem.W.mg_of X G a14, (fun_mk (st := s_law_sized) l14 c14 k14).binds (ps := ["_law_drawn", "_law_many", "_law_limit"]) fun _ _ _ _ _ _ us hl => match us, hl with | [_, _, _], _ => rfl⟩,
    law_tower := ⟨f15, _, fun_mk (st := s_law_tower) l15 c15 k15, PySem.W.mg_of X G a15, (fun_mk (st := s_law_tower) l15 c15 k15).binds (ps := ["_law_drawn", "_law_many", "_law_shape"]) fun _ _ _ _ _ _ us hl => match us, hl with | [_, _, _], _ => rfl⟩,
    law_other := ⟨f16, _, fun_mk (st := s_law_other) l16 c16 k16, PySem.W.mg_of X G a16, (fun_mk (st := s_law_other) l16 c16 k16).binds (ps := ["_law_drawn", "_law_shape", "_law_part"]) fun _ _ _ _ _ _ us hl => match us, hl with | [_, _, _], _ => rfl⟩,
    law_odd := ⟨f17, _, fun_mk (st := s_law_odd) l17 c17 k17, PySem.W.mg_of X G a17, (fun_mk (st := s_law_odd) l17 c17 k17).binds (ps := ["_law_drawn"]) fun _ _ _ _ _ _ us hl => match us, hl with | [_], _ => rfl⟩,
    law_named := ⟨f18, _, fun_mk (st := s_law_named) l18 c18 k18, PySem.W.mg_of X G a18, (fun_mk (st := s_law_named) l18 c18 k18).binds (ps := ["_law_name", "_law_many"]) fun _ _ _ _ _ _ us hl => match us, hl with | [_, _], _ => rfl⟩,
    law_look := ⟨f19, _, fun_mk (st := s_law_look) l19 c19 k19, PySem.W.mg_of X G a19, (fun_mk (st := s_law_look) l19 c19 k19).binds (ps := ["_law_value"]) fun _ _ _ _ _ _ us hl => match us, hl with | [_], _ => rfl⟩,
    law_right := ⟨f20, _, fun_mk (st := s_law_right) l20 c20 k20, PySem.W.mg_of X G a20, (fun_mk (st := s_law_right) l20 c20 k20).binds (ps := ["_law_value"]) fun _ _ _ _ _ _ us hl => match us, hl with | [_], _ => rfl⟩,
    law := ⟨fa, _, fun_mk (st := s_law) l21 c21 k21, PySem.W.mg_of X G a21, (fun_mk (st := s_law) l21 c21 k21).binds (ps := ["_law_script"]) fun _ _ _ _ _ _ us hl => match us, hl with | [_], _ => rfl⟩,
    g_VARIABLES := ⟨_, PySem.W.mg_of X G v_VARIABLES⟩,
    g_NODES := ⟨_, PySem.W.mg_of X G v_NODES⟩,
    g_DEPTH := ⟨_, PySem.W.mg_of X G v_DEPTH⟩,
    g_CAPITAL := ⟨_, PySem.W.mg_of X G v_CAPITAL⟩,
    g_LETTERS_AND_DIGITS := ⟨_, PySem.W.mg_of X G v_LETTERS_AND_DIGITS⟩,
    g_LONGEST := ⟨_, PySem.W.mg_of X G v_LONGEST⟩,
    g_TOO_MANY := ⟨_, PySem.W.mg_of X G v_TOO_MANY⟩,
    g_MOST_PARTS := ⟨_, PySem.W.mg_of X G v_MOST_PARTS⟩,
    g_INT := ⟨p_INT, PySem.W.mg_of X G v_INT, fun H => .inr ⟨_, _, _, w_INT, rfl, rfl, (by show 1 ≤ sizeLine; decide), (.cons ⟨_, rfl⟩ .nil)⟩⟩,
    g_BOOL := ⟨p_BOOL, PySem.W.mg_of X G v_BOOL, fun H => .inr ⟨_, _, _, w_BOOL, rfl, rfl, (by show 1 ≤ sizeLine; decide), (.cons ⟨_, rfl⟩ .nil)⟩⟩,
    m_isinstance := PySem.W.mg_none_of X G z_isinstance,
    m_len := PySem.W.mg_none_of X G z_len,
    m_int := PySem.W.mg_none_of X G z_int,
    m_str := PySem.W.mg_none_of X G z_str,
    m_bool := PySem.W.mg_none_of X G z_bool,
    m_tuple := PySem.W.mg_none_of X G z_tuple,
    m_list := PySem.W.mg_none_of X G z_list,
    m_sum := PySem.W.mg_none_of X G z_sum,
    m_max := PySem.W.mg_none_of X G z_max,
    m_min := PySem.W.mg_none_of X G z_min,
    m_abs := PySem.W.mg_none_of X G z_abs,
    m_repr := PySem.W.mg_none_of X G z_repr,
    m_range := PySem.W.mg_none_of X G z_range
  }
  exact ⟨T.law.fd, fun s v => .of_eq rfl, fun base _ _ => ok_law T⟩
end K1
open PySem PySem.W PyProof.Rows
set_option maxHeartbeats 0 in
theorem PySem.Challenge.cw_shapelang_k01_shapes_holds : PySem.Challenge.rw_shapelang_k01_shapes.Holds := by
  w_on; o_law; k_head; (case hw => w_witness2)
  k_fill
  refine Sl.walk_go (l := PySem.Challenge.rw_shapelang_k01_shapes) (n := 63) (k := 210) (x := "_law_script") (sp := fun K => K1.spLaw K) rfl (by decide) rfl ⟨rfl, by decide, by decide⟩ (fun w h Y => PySem.W.kIn_of Y) ?F (fun K H a ns hl hS _ _ => ⟨a, ns, rfl, hS, hl, fun _ => rfl⟩)
  case F =>
    intro w mg fa h KX G hmg
    refine' K1.all_mk KX G hmg ?a0 ?l0 ?c0 ?k0 ?a1 ?l1 ?c1 ?k1 ?a2 ?l2 ?c2 ?k2 ?a3 ?l3 ?c3 ?k3 ?a4 ?l4 ?c4 ?k4 ?a5 ?l5 ?c5 ?k5 ?a6 ?l6 ?c6 ?k6 ?a7 ?l7 ?c7 ?k7 ?a8 ?l8 ?c8 ?k8 ?a9 ?l9 ?c9 ?k9 ?a10 ?l10 ?c10 ?k10 ?a11 ?l11 ?c11 ?k11 ?a12 ?l12 ?c12 ?k12 ?a13 ?l13 ?c13 ?k13 ?a14 ?l14 ?c14 ?k14 ?a15 ?l15 ?c15 ?k15 ?a16 ?l16 ?c16 ?k16 ?a17 ?l17 ?c17 ?k17 ?a18 ?l18 ?c18 ?k18 ?a19 ?l19 ?c19 ?k19 ?a20 ?l20 ?c20 ?k20 ?a21 ?l21 ?c21 ?k21 ?v_VARIABLES ?v_NODES ?v_DEPTH ?v_CAPITAL ?v_LETTERS_AND_DIGITS ?v_LONGEST ?v_TOO_MANY ?v_MOST_PARTS ?v_INT ?w_INT ?v_BOOL ?w_BOOL ?z_isinstance ?z_len ?z_int ?z_str ?z_bool ?z_tuple ?z_list ?z_sum ?z_max ?z_min ?z_abs ?z_repr ?z_range
    (case a0 => k_is); (case l0 => k_is); (case c0 => k_is); (case k0 => k_is); (case a1 => k_is); (case l1 => k_is); (case c1 => k_is); (case k1 => k_is); (case a2 => k_is); (case l2 => k_is); (case c2 => k_is); (case k2 => k_is); (case a3 => k_is); (case l3 => k_is); (case c3 => k_is); (case k3 => k_is); (case a4 => k_is); (case l4 => k_is); (case c4 => k_is); (case k4 => k_is); (case a5 => k_is); (case l5 => k_is); (case c5 => k_is); (case k5 => k_is); (case a6 => k_is); (case l6 => k_is); (case c6 => k_is); (case k6 => k_is); (case a7 => k_is); (case l7 => k_is); (case c7 => k_is); (case k7 => k_is); (case a8 => k_is); (case l8 => k_is); (case c8 => k_is); (case k8 => k_is); (case a9 => k_is); (case l9 => k_is); (case c9 => k_is); (case k9 => k_is); (case a10 => k_is); (case l10 => k_is); (case c10 => k_is); (case k10 => k_is); (case a11 => k_is); (case l11 => k_is); (case c11 => k_is); (case k11 => k_is); (case a12 => k_is); (case l12 => k_is); (case c12 => k_is); (case k12 => k_is); (case a13 => k_is); (case l13 => k_is); (case c13 => k_is); (case k13 => k_is); (case a14 => k_is); (case l14 => k_is); (case c14 => k_is); (case k14 => k_is); (case a15 => k_is); (case l15 => k_is); (case c15 => k_is); (case k15 => k_is); (case a16 => k_is); (case l16 => k_is); (case c16 => k_is); (case k16 => k_is); (case a17 => k_is); (case l17 => k_is); (case c17 => k_is); (case k17 => k_is); (case a18 => k_is); (case l18 => k_is); (case c18 => k_is); (case k18 => k_is); (case a19 => k_is); (case l19 => k_is); (case c19 => k_is); (case k19 => k_is); (case a20 => k_is); (case l20 => k_is); (case c20 => k_is); (case k20 => k_is); (case a21 => k_is); (case l21 => k_is); (case c21 => k_is); (case k21 => k_is); (case v_VARIABLES => k_is); (case v_NODES => k_is); (case v_DEPTH => k_is); (case v_CAPITAL => k_is); (case v_LETTERS_AND_DIGITS => k_is); (case v_LONGEST => k_is); (case v_TOO_MANY => k_is); (case v_MOST_PARTS => k_is); (case v_INT => k_is); (case w_INT => k_is); (case v_BOOL => k_is); (case w_BOOL => k_is); (case z_isinstance => k_is); (case z_len => k_is); (case z_int => k_is); (case z_str => k_is); (case z_bool => k_is); (case z_tuple => k_is); (case z_list => k_is); (case z_sum => k_is); (case z_max => k_is); (case z_min => k_is); (case z_abs => k_is); (case z_repr => k_is); (case z_range => k_is)
