import PyProof.Rows.All
import Wide.All
import OpenK.AllK
import Wide.FinOn
import HandS.ForMost
import HandS.TupAny
import HandS.IsInst
import PyProof.EqLayable
import PyProof.ReprRoads
import HandS.Evl
import HandS.Walk
import HandS.Steps
import PyProof.FactsAll.dict_1
import PyProof.FactsAll.subtypes_3
import HandS.More
import HandS.Conv
import KE.KDictSum
import HandS.Deep
import HandS.ForExc
import HandS.ExcInit
import HandS.TryMany
import HandS.ExcField
import HandS.ExcIs
import HandS.TupMul
import HandS.Wide
import HandS.Zip
import HandS.Star
import HandS.RaiseMore
import KE.KExcIs
import KE.KExcInit
import HandS.ExcValue
import HandS.Style
import HandS.Head0
import HandS.Head1
import HandS.Head2
import HandS.HeadEnd
import HandS.HeadHook1
import PySem.Challenge.RW_shapelang_k84_errors_and_bounds
set_option Elab.async false
set_option linter.all false
set_option maxRecDepth 100000
set_option maxHeartbeats 4000000
namespace Sl
open PySem PySem.Spec PyProof.Rows L2

/-! ### data: a value with all that it reaches, none of it at an address of S -/
def kD : Key → PyData
  | .inl i => .int i
  | .inr x => .str x
mutual
inductive Da (S : Addr → Prop) (H : Hp) : V → PyData → Prop
  | non : Da S H .non .none
  | bl (b : Bool) : Da S H (.bl b) (.bool b)
  | int (i : Int) : Da S H (.int i) (.int i)
  | str (x : Str) : Da S H (.str x) (.str x)
  | lst {a : Addr} {xs : List V} {ds : List PyData} : ¬ S a → H a = some (.lst xs) → DaAll S H xs ds → Da S H (.ref a) (.list ds)
  | tup {a : Addr} {xs : List V} {ds : List PyData} : ¬ S a → H a = some (.tup xs) → DaAll S H xs ds → Da S H (.ref a) (.tuple ds)
  | dct {a : Addr} {kvs : List (Key × V)} {ds : List PyData} : ¬ S a → H a = some (.dK kvs) → DaAll S H (kvs.map (·.2)) ds → Da S H (.ref a) (.dict ((kvs.map fun p => kD p.1).zip ds))
inductive DaAll (S : Addr → Prop) (H : Hp) : List V → List PyData → Prop
  | nil : DaAll S H [] []
  | cons {v : V} {vs : List V} {d : PyData} {ds : List PyData} : Da S H v d → DaAll S H vs ds → DaAll S H (v :: vs) (d :: ds)
end
/-- all but what stands at the addresses of T is as it was -/
def Kp (T : Addr → Prop) (H H' : Hp) : Prop := ∀ a o, ¬ T a → H a = some o → H' a = some o
theorem Kp.refl {T : Addr → Prop} (H : Hp) : Kp T H H := fun _ _ _ h => h
theorem Kp.trans {T : Addr → Prop} {H H1 H2 : Hp} (a : Kp T H H1) (b : Kp T H1 H2) : Kp T H H2 := fun x o n h => b x o n (a x o n h)
theorem Kp.of {T : Addr → Prop} {H H' : Hp} (s : Same H H') : Kp T H H' := fun a o _ h => s a o h
theorem Kp.mono {T U : Addr → Prop} {H H' : Hp} (s : Kp T H H') (h : ∀ a, T a → U a) : Kp U H H' := fun a o n e => s a o (fun t => n (h a t)) e
mutual
theorem Da.keep {S T : Addr → Prop} {H H' : Hp} (k : Kp T H H') (st : ∀ a, T a → S a) : ∀ {v : V} {d : PyData}, Da S H v d → Da S H' v d
  | _, _, .non => .non
  | _, _, .bl b => .bl b
  | _, _, .int i => .int i
  | _, _, .str x => .str x
  | _, _, .lst n h a => .lst n (k _ _ (fun t => n (st _ t)) h) (DaAll.keep k st a)
  | _, _, .tup n h a => .tup n (k _ _ (fun t => n (st _ t)) h) (DaAll.keep k st a)
  | _, _, .dct n h a => .dct n (k _ _ (fun t => n (st _ t)) h) (DaAll.keep k st a)
theorem DaAll.keep {S T : Addr → Prop} {H H' : Hp} (k : Kp T H H') (st : ∀ a, T a → S a) : ∀ {vs : List V} {ds : List PyData}, DaAll S H vs ds → DaAll S H' vs ds
  | _, _, .nil => .nil
  | _, _, .cons h t => .cons (Da.keep k st h) (DaAll.keep k st t)
end
theorem Da.same {S : Addr → Prop} {H H' : Hp} (k : Same H H') {v : V} {d : PyData} (h : Da S H v d) : Da S H' v d := h.keep (T := fun _ => False) (fun a o _ e => k a o e) fun _ z => z.elim
theorem DaAll.same {S : Addr → Prop} {H H' : Hp} (k : Same H H') {v : List V} {d : List PyData} (h : DaAll S H v d) : DaAll S H' v d := h.keep (T := fun _ => False) (fun a o _ e => k a o e) fun _ z => z.elim
mutual
/-- fewer addresses to keep away from -/
theorem Da.less {S T : Addr → Prop} {H : Hp} (st : ∀ a, T a → S a) : ∀ {v : V} {d : PyData}, Da S H v d → Da T H v d
  | _, _, .non => .non
  | _, _, .bl b => .bl b
  | _, _, .int i => .int i
  | _, _, .str x => .str x
  | _, _, .lst n h a => .lst (fun t => n (st _ t)) h (DaAll.less st a)
  | _, _, .tup n h a => .tup (fun t => n (st _ t)) h (DaAll.less st a)
  | _, _, .dct n h a => .dct (fun t => n (st _ t)) h (DaAll.less st a)
theorem DaAll.less {S T : Addr → Prop} {H : Hp} (st : ∀ a, T a → S a) : ∀ {vs : List V} {ds : List PyData}, DaAll S H vs ds → DaAll T H vs ds
  | _, _, .nil => .nil
  | _, _, .cons h t => .cons (Da.less st h) (DaAll.less st t)
end
mutual
/-- one more address, where nothing stood -/
theorem Da.more {S : Addr → Prop} {H : Hp} {l : Addr} (hl : H l = none) : ∀ {v : V} {d : PyData}, Da S H v d → Da (fun a => S a ∨ a = l) H v d
  | _, _, .non => .non
  | _, _, .bl b => .bl b
  | _, _, .int i => .int i
  | _, _, .str x => .str x
  | _, _, .lst n h a => .lst (fun t => t.elim n fun e => ne_of_none h hl e) h (DaAll.more hl a)
  | _, _, .tup n h a => .tup (fun t => t.elim n fun e => ne_of_none h hl e) h (DaAll.more hl a)
  | _, _, .dct n h a => .dct (fun t => t.elim n fun e => ne_of_none h hl e) h (DaAll.more hl a)
theorem DaAll.more {S : Addr → Prop} {H : Hp} {l : Addr} (hl : H l = none) : ∀ {vs : List V} {ds : List PyData}, DaAll S H vs ds → DaAll (fun a => S a ∨ a = l) H vs ds
  | _, _, .nil => .nil
  | _, _, .cons h t => .cons (Da.more hl h) (DaAll.more hl t)
end
theorem DaAll.length {S : Addr → Prop} {H : Hp} : ∀ {vs : List V} {ds : List PyData}, DaAll S H vs ds → vs.length = ds.length
  | _, _, .nil => rfl
  | _, _, .cons _ t => congrArg (· + 1) t.length
theorem DaAll.get {S : Addr → Prop} {H : Hp} : ∀ {vs : List V} {ds : List PyData} {i : Nat} {v : V}, DaAll S H vs ds → vs[i]? = some v → ∃ d, ds[i]? = some d ∧ Da S H v d
  | _, _, _, _, .nil, e => by simp at e
  | _, _, 0, _, .cons h _, e => by simp at e; subst e; exact ⟨_, rfl, h⟩
  | _, _, i + 1, v, .cons _ t, e => by
    obtain ⟨d, h1, h2⟩ := DaAll.get (i := i) (v := v) t (by simpa using e)
    exact ⟨d, by simpa using h1, h2⟩
theorem DaAll.append {S : Addr → Prop} {H : Hp} : ∀ {vs us : List V} {ds es : List PyData}, DaAll S H vs ds → DaAll S H us es → DaAll S H (vs ++ us) (ds ++ es)
  | _, _, _, _, .nil, s => s
  | _, _, _, _, .cons h t, s => .cons h (t.append s)
theorem DaAll.drop {S : Addr → Prop} {H : Hp} : ∀ {vs : List V} {ds : List PyData} (n : Nat), DaAll S H vs ds → DaAll S H (vs.drop n) (ds.drop n)
  | _, _, 0, h => h
  | _, _, _ + 1, .nil => .nil
  | _, _, n + 1, .cons _ t => DaAll.drop n t
theorem DaAll.take {S : Addr → Prop} {H : Hp} : ∀ {vs : List V} {ds : List PyData} (n : Nat), DaAll S H vs ds → DaAll S H (vs.take n) (ds.take n)
  | _, _, 0, h => .nil
  | _, _, _ + 1, .nil => .nil
  | _, _, n + 1, .cons h t => .cons h (DaAll.take n t)
theorem DaAll.reverse {S : Addr → Prop} {H : Hp} : ∀ {vs : List V} {ds : List PyData}, DaAll S H vs ds → DaAll S H vs.reverse ds.reverse
  | _, _, .nil => .nil
  | _, _, .cons h t => by
    rw [List.reverse_cons, List.reverse_cons]
    exact t.reverse.append (.cons h .nil)
theorem Da.only {S : Addr → Prop} {H : Hp} {l : Addr} (hl : H l = none) {v : V} {d : PyData} (h : Da S H v d) : Da (fun a => a = l) H v d :=
  ((h.less (T := fun _ => False) fun _ z => z.elim).more hl).less fun _ e => .inr e
theorem DaAll.only {S : Addr → Prop} {H : Hp} {l : Addr} (hl : H l = none) {v : List V} {d : List PyData} (h : DaAll S H v d) : DaAll (fun a => a = l) H v d :=
  ((h.less (T := fun _ => False) fun _ z => z.elim).more hl).less fun _ e => .inr e
end Sl
set_option Elab.async false
set_option linter.all false
set_option maxRecDepth 100000
set_option maxHeartbeats 4000000
namespace Sl
open PySem PySem.Spec PyProof.Rows L2
mutual
def noLst : PyData → Bool
  | .none | .bool _ | .int _ | .str _ => true
  | .list _ => false
  | .tuple xs => noLstAll xs
  | .dict kvs => noLstKv kvs
def noLstAll : List PyData → Bool
  | [] => true
  | x :: xs => noLst x && noLstAll xs
def noLstKv : List (PyData × PyData) → Bool
  | [] => true
  | (_, v) :: r => noLst v && noLstKv r
end
theorem keys_read {P : Program} {w : World} {h : Heap} : ∀ {kvs : List (Key × V)} {vs : List (Key × Value)} {es : List DictEntry}, KV kvs vs → Pairs (mixKind P w) es vs → ReadsAll h (es.map (·.key)) (kvs.map fun p => kD p.1) []
  | _, _, _, .nil, .nil => .nil
  | (k, v) :: _, (k2, u) :: _, e :: _, .cons r t, .cons h1 h2 q => by
    obtain ⟨e1, _⟩ := r
    have e1' : k = k2 := e1
    subst e1'
    have h1' : keyIs k e.key = true := h1
    have ih := keys_read (h := h) t q
    rcases keyIs_shape h1' with ⟨i, t, rfl, ek⟩ | ⟨x, t, rfl, ek⟩
    · show ReadsAll h (e.key :: _) (PyData.int i :: _) ([] ++ [])
      rw [ek]
      exact .cons (.int i t) ih
    · show ReadsAll h (e.key :: _) (PyData.str x :: _) ([] ++ [])
      rw [ek]
      exact .cons (.str x t) ih
theorem vals_of {P : Program} {w : World} : ∀ {kvs : List (Key × V)} {vs : List (Key × Value)} {es : List DictEntry}, KV kvs vs → Pairs (mixKind P w) es vs → Vals (kvs.map (·.2)) (es.map (·.val))
  | _, _, _, .nil, .nil => .nil
  | _ :: _, _ :: _, e :: _, .cons r t, .cons h1 h2 q => by
    refine Paired.cons ?_ (vals_of t q)
    show RelV _ e.val
    rw [h2]
    exact r.2
theorem zip_fst {α β : Type} : ∀ {as : List α} {bs : List β}, as.length = bs.length → (as.zip bs).map (·.1) = as
  | [], [], _ => rfl
  | a :: as, b :: bs, h => congrArg (a :: ·) (zip_fst (Nat.succ.inj h))
theorem zip_snd {α β : Type} : ∀ {as : List α} {bs : List β}, as.length = bs.length → (as.zip bs).map (·.2) = bs
  | [], [], _ => rfl
  | a :: as, b :: bs, h => congrArg (b :: ·) (zip_snd (Nat.succ.inj h))
theorem noLstKv_zip : ∀ {ks ds : List PyData}, ks.length = ds.length → noLstKv (ks.zip ds) = true → noLstAll ds = true
  | [], [], _, _ => rfl
  | k :: ks, d :: ds, h, q => by
    have q' : (noLst d && noLstKv (ks.zip ds)) = true := q
    rw [Bool.and_eq_true] at q'
    show (noLst d && noLstAll ds) = true
    rw [q'.1, noLstKv_zip (Nat.succ.inj h) q'.2]
    rfl
section
variable {X : Cx} {pins : List (Addr × Obj)} {σ : L2.St} {H : Hp} {s : Shared} {S : Addr → Prop}
mutual
theorem Da.reads (I : Inv X pins σ H s) : ∀ {v : V} {d : PyData} {u : Value}, Da S H v d → RelV v u → ∃ as, Reads s.heap u d as ∧ (noLst d = true → sysModules ∉ as)
  | _, _, _, .non, r => by
    cases r
    exact ⟨_, Reads.none, fun _ h => nomatch h⟩
  | _, _, _, .bl b, r => by
    cases r
    exact ⟨_, Reads.bool b, fun _ h => nomatch h⟩
  | _, _, _, .int i, r => by
    obtain ⟨t, rfl⟩ := r
    exact ⟨_, Reads.int i t, fun _ h => nomatch h⟩
  | _, _, _, .str x, r => by
    obtain ⟨t, rfl⟩ := r
    exact ⟨_, Reads.str x t, fun _ h => nomatch h⟩
  | _, _, _, .lst _ hs ha, r => by
    cases r
    obtain ⟨its, rv, ⟨o, n, ho, hc, _, hd⟩, _⟩ := I.list (SqL.of (K := X.K) hs)
    obtain ⟨as, hr, _⟩ := DaAll.reads I ha rv
    exact ⟨_, Reads.list ho hc hd hr, fun z => nomatch z⟩
  | _, _, _, .tup _ hs ha, r => by
    cases r
    obtain ⟨its, rv, ⟨o, ho, hc, n, hd⟩, _⟩ := I.tuple (SqT.of (K := X.K) hs)
    obtain ⟨as, hr, hn⟩ := DaAll.reads I ha rv
    exact ⟨_, Reads.tuple ho hc hd hr, fun z => hn z⟩
  | _, _, _, .dct (a := a) (kvs := kvs) (ds := ds) _ hs ha, r => by
    cases r
    obtain ⟨_, ns, vs, kv, o, es, ep, ho, hx, hd, _, hp, _⟩ := (show ObjOk X.prog X.w H s.heap a (.dK kvs) from I.hok a _ hs)
    have hk := keys_read (h := s.heap) kv hp
    obtain ⟨bs, hr, hn⟩ := DaAll.reads I ha (vals_of kv hp)
    have hl : (kvs.map fun p => kD p.1).length = ds.length := by
      have := ha.length
      rw [List.length_map] at this
      rw [List.length_map]
      exact this
    refine ⟨_, Reads.dict (as := []) (bs := bs) ho hx.1 hd (by rw [zip_fst hl]; exact hk) (by rw [zip_snd hl]; exact hr), fun z hm => ?_⟩
    rcases List.mem_cons.mp hm with e | hm
    · rw [e] at ns
      simp at ns
    · exact hn (noLstKv_zip hl z) hm
theorem DaAll.reads (I : Inv X pins σ H s) : ∀ {vs : List V} {ds : List PyData} {us : List Value}, DaAll S H vs ds → Vals vs us → ∃ as, ReadsAll s.heap us ds as ∧ (noLstAll ds = true → sysModules ∉ as)
  | _, _, _, .nil, .nil => ⟨_, ReadsAll.nil, fun _ h => nomatch h⟩
  | _, _, _, .cons h1 h2, .cons r1 r2 => by
    obtain ⟨as, q1, n1⟩ := Da.reads I h1 r1
    obtain ⟨bs, q2, n2⟩ := DaAll.reads I h2 r2
    refine ⟨_, ReadsAll.cons q1 q2, fun z hm => ?_⟩
    have z' := (Bool.and_eq_true _ _).mp z
    rcases List.mem_append.mp hm with hm | hm
    · exact n1 z'.1 hm
    · exact n2 z'.2 hm
end
end
/-! ### rules over data -/
def kNo (d : PyData) : Bool := !d.hasDict || noLst d
/-- repr(x) -/
def rRepr : List V → Hp → VK → Prop := fun xs H Q => ∃ (S : Addr → Prop) (x : V) (d : PyData), xs = [x] ∧ Da S H x d ∧ d.showable = true ∧ kNo d = true ∧ d.depth ≤ 1000 ∧ d.shown.length ≤ sizeLine ∧ Q (.str d.shown) H
/-- x == y, x != y, one of them of few levels -/
def rEqA : R2 := fun x y H Q => ∃ (S : Addr → Prop) (d e : PyData), Da S H x d ∧ Da S H y e ∧ d.canLay0 = true ∧ e.canLay0 = true ∧ min d.depth e.depth ≤ 60 ∧ Q (.bl (PyData.eqv d e)) H

theorem call_repr {X : Cx} (hg : X.A.guards = some []) (hu : X.A.units + 1010 < cLine) : CallR X (.builtin "repr") rRepr := by
  intro pins s σ H xs us Q I r h
  obtain ⟨S, x, d, rfl, hd, hs, hk, hdp, hz, q⟩ := h
  obtain ⟨u, rfl, rx⟩ := vals1 r
  obtain ⟨as, rd, hn⟩ := Da.reads I hd rx
  cases rd with
  | none => exact PySem.P.repr_of_none ⟨.str _, H, I.tok _, ⟨_, rfl⟩, q⟩
  | bool b => exact PySem.P.repr_of_bool ⟨.str _, H, I.tok _, ⟨_, rfl⟩, q⟩
  | int i t => exact PySem.P.repr_of_int (of_decide_eq_true hs) ⟨.str _, H, I.tok _, ⟨_, rfl⟩, q⟩
  | str y t => exact PySem.P.repr_of_str ⟨.str _, H, I.tok _, ⟨_, rfl⟩, q⟩ hz
  | list h1 h2 h3 h4 =>
    exact repr_of_reads' (.list h1 h2 h3 h4) hs (fun z => hn (by
      unfold kNo at hk
      rw [z] at hk
      simpa using hk)) hg (by omega) (fun _ _ e => e) (fun h' u tk k => ⟨.str _, H, I.kept k, ⟨_, rfl⟩, q⟩) hz
  | tuple h1 h2 h3 h4 =>
    exact repr_of_reads' (.tuple h1 h2 h3 h4) hs (fun z => hn (by
      unfold kNo at hk
      rw [z] at hk
      simpa using hk)) hg (by omega) (fun _ _ e => e) (fun h' u tk k => ⟨.str _, H, I.kept k, ⟨_, rfl⟩, q⟩) hz
  | dict h1 h2 h3 h4 h5 =>
    exact repr_of_reads' (.dict h1 h2 h3 h4 h5) hs (fun z => hn (by
      unfold kNo at hk
      rw [z] at hk
      simpa using hk)) hg (by omega) (fun _ _ e => e) (fun h' u tk k => ⟨.str _, H, I.kept k, ⟨_, rfl⟩, q⟩) hz
theorem op_eqA {X : Cx} (hu : X.A.units + 64 < cLine) : OpR X (compareOp .Eq) rEqA := by
  intro pins s σ H x y v u Q I rx ry h
  obtain ⟨S, d, e, hd, he, ld, le, hm, q⟩ := h
  obtain ⟨as, r1, _⟩ := Da.reads I hd rx
  obtain ⟨bs, r2, _⟩ := Da.reads I he ry
  exact SeqAt.compareEq_reads r1 r2 ld le (by omega) ⟨.bl _, H, I, rfl, q⟩
end Sl
set_option Elab.async false
set_option linter.all false
set_option maxRecDepth 100000
set_option maxHeartbeats 4000000
namespace Sl
open PySem PySem.Spec PyProof.Rows L2
/-! ### defs that are called where no repr is under way -/
/-- the def at f keeps the promise where nothing is being shown -/
structure FnG (P : Program) (w : World) (K : PySem.W.Frag) (mg : Str → Option Value) (base : Heap) (k : Nat) (f : Addr) (fd : FuncData) (ps : List Str) (sp : Sp) : Prop where
  len : ∀ vs H Q E, sp vs H Q E → vs.length = ps.length
  go : ∀ (A : Around) (outer : List Env) (s : Shared) (H : Hp) (args : Args) (us : List Value) (vs : List V) (Q : VK), A.guards = some [] → Room k A → Env0 P w K mg base A outer s H →
    BindsTo s fd args (ps.zip us) → Vals vs us → sp vs H Q E0 → codeAny (model P w) A (.call (.ref f) args) (CR CX0 outer P w H s Q E0) s
variable {P : Program} {w : World} {K : PySem.W.Frag} {mg : Str → Option Value} {base : Heap}
theorem FnG.mono {j k : Nat} {f : Addr} {fd : FuncData} {ps : List Str} {sp : Sp} (F : FnG P w K mg base j f fd ps sp) (h : j ≤ k) : FnG P w K mg base k f fd ps sp :=
  ⟨F.len, fun A o s H as us vs Q g r => F.go A o s H as us vs Q g (r.mono h)⟩
theorem FnG.of {k : Nat} {f : Addr} {fd : FuncData} {ps : List Str} {sp : Sp} (F : FnOk P w K mg base CX0 k f fd ps sp) : FnG P w K mg base k f fd ps sp :=
  ⟨F.len, fun A o s H as us vs Q _ r => F.run A o s H as us vs Q E0 r⟩
theorem guards_deeper {A : Around} {env : Env} (g : A.guards = some []) : (A.deeper env).guards = some [] := g
/-- by its body -/
theorem fnG_mk {x qual : Str} {st : Stmt} {f : Addr} {fd : FuncData} {N ps : List Str} {k : Nat} {sp : Sp} (F : Fun K x qual st f fd) (S : FnScope N ps (defScope st)) (len : ∀ vs H Q E, sp vs H Q E → vs.length = ps.length)
    (body : ∀ (cdv : Value) (A : Around) (outer : List Env) (s : Shared) (H : Hp) (vs : List V) (Q : VK), A.guards = some [] → Room k (A.deeper (envOfC qual (defScope st) s.heap.objs.size f cdv)) → sp vs H Q E0 →
      ∃ t, PSs (cxOf CX0 P w K mg base N qual (defScope st) f cdv A outer s H E0) (defBody st) t ∧ t { nx := fun _ H' => Q .non H', rt := Q } (start N vs) H) : FnG P w K mg base (k + 1) f fd ps sp := by
  obtain ⟨oc, od, kV, doc, pm, an, cdv, ct, osl, rfl, lk, hcd⟩ := F.ex
  refine ⟨len, fun A outer s H args us vs Q g hr e0 hb r hsp => ?_⟩
  have KX : K.In s.heap := e0.mod.kin.keeps fun b o e => (e0.bs b o e).1
  have par : ∀ y ∈ ps.zip us, (defScope st).names.lookup y.1 = some .local ∨ ((defScope st).names.lookup y.1 = some .cell ∧ ((cellsFrom (s.heap.objs.size + 1) (defScope st).names []).lookup y.1).isSome = true) := by
    intro y hy
    obtain ⟨n, v⟩ := y
    have hm : n ∈ ps := (List.of_mem_zip hy).1
    cases S.par n hm with
    | inl q => exact .inl q
    | inr q => exact .inr ⟨q, PySem.W.cellsFrom_some _ _ _ (.inl q)⟩
  refine codeAny_call_function hr.depth (KX _ _ lk) rfl S.co S.gen rfl (PySem.W.codeRec_of KX hcd) (hb _ _ _ _ ?_)
  refine wpAny_newFunctionEnv_cells S.kind par fun env he s1 x => ?_
  subst he
  have lim : s.heap.NoLimit := e0.mod.nolimit.keeps fun b o e => (e0.bs b o e).1
  refine ⟨lim.keeps x.toInCall.keep, codeAny_func ?_⟩
  obtain ⟨t, ht, hq⟩ := body cdv A outer s H vs Q g (hr.deeper _) hsp
  have I := inv_start (CX := CX0) (E := E0) (mg := mg) (base := base) (qual := qual) (f := f) (cd := cdv) S hr.hd e0 (len _ _ _ _ hsp) r x
  refine wpAny_mono (ht.run [] s1 (start N vs) H _ I hq) (fun fl s' hs => ?_) fun e s' hs => hs
  cases fl with
  | ret u =>
    obtain ⟨v, σ', H', J, rv, q⟩ := hs
    exact ⟨v, H', J.os, J.bare, J.base, J.hok, rv, q⟩
  | next =>
    obtain ⟨σ', H', J, q⟩ := hs
    exact ⟨.non, H', J.os, J.bare, J.base, J.hok, rfl, q⟩
  | brk =>
    obtain ⟨_, _, _, q⟩ := hs
    exact q.elim
  | cont =>
    obtain ⟨_, _, _, q⟩ := hs
    exact q.elim
section
variable {X : Cx} {k : Nat} {f : Addr} {fd : FuncData} {ps : List Str} {sp : Sp} {x : Str} {p pos : Pos} {e : Expr} {es : List Expr} {t : TA}
/-- f(e, ..) of such a def -/
theorem pe_callG (F : FnG X.prog X.w X.K X.mg X.base k f fd ps sp) (g : X.A.guards = some []) (hr : Room k X.A) (hg : Gl X x) (hm : X.mg x = some (.ref f)) (hk : PySem.W.keepIn X.K (.ref f) = true) (hb : Binds X.K fd ps [])
    (ha : PA X (e :: es) t) (hdb : (x == ("__debug__" : Str)) = false := by decide) (he : starEach (e :: es) X.env = (false, eval e X.env) :: starEach es X.env := by rfl) (hpl : (backTo pos (starEach es X.env)).any (·.1) = false := by rfl) :
    PE X (.Call (.Name x p) (e :: es) [] pos) (fun σ H Q => t σ H fun vs H1 => sp vs H1 Q E0) := by
  refine ⟨fun pins s σ H Q I h => wpAny_Call_Name_kw (ld_glob I hg hm ?_ hdb)⟩
  refine PySem.W.callWith_K (h₀ := X.base) I.ok.mod.kin hk (thn (ha.run pos pins s σ H _ I h) fun us s1 ⟨vs, H1, I1, r, q⟩ => ⟨I1.kIn, ?_⟩) he hpl
  have hl : us.length = ps.length := r.length.symm.trans (F.len _ _ _ _ q)
  have b1 := hb s1 us I1.kIn (by rw [List.append_nil]; exact hl)
  rw [List.append_nil] at b1
  refine wpAny_call (codeAny_mono (F.go X.A X.stack s1 H1 ⟨us, []⟩ us vs Q g hr I1.env0 b1 r q) fun res s' z => ?_)
  cases res with
  | error e => exact z.elim
  | ok fl =>
    cases fl with
    | ret u => exact I1.after z
    | next => exact z.elim
    | brk => exact z.elim
    | cont => exact z.elim
end

/-- the law's own call, by its promise: at its start nothing is tracked but the script, locked (or the script is one of the module's own objects) -/
theorem law_go {mb : Str → Option Value} {k : Nat} {fa a : Addr} {fd : FuncData} {x : Str} {sp : Sp} {z : Shared} {vs : List Value} {ns : List Int}
    (kin : K.In z.heap) (hns : z.heap.Ns mainGlobals mg) (hb : z.heap.Ns builtinsNs mb) (hbb : ∀ x : Str, x ≠ "__name__" → mb x = bootBuiltins x) (lim : z.heap.NoLimit) (hg : z.gens = #[])
    (ha : z.heap.get? a = some { cls := .type "list", data := .seq vs.toArray }) (hi : IntsAre vs ns) (hl : ns.length ≤ sizeLine) (hr : Room k callerA)
    (F : ∀ base : Heap, K.In base → base.Ns mainGlobals mg → FnG P w K mg base k fa fd [x] sp) (bind : ∀ (s : Shared) (u : Value), BindsTo s fd ⟨[u], []⟩ [(x, u)])
    (hsp : ∀ H : Hp, SqL K H a (ns.map V.int) → (∀ b, b ≠ a → H b = none) → (H a ≠ none → ∃ o, H a = some (.frz o (.lst (ns.map V.int)))) → sp [.ref a] H (fun v _ => v = .bl true) E0) :
    codeAny (model P w) callerA (.call (.ref fa) ⟨[.ref a], []⟩) (fun r s' => r = .ok (.ret (.bool true)) ∧ OldK z.heap s'.heap ∧ s'.os = z.os ∧ AllBare s'.gens) z := by
  -- whichever way the script stands in the abstract heap G
  have from_ : ∀ G : Hp, SqL K G a (ns.map V.int) → HOk P w G z.heap → (∀ b, b ≠ a → G b = none) → (G a = none ∨ (K.lookup a = none ∧ ∃ o, G a = some (.frz o (.lst (ns.map V.int))))) →
      codeAny (model P w) callerA (.call (.ref fa) ⟨[.ref a], []⟩) (fun r s' => r = .ok (.ret (.bool true)) ∧ OldK z.heap s'.heap ∧ s'.os = z.os ∧ AllBare s'.gens) z := by
    intro G hS hok only at_a
    have keepN : ∀ {b : Addr} {o : Obj}, z.heap.get? b = some o → (∀ es ep, o.data = .dict es ep → True) → G b = none → (hidT z.heap G).get? b = some o := fun e _ n => hidT_get e n
    have dictN : ∀ {b : Addr} {o : Obj} {es : Array DictEntry} {ep : Nat}, z.heap.get? b = some o → o.data = .dict es ep → G b = none := by
      intro b o es ep e d
      by_cases hba : b = a
      · rw [hba, ha] at e
        have e2 := Option.some.inj e
        rw [← e2] at d
        cases d
      · exact only b hba
    have nsOf : ∀ {b : Addr} {m : Str → Option Value}, z.heap.Ns b m → (hidT z.heap G).Ns b m := by
      intro b m hm
      obtain ⟨o, es, ep, e, d, r⟩ := hm
      exact ⟨o, es, ep, hidT_get e (dictN e d), d, r⟩
    have kinN : K.In (hidT z.heap G) := by
      intro b o e
      refine hidT_get (kin b o e) ?_
      by_cases hba : b = a
      · rcases at_a with n | ⟨n, _⟩
        · rw [hba]
          exact n
        · rw [hba, n] at e
          cases e
      · exact only b hba
    obtain ⟨mc, l1, l2⟩ := lim
    have env0 : Env0 P w K mg (hidT z.heap G) callerA [] z G :=
      { frames := rfl, mod := ⟨kinN, nsOf hns, ⟨mb, nsOf hb, hbb⟩, ⟨mc, nsOf l1, l2⟩⟩, bs := fun b o e => of_hidT e, bsz := Nat.le_of_eq (hidT_size _ _), funs := trivial, frf := fun b hm => (nomatch hm), hok := hok, bare := .of_eq hg }
    have wish := hsp G hS only (fun n => by
      rcases at_a with q | ⟨_, q⟩
      · exact absurd q n
      · exact q)
    refine codeAny_mono ((F _ kinN (nsOf hns)).go callerA [] z G ⟨[.ref a], []⟩ [.ref a] [.ref a] _ rfl hr env0 (bind z (.ref a)) (.cons rfl .nil) wish) fun res s' h => ?_
    cases res with
    | error e => exact h.elim
    | ok fl =>
      cases fl with
      | next => exact h.elim
      | brk => exact h.elim
      | cont => exact h.elim
      | ret u =>
        obtain ⟨v, G', os, bare, un, hok', rv, q⟩ := h
        have q' : v = .bl true := q
        rw [q'] at rv
        have hu : u = Value.bool true := rv
        rw [hu]
        refine ⟨rfl, OldK.of_keep fun b o e => ?_, os, bare⟩
        by_cases n : G b = none
        · exact un.keep b o e n (fun z => nomatch z) (fun z => nomatch z)
        · have hba : b = a := Classical.byContradiction fun c => n (only b c)
          rcases at_a with q | ⟨_, ob, q⟩
          · rw [hba, q] at n
            exact absurd rfl n
          · rw [← hba] at q
            have g1 := (hok b _ q).1
            have g2 := (hok' b _ (un.frzs b ob _ q)).1
            rw [g1] at e
            rw [← Option.some.inj e]
            exact g2
  cases hk : K.lookup a with
  | some o =>
    have e := kin a o hk
    rw [ha] at e
    have eo := Option.some.inj e
    rw [← eo] at hk
    exact from_ (fun _ => none) (.inr ⟨_, vs.toArray, _, hk, rfl, rfl, rfl, by rw [List.size_toArray, hi.length]; exact hl, by simpa using vals_ints hi⟩) (fun b u q => (nomatch q)) (fun _ _ => rfl) (.inl rfl)
  | none =>
    have here : (fun b : Addr => if b = a then some (HO.frz { cls := .type "list", data := .seq vs.toArray } (.lst (ns.map V.int))) else none) a = some (HO.frz { cls := .type "list", data := .seq vs.toArray } (.lst (ns.map V.int))) := if_pos rfl
    refine from_ (fun b => if b = a then some (HO.frz { cls := .type "list", data := .seq vs.toArray } (.lst (ns.map V.int))) else none) (.inl (.inr ⟨_, here⟩)) (fun b u q => ?_) (fun b hb => if_neg hb) (.inr ⟨hk, _, here⟩)
    by_cases hba : b = a
    · rw [hba] at q ⊢
      rw [here] at q
      rw [← Option.some.inj q]
      exact ⟨ha, by rw [List.length_map]; exact hl, vs, _, vals_ints hi, ha⟩
    · have q2 := (show (if b = a then some (HO.frz { cls := .type "list", data := .seq vs.toArray } (.lst (ns.map V.int))) else none) = some u from q)
      rw [if_neg hba] at q2
      cases q2
theorem walk_go {l : PySem.W.OpenLaw} {n k : Nat} {q : Program} {loose : List Str} {XP : (Str → Option Value) → Heap → Prop} {YP : World → Heap → Prop} {d : DefRec} {K : Params → PySem.W.Frag} {sp : PySem.W.Frag → Sp} {x : Str}
    (hn : l.most = some n) (hz : n ≤ sizeLine) (hdf : d.params.defaults = []) (hr : Room k callerA) (hY : ∀ (w : World) (h : Heap), YP w h → (K w.params).In h)
    (F : ∀ (w : World) (mg : Str → Option Value) (fa : Addr) (h : Heap), (K w.params).In h → h.Ns mainGlobals mg → mg d.name = some (.ref fa) →
      ∃ fd : FuncData, (∀ (s : Shared) (u : Value), BindsTo s fd ⟨[u], []⟩ [(x, u)]) ∧ ∀ base : Heap, (K w.params).In base → base.Ns mainGlobals mg → FnG l.prog w (K w.params) mg base k fa fd [x] (sp (K w.params)))
    (hsp : ∀ (K : PySem.W.Frag) (H : Hp) (a : Addr) (ns : List Int), ns.length ≤ n → SqL K H a (ns.map V.int) → (∀ b, b ≠ a → H b = none) → (H a ≠ none → ∃ o, H a = some (.frz o (.lst (ns.map V.int)))) → sp K [.ref a] H (fun v _ => v = .bl true) E0) :
    PySem.W.WalkO q loose XP YP l.row.toRowW d [] (fun f vs => PySem.call f vs) := by
  refine Att.attach_call hn hdf fun w s₀ s₁ mg mb fa o pm cd doc a vs ns G Y _ _ _ hmg hobj hints hlen hg => ?_
  obtain ⟨fd, hb, hF⟩ := F w mg fa _ (hY w _ Y) G.T.g hmg
  exact law_go (hY w _ Y) G.T.g G.T.b G.T.builtins G.T.nolimit hg hobj hints (Nat.le_trans hlen hz) hr hF hb fun H h1 h2 h3 => hsp _ H a ns hlen h1 h2 h3
end Sl
set_option Elab.async false
set_option linter.all false
set_option maxRecDepth 100000
set_option maxHeartbeats 4000000
namespace Sl
open PySem PySem.Spec PyProof.Rows L2
/-! ### xs.extend(t), t a tuple -/
def rExtT (K : PySem.W.Frag) : V → List V → Hp → VK → Prop := fun x vs H Q => ∃ l b xs zs, x = .ref l ∧ vs = [.ref b] ∧ H l = some (.lst xs) ∧ H b = some (.tup zs) ∧ xs.length + zs.length ≤ sizeLine ∧ Q .non (upd H l (.lst (xs ++ zs)))
/-- the tuple's object, as it lies -/
theorem tup_obj {h : Heap} {b : Addr} {its : Array Value} (t : IsTup h b its) : ∃ n dd sl, h.get? b = some { cls := .type "tuple", dict := dd, data := .seq its n, slots := sl } := by
  obtain ⟨⟨c, dd, dt, sl⟩, ho, hc, n, hd⟩ := t
  simp only at hc hd
  subst hc hd
  exact ⟨n, dd, sl, ho⟩

open PySem.AutoSeq1 in
theorem ext_tup (l b : Addr) (xs ys : Array Value) (n m : Nat) (dd : Option Addr) (sl : Array (Option Value)) (hl : ¬(!xs.isEmpty && Builtin.List.listTooLong (xs.size + ys.size)) = true) (hx : xs.size ≤ sizeLine) (hy : xs.size + ys.size ≤ sizeLine + 1) :
    Meets (Builtin.«list.extend» ⟨[.ref l, .ref b], []⟩) (fun _ R s => s.heap.get? l = some { cls := .type "list", dict := none, data := .seq xs n, slots := #[] } ∧
      s.heap.get? b = some { cls := .type "tuple", dict := dd, data := .seq ys m, slots := sl } ∧ R (.ok (.ret Value.none)) { s with heap := s.heap.update l (Obj.mapSeq fun x => x ++ ys), toks := s.toks }) := by
  refine .of_wp fun prog w A R s h => ?_
  obtain ⟨hp, g, d, tk, os⟩ := s
  obtain ⟨h1, h2, h⟩ := h
  have f1 := idx_int
  have f2 := PyProof.Rows.sub_tuple_tuple
  have f3 := PyProof.Rows.sub_list_list
  have f4 := PyProof.Rows.sub_tuple_list
  have f5 := PyProof.Rows.sub_list_tuple
  have hz : (xs ++ ys).size ≤ sizeLine + 1 := by
    rw [Array.size_append]
    exact hy
  wp_walk using (wpAny_updateSeq h1 rfl (hz := hx) (_hz' := hz)), wpAny_loadPart' h1, wpAny_loadPart' h2
  exact ⟨_, rfl, h⟩
theorem mt_extT {X : Cx} : MtM X "list.extend" (rExtT X.K) := by
  intro pins s σ H x vs v us Q I rx rv h
  obtain ⟨l, b, xs, zs, rfl, rfl, hH, hB, hz, q⟩ := h
  cases rx
  obtain ⟨u, rfl, ru⟩ := rv.one
  cases ru
  obtain ⟨z, its, n, r, e1, e⟩ := I.lstM hH
  obtain ⟨ys, r2, t2, z2⟩ := I.tuple (SqT.of (K := X.K) hB)
  have e2 := r2.length
  obtain ⟨m, dd, sl, e3⟩ := tup_obj t2
  have hs : its.toArray.size + ys.toArray.size ≤ sizeLine := by
    rw [List.size_toArray, List.size_toArray]
    omega
  refine call_meets F.slot_list_extend ⟨_, e, rfl⟩ F.entry_list_extend (F.args_list_extend_2 _ _) (ext_tup l b its.toArray ys.toArray n m dd sl (by rw [notLongL hs, Bool.and_false]; exact Bool.false_ne_true) (by omega) (by omega)) ⟨e, e3, ?_⟩
  exact ⟨.non, _, I.lset (its' := its ++ ys) hH e (by simp) (r.append r2) (by rw [List.length_append]; omega), rfl, q⟩

/-! ### t[:0:-1], t a tuple -/
theorem back_fields {prog : Program} {w : World} {A : Around} {E : Value → Shared → Prop} {s : Shared} {sl : Addr} {u t : Tok} {n : Nat} {Q : Int × Int × Nat → Shared → Prop} (hs : s.heap.IsSliceOf sl .none (.int 0 u) (.int (-1) t))
    (h : Q ((n : Int) - 1, -1, n - 1) s) : wpAny (model prog w) A (Builtin.Slice.sliceApplied (.ref sl) (pure (n : Int))) Q E s := by
  obtain ⟨os, hos, hcs, hds⟩ := id hs
  unfold Builtin.Slice.sliceApplied Builtin.Slice.sliceFields
  refine wpAny_bind (wpAny_bind (wpAny_field hos hds (x := .none) rfl ?_))
  refine wpAny_bind (wpAny_field hos hds (x := .int 0 u) rfl ?_)
  refine wpAny_bind (wpAny_field hos hds (x := .int (-1) t) rfl (wpAny_pure ?_))
  refine wpAny_bind (slicePart_int ?_)
  show wpAny _ _ (if ((-1 : Int) == 0) = true then _ else _) _ _ s
  rw [if_neg (by decide)]
  refine wpAny_bind (slicePart_none (wpAny_bind (slicePart_int (wpAny_bind (wpAny_pure ?_)))))
  have ea : Builtin.Slice.sliceAdjust none (some 0) (-1) (n : Int) = ((n : Int) - 1, min 0 ((n : Int) - 1)) := by
    unfold Builtin.Slice.sliceAdjust
    rfl
  show wpAny _ _ (match Builtin.Slice.sliceAdjust none (some 0) (-1) (n : Int) with | (lo, hi) => pure (lo, (-1 : Int), Builtin.Slice.slicePlaces lo hi (-1))) _ _ s
  rw [ea]
  have ep : Builtin.Slice.slicePlaces ((n : Int) - 1) (min 0 ((n : Int) - 1)) (-1) = n - 1 := by
    unfold Builtin.Slice.slicePlaces
    rw [if_neg (by decide)]
    show (if (n : Int) - 1 > min 0 ((n : Int) - 1) then ((n : Int) - 1 - min 0 ((n : Int) - 1) - 1) / 1 + 1 else 0).toNat = n - 1
    split
    · rw [Int.ediv_one]
      omega
    · omega
  show wpAny _ _ (pure ((n : Int) - 1, (-1 : Int), Builtin.Slice.slicePlaces ((n : Int) - 1) (min 0 ((n : Int) - 1)) (-1))) _ _ s
  rw [ep]
  exact wpAny_pure h
theorem back_pick (xs : List Value) : ((List.range (xs.length - 1)).filterMap fun (k : Nat) => xs.toArray[(((xs.length : Int) - 1) + (k : Int) * (-1)).toNat]?) = (xs.drop 1).reverse := by
  cases xs with
  | nil => rfl
  | cons x r =>
    show ((List.range ((r.length + 1) - 1)).filterMap fun (k : Nat) => (x :: r).toArray[((((r.length + 1 : Nat) : Int) - 1) + (k : Int) * (-1)).toNat]?) = r.reverse
    rw [Nat.add_sub_cancel]
    have key : ∀ (m : Nat), m ≤ r.length → ((List.range m).filterMap fun (k : Nat) => (x :: r).toArray[((((r.length + 1 : Nat) : Int) - 1) + (k : Int) * (-1)).toNat]?) = r.reverse.take m := by
      intro m
      induction m with
      | zero => intro _; rfl
      | succ m ih =>
        intro hm
        rw [List.range_succ, List.filterMap_append, ih (by omega), List.take_add_one]
        refine congrArg (r.reverse.take m ++ ·) ?_
        have hz : ((((r.length + 1 : Nat) : Int) - 1) + (m : Int) * (-1)).toNat = (r.length - 1 - m) + 1 := by omega
        have hg : (x :: r).toArray[((((r.length + 1 : Nat) : Int) - 1) + (m : Int) * (-1)).toNat]? = r.reverse[m]? := by
          rw [hz, List.getElem?_toArray, List.getElem?_cons_succ, List.getElem?_reverse (by omega)]
        show List.filterMap _ [m] = _
        rw [List.filterMap_cons, hg]
        cases r.reverse[m]? <;> rfl
    rw [key r.length (Nat.le_refl _), ← List.length_reverse (as := r), List.take_length]
theorem getItem_back {prog : Program} {w : World} {A : Around} {E : Value → Shared → Prop} {s : Shared} {t sl : Addr} {items : List Value} {u v : Tok} {Q : Value → Shared → Prop} (ht : IsTup s.heap t items.toArray) (hs : s.heap.IsSliceOf sl .none (.int 0 u) (.int (-1) v))
    (h : Q (.ref s.heap.objs.size) { s with heap := s.heap.push { cls := .type "tuple", data := .seq (items.drop 1).reverse.toArray } }) (hz : items.length ≤ sizeLine) : wpAny (model prog w) A (getItem (.ref t) (.ref sl)) Q E s := by
  obtain ⟨os, hos, hcs, hds⟩ := id hs
  have hT : s.TypeIs (.ref sl) "slice" := ⟨os, hos, hcs⟩
  have hsz : sizeOk (.seq (items.drop 1).reverse.toArray) := by
    show (items.drop 1).reverse.toArray.size ≤ sizeLine
    rw [List.size_toArray, List.length_reverse, List.length_drop]
    omega
  unfold getItem
  try with_reducible refine wpAny_holding ?_
  first | refine wpAny_bind (wpAny_pure ?_) | skip
  refine wpAny_bind (wpAny_sequenceKey ht.typeIs (by decide) ?_)
  refine wpAny_bind (wpAny_callSpecial?_slot (name := Str.ofString "__getitem__") ht.typeIs PyProof.Rows.slot_tuple_getitem (wpAny_call_entry PyProof.Rows.slot_tuple_getitem ht.typeIs entry_tuple_getitem ?_ (args_tuple_getitem _ _)))
  show wpAny _ _ (Builtin.Tuple.tupleItemsOf (.ref t) >>= _) _ _ s
  refine wpAny_bind (tupleItemsOf_ ht ?_)
  refine wpAny_bind (wpAny_typeOf hT ?_)
  rw [if_pos (by decide)]
  refine wpAny_bind (back_fields hs ?_)
  have hno : ¬ ((((items.toArray.size : Nat) : Int) - 1 == 0 && (-1 : Int) == 1 && (items.toArray.size - 1) == items.toArray.size) = true) := by
    rw [show ((-1 : Int) == 1) = false from rfl, Bool.and_false, Bool.false_and]
    exact Bool.false_ne_true
  show wpAny _ _ (if ((((items.toArray.size : Nat) : Int) - 1 == 0 && (-1 : Int) == 1 && (items.toArray.size - 1) == items.toArray.size)) = true then _ else _) _ _ s
  rw [if_neg hno, List.size_toArray, back_pick]
  first
    | exact wpAny_bind (m := Builtin.Tuple.tupleExact _) (wpAny_newObj_type (wpAny_pure ⟨_, rfl, wpAny_pure h⟩) hsz)
    | exact wpAny_bind (m := Builtin.Tuple.tupleExact _) (wpAny_newObj_type (wpAny_bind (wpAny_pure (wpAny_pure ⟨_, rfl, wpAny_pure h⟩))) hsz)
    | exact wpAny_bind (wpAny_bind (m := Builtin.Tuple.tupleExact _) (wpAny_newObj_type (wpAny_pure (wpAny_pure ⟨_, rfl, wpAny_pure h⟩)) hsz))
    | exact wpAny_bind (wpAny_bind (m := Builtin.Tuple.tupleExact _) (wpAny_newObj_type (wpAny_pure ⟨_, rfl, wpAny_pure h⟩) hsz))

/-- t[:0:-1] -/
def tBack (K : PySem.W.Frag) (te : TE) : TE := fun σ H Q => te σ H fun x H1 => ∃ a xs, x = .ref a ∧ SqT K H1 a xs ∧ ∀ p, H1 p = none → Q (.ref p) (upd H1 p (.tup (xs.drop 1).reverse))
theorem pe_back {X : Cx} {e : Expr} {te : TE} {k k2 : Nat} {p1 p2 p3 p4 pos : Pos} (he : PE X e te) : PE X (.Subscript e (.Slice none (some (.Constant (.int 0) k2 p4)) (some (.UnaryOp .USub (.Constant (.int 1) k p1) p2)) p3) pos) (tBack X.K te) := by
  refine ⟨fun pins s σ H Q I h => Subscript_ (thn (he.run pins s σ H _ I h) fun v s1 ⟨x, H1, I1, r1, q1⟩ => ?_)⟩
  obtain ⟨a, xs, ex, hx, q⟩ := q1
  subst ex
  cases r1
  have hst : PO X (some (.UnaryOp .USub (.Constant (.int 1) k p1) p2)) (tPart (tUn (rU fun i => .int (-i)) (tC (.int 1)))) := po_some (pe_un un_neg pe_int)
  have h0 : PO X (some (.Constant (.int 0) k2 p4)) (tPart (tC (.int 0))) := po_some pe_int
  refine wpAny_Slice (thn (po_none.run pins s1 σ H1 (fun o H2 => o = none ∧ H2 = H1) I1 ⟨rfl, rfl⟩) fun vl s2 ⟨l, H2, I2, pl, el, e2⟩ => ?_)
  subst el e2
  refine thn (h0.run pins s2 σ H2 (fun o H3 => o = some 0 ∧ H3 = H2) I2 ⟨0, rfl, rfl, rfl⟩) fun vu s3 ⟨u, H3, I3, pu, eu, e3⟩ => ?_
  subst eu e3
  refine thn (hst.run pins s3 σ H3 (fun o H4 => o = some (-1) ∧ H4 = H3) I3 ⟨1, rfl, -1, rfl, rfl, rfl⟩) fun vs s4 ⟨o, H4, I4, ps, eo, e4⟩ => ?_
  subst eo e4
  obtain rfl : vl = Value.none := by
    cases pl
    rfl
  obtain ⟨tu, rfl⟩ : ∃ t, vu = Value.int 0 t := by
    cases pu
    exact ⟨_, rfl⟩
  obtain ⟨tv, rfl⟩ : ∃ t, vs = Value.int (-1) t := by
    cases ps
    exact ⟨_, rfl⟩
  have I5 : Inv X pins σ H4 { s4 with heap := s4.heap.push { cls := .type "slice", data := .fields #[.none, .int 0 tu, .int (-1) tv] } } := I4.kept (t' := s4.toks) fun b ob q => Heap.get?_push_of_some _ q
  obtain ⟨its, r, ht, hz⟩ := I5.tuple hx
  have hlen := r.length
  show wpAny (model X.prog X.w) X.A (subscriptTail e (.Slice none (some (.Constant (.int 0) k2 p4)) (some (.UnaryOp .USub (.Constant (.int 1) k p1) p2)) p3) (.ref a) (.ref s4.heap.objs.size)) (EP X pins σ Q) X.xe { s4 with heap := s4.heap.push { cls := .type "slice", data := .fields #[.none, .int 0 tu, .int (-1) tv] } }
  refine tail_any (ops := [.ref a, .ref s4.heap.objs.size]) ht.typeIs (PyProof.Rows.slot_tuple_getitem.lookup) ?_ (by with_unfolding_all rfl)
  refine getItem_back ht (Heap.IsSliceOf.new _ _ _ _) ?_ (by omega)
  refine ⟨.ref _, _, I5.laid (t' := s4.toks) (o := .tup (xs.drop 1).reverse) (fun b ob q => Heap.get?_push_of_some _ q) (Nat.le_refl _) ?_, rfl, q _ (I5.hok.fresh (Nat.le_refl _))⟩
  exact ⟨by rw [List.length_reverse, List.length_drop]; omega, _, (r.drop 1).reverse, ⟨_, Heap.get?_push_size _ rfl, rfl, _, rfl⟩⟩
end Sl
set_option Elab.async false
set_option linter.all false
set_option maxRecDepth 100000
set_option maxHeartbeats 4000000
namespace Sl
open PySem PySem.Spec PyProof.Rows L2 Evl
/-- a def of the text: where it stands, its name, how its arguments bind -/
structure Ft (K : PySem.W.Frag) (mg : Str → Option Value) (x : Str) (st : Stmt) (ps : List Str) where
  f : Addr
  fd : FuncData
  F : Fun K x x st f fd
  g : mg x = some (.ref f)
  b : Binds K fd ps []
/-- constants of the module -/
theorem pe_gI {X : Cx} {x : Str} {i : Int} {pos : Pos} (hg : Gl X x) (h : ∃ t, X.mg x = some (.int i t)) (hd : (x == ("__debug__" : Str)) = false := by decide) : PE X (.Name x pos) (tC (.int i)) := by
  obtain ⟨t, h⟩ := h
  exact pe_glob hg h ⟨t, rfl⟩ hd
theorem pe_gS {X : Cx} {x : Str} {z : Str} {pos : Pos} (hg : Gl X x) (h : ∃ t, X.mg x = some (.str z t)) (hd : (x == ("__debug__" : Str)) = false := by decide) : PE X (.Name x pos) (tC (.str z)) := by
  obtain ⟨t, h⟩ := h
  exact pe_glob hg h ⟨t, rfl⟩ hd
theorem hu64 {A : Around} {k : Nat} (hr : Room k A) : A.units + 64 < cLine := hr.units
/-! ### types of data -/
def tyD : PyData → String
  | .none => "NoneType"
  | .bool _ => "bool"
  | .int _ => "int"
  | .str _ => "str"
  | .list _ => "list"
  | .tuple _ => "tuple"
  | .dict _ => "dict"
theorem tyX_da {K : PySem.W.Frag} {S : Addr → Prop} {H : Hp} {v : V} {d : PyData} (h : Da S H v d) : TyX K H v (.type (tyD d)) := by
  cases h with
  | non => exact .base .non
  | bl b => exact .base (.bl b)
  | int i => exact .base (.int i)
  | str x => exact .base (.str x)
  | lst _ h _ => exact .base (.lst h)
  | tup _ h _ => exact .base (.tup h)
  | dct _ h _ => exact .base (.dK h)
def isInt : PyData → Bool
  | .int _ => true
  | _ => false
def isBool : PyData → Bool
  | .bool _ => true
  | _ => false
def isNum (d : PyData) : Bool := isInt d || isBool d
def isStr : PyData → Bool
  | .str _ => true
  | _ => false
def isTup : PyData → Bool
  | .tuple _ => true
  | _ => false
def isLst : PyData → Bool
  | .list _ => true
  | _ => false
theorem kit_int (d : PyData) : kitB (tyD d) "int" = some (isNum d) := by
  cases d with
  | none => exact (by decide +kernel : kitB "NoneType" "int" = some false)
  | bool _ => exact (by decide +kernel : kitB "bool" "int" = some true)
  | int _ => exact (by decide +kernel : kitB "int" "int" = some true)
  | str _ => exact (by decide +kernel : kitB "str" "int" = some false)
  | list _ => exact (by decide +kernel : kitB "list" "int" = some false)
  | tuple _ => exact (by decide +kernel : kitB "tuple" "int" = some false)
  | dict _ => exact (by decide +kernel : kitB "dict" "int" = some false)
theorem kit_bool (d : PyData) : kitB (tyD d) "bool" = some (isBool d) := by
  cases d with
  | none => exact (by decide +kernel : kitB "NoneType" "bool" = some false)
  | bool _ => exact (by decide +kernel : kitB "bool" "bool" = some true)
  | int _ => exact (by decide +kernel : kitB "int" "bool" = some false)
  | str _ => exact (by decide +kernel : kitB "str" "bool" = some false)
  | list _ => exact (by decide +kernel : kitB "list" "bool" = some false)
  | tuple _ => exact (by decide +kernel : kitB "tuple" "bool" = some false)
  | dict _ => exact (by decide +kernel : kitB "dict" "bool" = some false)
theorem kit_str (d : PyData) : kitB (tyD d) "str" = some (isStr d) := by
  cases d with
  | none => exact (by decide +kernel : kitB "NoneType" "str" = some false)
  | bool _ => exact (by decide +kernel : kitB "bool" "str" = some false)
  | int _ => exact (by decide +kernel : kitB "int" "str" = some false)
  | str _ => exact (by decide +kernel : kitB "str" "str" = some true)
  | list _ => exact (by decide +kernel : kitB "list" "str" = some false)
  | tuple _ => exact (by decide +kernel : kitB "tuple" "str" = some false)
  | dict _ => exact (by decide +kernel : kitB "dict" "str" = some false)
theorem kit_tuple (d : PyData) : kitB (tyD d) "tuple" = some (isTup d) := by
  cases d with
  | none => exact (by decide +kernel : kitB "NoneType" "tuple" = some false)
  | bool _ => exact (by decide +kernel : kitB "bool" "tuple" = some false)
  | int _ => exact (by decide +kernel : kitB "int" "tuple" = some false)
  | str _ => exact (by decide +kernel : kitB "str" "tuple" = some false)
  | list _ => exact (by decide +kernel : kitB "list" "tuple" = some false)
  | tuple _ => exact (by decide +kernel : kitB "tuple" "tuple" = some true)
  | dict _ => exact (by decide +kernel : kitB "dict" "tuple" = some false)
theorem kit_list (d : PyData) : kitB (tyD d) "list" = some (isLst d) := by
  cases d with
  | none => exact (by decide +kernel : kitB "NoneType" "list" = some false)
  | bool _ => exact (by decide +kernel : kitB "bool" "list" = some false)
  | int _ => exact (by decide +kernel : kitB "int" "list" = some false)
  | str _ => exact (by decide +kernel : kitB "str" "list" = some false)
  | list _ => exact (by decide +kernel : kitB "list" "list" = some true)
  | tuple _ => exact (by decide +kernel : kitB "tuple" "list" = some false)
  | dict _ => exact (by decide +kernel : kitB "dict" "list" = some false)
section
variable {K : PySem.W.Frag} {S : Addr → Prop} {H : Hp} {v : V} {d : PyData} {σ : L2.St}
theorem rc_isi {T : String} {b : Bool} (h : Da S H v d) (hk : kitB (tyD d) T = some b) : RC (rIsi K) [v, .ty T] H (.bl b) := fun H1 e Q q =>
  ⟨v, .ty T, .type (tyD d), .type T, b, rfl, .ty T, tyX_da (h.same e), kit_ty hk, q H1 (Ex.refl H1)⟩
/-- isinstance(e, T) -/
theorem ev_isi {T : String} {b : Bool} {ta : TE} (ha : Ev ta σ H v) (h : Da S H v d) (hk : kitB (tyD d) T = some b) : Ev (tCB (rIsi K) (tCons ta (tCons (tC (.ty T)) tNil))) σ H (.bl b) :=
  ev_cb (ea_cons ha (ea_cons ev_c ea_nil)) (rc_isi h hk)
/-- isinstance(e, (T, U)) -/
theorem ev_isi2 {T U : String} {b c : Bool} {ta : TE} (ha : Ev ta σ H v) (h : Da S H v d) (hk : kitB (tyD d) T = some b) (hk2 : kitB (tyD d) U = some c) :
    Ev (tCB (rIsiT K) (tCons ta (tCons (tTup (tCons (tC (.ty T)) (tCons (tC (.ty U)) tNil))) tNil))) σ H (.bl (b || c)) := fun H1 e Q q =>
  ha H1 e _ fun H2 e2 => ⟨by show 2 ≤ sizeLine; decide, fun p hp => ⟨v, p, [.ty T, .ty U], .type (tyD d), [.type T, .type U], (b || c), rfl, upd_same, .cons (.ty T) (.cons (.ty U) .nil), tyX_da (h.same ((e.trans e2).trans (Ex.new hp))),
    kitAny_cons (kit_ty hk) (fun hb => kitAny_cons (kit_ty hk2) (fun hc => by rw [hb, hc]; exact kitAny_nil) (fun hc => by rw [hb, hc] <;> rfl)) (fun hb => by rw [hb] <;> rfl), q _ (e2.trans (Ex.new hp))⟩⟩
/-- a promise: on one datum, a value -/
def spD (pre : PyData → Prop) (g : PyData → V) : Sp := fun vs H Q _ => ∃ (S : Addr → Prop) (v : V) (d : PyData), vs = [v] ∧ Da S H v d ∧ pre d ∧ ∀ H', Ex H H' → Q (g d) H'
theorem ev_spD {pre : PyData → Prop} {g : PyData → V} {E : XK} {ta : TE} (ha : Ev ta σ H v) (h : Da S H v d) (p : pre d) : Ev (tCall (spD pre g) [] E (tCons ta tNil)) σ H (g d) :=
  ev_call (ea_cons ha ea_nil) fun H1 e Q q E => ⟨S, v, d, rfl, h.same e, p, fun H2 e2 => q H2 e2⟩
end

section
variable {K : PySem.W.Frag} {σ : L2.St} {H : Hp} {ta tb te : TE} {t : TT} {v : V}
/-! ### comprehensions over a text, a tuple -/
theorem el_lcStr {tl : TE} {z : Str} {j : Nat} {vs : List Nat} (f : Nat → Bool) (v : Nat → V) (h : Ev tl σ H (.str z)) (hz : z.cps.size ≤ 40000) (hw : ∀ x, wipe ((wipe σ vs).set j (some x)) vs = wipe σ vs)
    (ht : ∀ (i : Nat) (c : Nat) H1, Ex H H1 → z.cps[i]? = some c → EvT t ((wipe σ vs).set j (some (.str ⟨#[c]⟩))) H1 (f i)) (he : ∀ (i : Nat) (c : Nat) H1, Ex H H1 → z.cps[i]? = some c → f i = true → Ev te ((wipe σ vs).set j (some (.str ⟨#[c]⟩))) H1 (v i)) :
    EvL (tLc (iStr tl) (gName j) t te vs) σ H (given z.cps.size f v) := fun H0 e Q q => h H0 e _ fun H1 e1 => ⟨z, rfl, fun Dl hD =>
  lc_it walk_str (Cw H1 f v Dl) ⟨hD, Ex.new hD, upd_same⟩ (fun _ _ _ _ => trivial) (fun i x Ha Hb hi p y => by
    obtain ⟨rfl, c, hc, rfl⟩ := y
    exact ⟨hw _, cw_turn p (by omega) (ht i c H1 (e.trans e1) hc) (fun hf => he i c H1 (e.trans e1) hc hf)⟩) (fun H' p => q Dl H' (fresh_back e1 p.1) (e1.trans p.2.1) p.2.2)⟩
theorem el_lcTup {a : Addr} {xs : List V} {tl : TE} {j : Nat} {vs : List Nat} (f : Nat → Bool) (v : Nat → V) (h : Ev tl σ H (.ref a)) (hx : SqT K H a xs) (hz : xs.length ≤ 40000) (hw : ∀ x, wipe ((wipe σ vs).set j (some x)) vs = wipe σ vs)
    (ht : ∀ (i : Nat) (x : V) H1, Ex H H1 → xs[i]? = some x → EvT t ((wipe σ vs).set j (some x)) H1 (f i)) (he : ∀ (i : Nat) (x : V) H1, Ex H H1 → xs[i]? = some x → f i = true → Ev te ((wipe σ vs).set j (some x)) H1 (v i)) :
    EvL (tLc (iTup K tl) (gName j) t te vs) σ H (given xs.length f v) := fun H0 e Q q => h H0 e _ fun H1 e1 => ⟨a, rfl, ⟨xs, ex_t (e.trans e1) hx⟩, fun Dl hD =>
  lc_it (walk_tup (xs := xs)) (Cw H1 f v Dl) ⟨hD, Ex.new hD, upd_same⟩ (fun i H' _ p => ex_t ((e.trans e1).trans p.2.1) hx) (fun i x Ha Hb hi p y => by
    obtain ⟨rfl, hc⟩ := y
    exact ⟨hw _, cw_turn p (by omega) (ht i x H1 (e.trans e1) hc) (fun hf => he i x H1 (e.trans e1) hc hf)⟩) (fun H' p => q Dl H' (fresh_back e1 p.1) (e1.trans p.2.1) p.2.2)⟩
/-- over a tuple that is made on the spot -/
theorem el_lcNT {xs : List V} {tl : TE} {j : Nat} {vs : List Nat} (f : Nat → Bool) (v : Nat → V) (h : EvU tl σ H xs) (hz : xs.length ≤ 40000) (hw : ∀ x, wipe ((wipe σ vs).set j (some x)) vs = wipe σ vs)
    (ht : ∀ (i : Nat) (x : V) H1, Ex H H1 → xs[i]? = some x → EvT t ((wipe σ vs).set j (some x)) H1 (f i)) (he : ∀ (i : Nat) (x : V) H1, Ex H H1 → xs[i]? = some x → f i = true → Ev te ((wipe σ vs).set j (some x)) H1 (v i)) :
    EvL (tLc (iTup K tl) (gName j) t te vs) σ H (given xs.length f v) := fun H0 e Q q => h H0 e _ fun a H1 ha e1 hx => ⟨a, rfl, ⟨xs, st_of hx⟩, fun Dl hD =>
  lc_it (walk_tup (xs := xs)) (Cw H1 f v Dl) ⟨hD, Ex.new hD, upd_same⟩ (fun i H' _ p => st_of (p.2.1 a _ hx)) (fun i x Ha Hb hi p y => by
    obtain ⟨rfl, hc⟩ := y
    exact ⟨hw _, cw_turn p (by omega) (ht i x H1 (e.trans e1) hc) (fun hf => he i x H1 (e.trans e1) hc hf)⟩) (fun H' p => q Dl H' (fresh_back e1 p.1) (e1.trans p.2.1) p.2.2)⟩
theorem et_yes : EvT tYes σ H true := fun H1 _ _ q => q H1 (Ex.refl H1)
theorem given_all {n : Nat} {v : Nat → V} : given n (fun _ => true) v = (List.range n).map v := by
  unfold given
  rw [List.filter_eq_self.mpr (fun _ _ => rfl)]
theorem given_map {α : Type} {g : α → V} : ∀ {xs : List α} {v : Nat → V}, (∀ i x, xs[i]? = some x → v i = g x) → given xs.length (fun _ => true) v = xs.map g := by
  intro xs v h
  rw [given_all]
  apply List.ext_getElem?
  intro i
  rw [List.getElem?_map, List.getElem?_map]
  by_cases hi : i < xs.length
  · rw [List.getElem?_range hi, List.getElem?_eq_getElem hi]
    exact congrArg some (h i _ (List.getElem?_eq_getElem hi))
  · rw [List.getElem?_eq_none (by simpa using Nat.le_of_not_lt hi), List.getElem?_eq_none (Nat.le_of_not_lt hi)] <;> rfl
/-- all(xs), any(xs) of a new list -/
theorem ev_all {bs : List Bool} (h : EvL te σ H (bs.map V.bl)) : Ev (tCB (rAll K) (tCons te tNil)) σ H (.bl (bs.all id)) := fun H1 e Q q =>
  h H1 e _ fun p H2 _ e2 hp => ⟨p, bs, rfl, sq_of hp, q H2 e2⟩
theorem ev_any {bs : List Bool} (h : EvL te σ H (bs.map V.bl)) : Ev (tCB (rAny K) (tCons te tNil)) σ H (.bl (bs.any id)) := fun H1 e Q q =>
  h H1 e _ fun p H2 _ e2 hp => ⟨p, bs, rfl, sq_of hp, q H2 e2⟩
/-! ### lengths, items, signs -/
theorem ev_lenT {a : Addr} {xs : List V} (h : Ev te σ H (.ref a)) (hx : SqT K H a xs) : Ev (tCB (rLenS K) (tCons te tNil)) σ H (.int (xs.length : Int)) := fun H1 e Q q =>
  h H1 e _ fun H2 e2 => ⟨a, xs, rfl, .inr (ex_t (e.trans e2) hx), q H2 e2⟩
def rLenStr : List V → Hp → VK → Prop := fun xs H Q => ∃ z : Str, xs = [.str z] ∧ z.length ≤ sizeLine ∧ Q (.int z.length) H
theorem ev_lenStr {z : Str} (h : Ev te σ H (.str z)) (hz : z.length ≤ 100000) : Ev (tCB rLenStr (tCons te tNil)) σ H (.int (z.length : Int)) := fun H1 e Q q =>
  h H1 e _ fun H2 e2 => ⟨z, rfl, sz_of hz, q H2 e2⟩
theorem rv_inSign {c : Nat} {z : Str} : RV rInS (.str ⟨#[c]⟩) (.str z) H (.bl (decide (c ∈ z.cps.toList))) := fun H1 e Q q => ⟨c, z, rfl, rfl, q H1 (Ex.refl H1)⟩
theorem rv_notInSign {c : Nat} {z : Str} : RV rNotInS (.str ⟨#[c]⟩) (.str z) H (.bl (!decide (c ∈ z.cps.toList))) := fun H1 e Q q => ⟨c, z, rfl, rfl, q H1 (Ex.refl H1)⟩
end

section
variable {K : PySem.W.Frag} {σ : L2.St} {H : Hp} {ta tb tc te : TE} {t : TT} {v x y z w : V} {r r' : R2}
/-! ### a < b < c -/
theorem ev_chain {b c : Bool} (ha : Ev ta σ H x) (hb : Ev tb σ H y) (hr : RV r x y H (.bl c)) (h0 : c = false → b = false) (h1 : c = true → Ev tc σ H w ∧ RV r' y w H (.bl b)) : Ev (tChain r r' ta tb tc) σ H (.bl b) := fun H1 e Q q =>
  ha H1 e _ fun H2 e2 => hb H2 (e.trans e2) _ fun H3 e3 => hr H3 ((e.trans e2).trans e3) _ fun H4 e4 => ⟨c, rfl, by
    cases c with
    | true =>
      obtain ⟨hw, hz⟩ := h1 rfl
      show tc σ H4 _
      exact hw H4 (((e.trans e2).trans e3).trans e4) _ fun H5 e5 => hz H5 ((((e.trans e2).trans e3).trans e4).trans e5) Q fun H6 e6 => q H6 ((((e2.trans e3).trans e4).trans e5).trans e6)
    | false =>
      have hq := q H4 ((e2.trans e3).trans e4)
      rw [h0 rfl] at hq
      exact hq⟩
/-! ### texts -/
def rAddStr : R2 := fun x y H Q => ∃ i j : Str, x = .str i ∧ y = .str j ∧ i.length + j.length ≤ sizeLine ∧ Q (.str (i ++ j)) H
theorem rv_addStr {a b : Str} (hz : a.length + b.length ≤ 100000) : RV rAddStr (.str a) (.str b) H (.str (a ++ b)) := fun H1 e Q q => ⟨a, b, rfl, rfl, sz_of hz, q H1 (Ex.refl H1)⟩
def rItemStr : R2 := fun x y H Q => ∃ (z : Str) (i : Int) (c : Nat), x = .str z ∧ y = .int i ∧ 0 ≤ i ∧ i < 2 ^ 63 ∧ i < z.length ∧ z.cps[i.toNat]? = some c ∧ Q (.str ⟨#[c]⟩) H
theorem rv_itemStr {z : Str} {j c : Nat} (hc : z.cps[j]? = some c) (hz : z.length ≤ 100000) : RV rItemStr (.str z) (.int (j : Int)) H (.str ⟨#[c]⟩) := fun H1 e Q q => by
  have hl : j < z.cps.size := (Array.getElem?_eq_some_iff.mp hc).1
  have hl2 : j < z.length := hl
  exact ⟨z, (j : Int), c, rfl, rfl, by omega, by omega, by omega, hc, q H1 (Ex.refl H1)⟩
/-! ### a value that is a tuple, new or not -/
def EvW (te : TE) (σ : L2.St) (H : Hp) (xs : List V) : Prop := ∀ H1, Ex H H1 → ∀ Q : VK, (∀ p H2, Ex H1 H2 → H2 p = some (.tup xs) → Q (.ref p) H2) → te σ H1 Q
theorem EvW.of {xs : List V} (h : EvU te σ H xs) : EvW te σ H xs := fun H1 e Q q => h H1 e Q fun p H2 _ e2 hp => q p H2 e2 hp
theorem ew_var {i : Nat} {a : Addr} {xs : List V} (h : Ev te σ H (.ref a)) (hx : H a = some (.tup xs)) : EvW te σ H xs := fun H1 e Q q => h H1 e Q fun H2 e2 => q a H2 e2 (e2 _ _ (e _ _ hx))
theorem cutV_from (xs : List V) (k : Nat) : cutV xs (some (k : Int)) none = xs.drop k := by
  unfold cutV
  rw [HT.sIx_nat, HT.sIx_none, List.take_of_length_le (by rw [List.length_drop]; exact Nat.le_refl _)]
  by_cases h : k ≤ xs.length
  · rw [Nat.min_eq_left h]
  · rw [Nat.min_eq_right (by omega), List.drop_eq_nil_of_le (Nat.le_refl _), List.drop_eq_nil_of_le (by omega)]
theorem cutV_upto (xs : List V) (k : Nat) : cutV xs none (some (k : Int)) = xs.take k := by
  unfold cutV
  rw [HT.sIx_nat, HT.sIx_none]
  show List.take (min k xs.length - 0) (List.drop 0 xs) = _
  rw [List.drop_zero, Nat.sub_zero]
  by_cases h : k ≤ xs.length
  · rw [Nat.min_eq_left h]
  · rw [Nat.min_eq_right (by omega), List.take_of_length_le (Nat.le_refl _), List.take_of_length_le (by omega)]
/-- t[k:] -/
theorem ew_from {a : Addr} {xs : List V} {k : Nat} (h : Ev te σ H (.ref a)) (hk : Ev tb σ H (.int (k : Int))) (hx : H a = some (.tup xs)) : EvW (tSl (rSlA K) te (tPart tb) tNoPart) σ H (xs.drop k) := fun H1 e Q q =>
  h H1 e _ fun H2 e2 => hk H2 (e.trans e2) _ fun H3 e3 => ⟨(k : Int), rfl, a, xs, rfl, st_of (((e.trans e2).trans e3) _ _ hx), fun hw => by
    have h0 := hw.1
    rw [HT.sIx_nat] at h0
    have hd : xs.drop k = xs := by
      by_cases hk0 : k = 0
      · rw [hk0, List.drop_zero]
      · have : xs.length = 0 := by omega
        rw [List.length_eq_zero_iff.mp this, List.drop_nil]
    refine q a H3 (e2.trans e3) ?_
    rw [hd]
    exact ((e.trans e2).trans e3) _ _ hx, fun hw p hp => by
    rw [cutV_from]
    exact q p _ ((e2.trans e3).trans (Ex.new hp)) upd_same⟩
/-- t[:k] -/
theorem ew_upto {a : Addr} {xs : List V} {k : Nat} (h : Ev te σ H (.ref a)) (hk : Ev tb σ H (.int (k : Int))) (hx : H a = some (.tup xs)) : EvW (tSl (rSlA K) te tNoPart (tPart tb)) σ H (xs.take k) := fun H1 e Q q =>
  h H1 e _ fun H2 e2 => hk H2 (e.trans e2) _ fun H3 e3 => ⟨(k : Int), rfl, a, xs, rfl, st_of (((e.trans e2).trans e3) _ _ hx), fun hw => by
    have h0 := hw.2
    rw [HT.sIx_nat] at h0
    have hd : xs.take k = xs := List.take_of_length_le (by omega)
    refine q a H3 (e2.trans e3) ?_
    rw [hd]
    exact ((e.trans e2).trans e3) _ _ hx, fun hw p hp => by
    rw [cutV_upto]
    exact q p _ ((e2.trans e3).trans (Ex.new hp)) upd_same⟩
/-- t[:0:-1] -/
theorem ew_back {a : Addr} {xs : List V} (h : Ev te σ H (.ref a)) (hx : H a = some (.tup xs)) : EvW (tBack K te) σ H (xs.drop 1).reverse := fun H1 e Q q =>
  h H1 e _ fun H2 e2 => ⟨a, xs, rfl, st_of ((e.trans e2) _ _ hx), fun p hp => q p _ (e2.trans (Ex.new hp)) upd_same⟩
/-- a comprehension over such a tuple, each turn a plain value -/
theorem el_lcW {xs : List V} {tl : TE} {j : Nat} {vs : List Nat} (f : Nat → Bool) (v : Nat → V) (h : EvW tl σ H xs) (hz : xs.length ≤ 40000) (hw : ∀ x, wipe ((wipe σ vs).set j (some x)) vs = wipe σ vs)
    (ht : ∀ (i : Nat) (x : V) H1, Ex H H1 → xs[i]? = some x → EvT t ((wipe σ vs).set j (some x)) H1 (f i)) (he : ∀ (i : Nat) (x : V) H1, Ex H H1 → xs[i]? = some x → f i = true → Ev te ((wipe σ vs).set j (some x)) H1 (v i)) :
    EvL (tLc (iTup K tl) (gName j) t te vs) σ H (given xs.length f v) := fun H0 e Q q => h H0 e _ fun a H1 e1 hx => ⟨a, rfl, ⟨xs, st_of hx⟩, fun Dl hD =>
  lc_it (walk_tup (xs := xs)) (Cw H1 f v Dl) ⟨hD, Ex.new hD, upd_same⟩ (fun i H' _ p => st_of (p.2.1 a _ hx)) (fun i x Ha Hb hi p y => by
    obtain ⟨rfl, hc⟩ := y
    exact ⟨hw _, cw_turn p (by omega) (ht i x H1 (e.trans e1) hc) (fun hf => he i x H1 (e.trans e1) hc hf)⟩) (fun H' p => q Dl H' (fresh_back e1 p.1) (e1.trans p.2.1) p.2.2)⟩
/-! ### objects that a comprehension makes: G v i: what stands behind v, kept by whatever is added -/
/-- each item is new or old; G tells what it is -/
def EvG (te : TE) (σ : L2.St) (H : Hp) (G : V → Hp → Prop) : Prop := ∀ H1, Ex H H1 → ∀ Q : VK, (∀ v H2, Ex H1 H2 → G v H2 → Q v H2) → te σ H1 Q
theorem EvG.ev (h : Ev te σ H v) {G : V → Hp → Prop} (g : ∀ H1, Ex H H1 → G v H1) : EvG te σ H G := fun H1 e Q q => h H1 e Q fun H2 e2 => q v H2 e2 (g H2 (e.trans e2))
theorem EvG.imp {G G' : V → Hp → Prop} (h : EvG te σ H G) (g : ∀ v H1, Ex H H1 → G v H1 → G' v H1) : EvG te σ H G' := fun H1 e Q q => h H1 e Q fun v H2 e2 gv => q v H2 e2 (g v H2 (e.trans e2) gv)
/-- items one by one -/
inductive Its (G : Nat → V → Hp → Prop) (H : Hp) : Nat → List V → Prop
  | nil : Its G H 0 []
  | snoc {n : Nat} {vs : List V} {v : V} : Its G H n vs → G n v H → Its G H (n + 1) (vs ++ [v])
theorem Its.keep {G : Nat → V → Hp → Prop} {H H' : Hp} (k : ∀ i v, G i v H → G i v H') : ∀ {n : Nat} {vs : List V}, Its G H n vs → Its G H' n vs
  | _, _, .nil => .nil
  | _, _, .snoc h g => .snoc (Its.keep k h) (k _ _ g)
theorem Its.len {G : Nat → V → Hp → Prop} {H : Hp} : ∀ {n : Nat} {vs : List V}, Its G H n vs → vs.length = n
  | _, _, .nil => rfl
  | _, _, .snoc h _ => by rw [List.length_append, Its.len h] <;> rfl
theorem Its.get {G : Nat → V → Hp → Prop} {H : Hp} : ∀ {n : Nat} {vs : List V} {i : Nat} {v : V}, Its G H n vs → vs[i]? = some v → G i v H
  | _, _, i, v, .nil, e => by simp at e
  | _, _, i, v, .snoc (n := n) (vs := vs) (v := w) h g, e => by
    have hl := h.len
    by_cases hi : i < vs.length
    · rw [List.getElem?_append_left hi] at e
      exact Its.get h e
    · have hi2 : i = n := by
        have := (List.getElem?_eq_some_iff.mp e).1
        rw [List.length_append, List.length_singleton] at this
        omega
      subst hi2
      rw [List.getElem?_append_right (by omega), hl, Nat.sub_self] at e
      have e2 : w = v := Option.some.inj e
      rw [← e2]
      exact g
/-- a comprehension over a tuple, no test: turn i gives what G D i tells, D the list that is being made -/
theorem eg_lcW {xs : List V} {tl : TE} {j : Nat} {vs : List Nat} {G : Addr → Nat → V → Hp → Prop} (gk : ∀ D i v H1 H2, Kp (fun a => a = D) H1 H2 → G D i v H1 → G D i v H2) (h : EvW tl σ H xs) (hz : xs.length ≤ 40000) (hw : ∀ x, wipe ((wipe σ vs).set j (some x)) vs = wipe σ vs)
    (he : ∀ D, H D = none → ∀ (i : Nat) (x : V) H1, Ex H H1 → (∃ us, H1 D = some (.lst us)) → xs[i]? = some x → EvG te ((wipe σ vs).set j (some x)) H1 (G D i)) :
    ∀ H1, Ex H H1 → ∀ Q : VK, (∀ p us H2, H1 p = none → Ex H1 H2 → H2 p = some (.lst us) → Its (G p) H2 xs.length us → Q (.ref p) H2) → tLc (iTup K tl) (gName j) tYes te vs σ H1 Q := fun H0 e Q q => h H0 e _ fun a H1 e1 hx => ⟨a, rfl, ⟨xs, st_of hx⟩, fun Dl hD =>
  lc_it (walk_tup (xs := xs)) (fun i H' => Ex H1 H' ∧ ∃ us, H' Dl = some (.lst us) ∧ Its (G Dl) H' i us) ⟨Ex.new hD, [], upd_same, .nil⟩ (fun i H' _ p => st_of (p.1 a _ hx)) (fun i x Ha Hb hi p y => by
    obtain ⟨rfl, hc⟩ := y
    obtain ⟨p1, us, p2, p3⟩ := p
    refine ⟨hw _, ?_⟩
    show te _ _ _
    refine he Dl (fresh_back (e.trans e1) hD) i x _ ((e.trans e1).trans p1) ⟨us, p2⟩ hc _ (Ex.refl _) _ fun v H4 e4 g => ⟨us, e4 _ _ p2, sz_lt (by have := p3.len; omega), ?_⟩
    have kp : Kp (fun a => a = Dl) H4 (upd H4 Dl (.lst (us ++ [v]))) := fun b o nb hb => by
      rw [upd_ne nb]
      exact hb
    refine ⟨Ex.mut (p1.trans e4) hD, _, upd_same, .snoc (Its.keep (fun i v g => gk Dl i v _ _ kp g) (Its.keep (fun i v g => gk Dl i v _ _ (Kp.of e4) g) p3)) (gk Dl i v _ _ kp g)⟩) (fun H' p => by
    obtain ⟨p1, us, p2, p3⟩ := p
    exact q Dl us H' (fresh_back e1 hD) (e1.trans p1) p2 p3)⟩
/-! ### the last of a list -/
theorem Paired.last {α β : Type} {R : α → β → Prop} : ∀ {as : List α} {bs : List β}, Paired R as bs → as ≠ [] → ∃ as' a bs' b, as = as' ++ [a] ∧ bs = bs' ++ [b] ∧ Paired R as' bs' ∧ R a b
  | [a], [b], .cons r .nil, _ => ⟨[], a, [], b, rfl, rfl, .nil, r⟩
  | a :: a2 :: as, b :: b2 :: bs, .cons r t, _ => by
    obtain ⟨as', x, bs', y, e1, e2, p, q⟩ := Paired.last t (List.cons_ne_nil _ _)
    exact ⟨a :: as', x, b :: bs', y, by rw [e1] <;> rfl, by rw [e2] <;> rfl, .cons r p, q⟩
theorem Paired.app {α β : Type} {R : α → β → Prop} : ∀ {as cs : List α} {bs ds : List β}, Paired R as bs → Paired R cs ds → Paired R (as ++ cs) (bs ++ ds)
  | _, _, _, _, .nil, s => s
  | _, _, _, _, .cons r t, s => .cons r (Paired.app t s)
end
end Sl
set_option Elab.async false
set_option linter.all false
set_option maxRecDepth 100000
set_option maxHeartbeats 4000000
namespace Sl
open PySem PySem.Spec PyProof.Rows L2 Evl
theorem dict_eq_str (l : Addr) (es : Array DictEntry) (n : Nat) (dd : Option Addr) (sl : Array (Option Value)) (b : Str) (u : Tok) :
    Meets (Builtin.«dict.__eq__» ⟨[.ref l, .str b u], []⟩) (fun _ R s => s.heap.get? l = some { cls := .type "dict", dict := dd, data := .dict es n, slots := sl } ∧ R (.ok (.ret .notImplemented)) s) := by
  refine .of_wp fun prog w A R s h => ?_
  obtain ⟨hp, g, d, tk, os⟩ := s
  obtain ⟨hl, h⟩ := h
  have f1 := PySem.F.sub_str_dict
  wp_walk using wpAny_loadPart' hl
  exact ⟨_, rfl, h⟩
theorem str_eq_dict (b : Str) (u : Tok) (l : Addr) (es : Array DictEntry) (n : Nat) (dd : Option Addr) (sl : Array (Option Value)) :
    Meets (Builtin.«str.__eq__» ⟨[.str b u, .ref l], []⟩) (fun _ R s => s.heap.get? l = some { cls := .type "dict", dict := dd, data := .dict es n, slots := sl } ∧ R (.ok (.ret .notImplemented)) s) := by
  refine .of_wp fun prog w A R s h => ?_
  obtain ⟨hp, g, d, tk, os⟩ := s
  obtain ⟨hl, h⟩ := h
  have f1 := PySem.F.sub_dict_str
  wp_walk using wpAny_loadPart' hl
  exact ⟨_, rfl, h⟩
theorem rc_dict_str {A : Around} {s : Shared} {l : Addr} {o : Obj} {es : Array DictEntry} {n : Nat} (b : Str) (u : Tok) (ho : s.heap.get? l = some o) (hc : o.cls = .type "dict") (hd : o.data = .dict es n) (hu : A.units < cLine) : SeqAt.RcAt A s (.ref l) (.str b u) false := by
  intro prog w E Q h
  obtain ⟨c, dd, dt, sl⟩ := o
  simp only at hc hd
  subst hc hd
  exact SeqAt.rc_eq_decline_or (k := false) ⟨_, ho, rfl⟩ (typeIs_str s b u) (by decide) PySem.F.sub_str_dict PySem.F.slot_dict_eq PySem.F.slot_str_eq_refl
    (fun _ hq => call_meets PySem.F.slot_dict_eq ⟨_, ho, rfl⟩ PySem.F.entry_dict_eq (PySem.F.args_dict_eq_2 _ _) (dict_eq_str l es n dd sl b u) ⟨ho, hq⟩)
    (fun _ hq => call_meets PySem.F.slot_str_eq_refl (typeIs_str s b u) PySem.F.entry_str_eq (PySem.F.args_str_eq_2 _ _) (str_eq_dict b u l es n dd sl) ⟨ho, hq⟩)
    (fun _ hq => wpAny_of_eq (rfl : isSame (.ref l) (.str b u) = pure false) hq) (.inr hu) h
def isThe (d : PyData) (z : Str) : Bool := match d with
  | .str x => x == z
  | _ => false
/-- x == z, z a text, x any datum -/
def rEqStr : R2 := fun x y H Q => ∃ (S : Addr → Prop) (d : PyData) (z : Str), y = .str z ∧ Da S H x d ∧ Q (.bl (isThe d z)) H
theorem op_eqStr {X : Cx} (hu : X.A.units + 64 < cLine) : OpR X (compareOp .Eq) rEqStr := by
  intro pins s σ H x y v u Q I rx ry h
  obtain ⟨S, d, z, rfl, hd, q⟩ := h
  obtain ⟨t, rfl⟩ := ry
  obtain ⟨as, rd, _⟩ := Da.reads I hd rx
  have hu' : X.A.units < cLine := by omega
  have fin : ∀ k, k = isThe d z → EP X pins σ Q (.bool k) s := fun k e => ⟨.bl k, H, I, rfl, by rw [e]; exact q⟩
  cases rd with
  | none => exact SeqAt.RcAt.none_str z t _ _ _ _ (fin _ rfl)
  | bool b => exact SeqAt.RcAt.bool_str b z t _ _ _ _ (fin _ rfl)
  | int i t2 => exact SeqAt.RcAt.int_str i t2 z t _ _ _ _ (fin _ rfl)
  | str y t2 => exact SeqAt.RcAt.str_str y t2 z t _ _ _ _ (fin _ rfl)
  | list h1 h2 h3 h4 => exact SeqAt.RcAt.list_str z t ⟨_, h1, h2, _, h3⟩ hu' _ _ _ _ (fin _ rfl)
  | tuple h1 h2 h3 h4 => exact SeqAt.RcAt.tuple_str z t ⟨_, h1, h2, _, h3⟩ hu' _ _ _ _ (fin _ rfl)
  | dict h1 h2 h3 h4 h5 => exact rc_dict_str z t h1 h2 h3 hu' _ _ _ _ (fin _ rfl)
/-- x == (), x a tuple -/
def rEqNil (K : PySem.W.Frag) : R2 := fun x y H Q => ∃ (a b : Addr) (xs : List V), x = .ref a ∧ y = .ref b ∧ SqT K H a xs ∧ SqT K H b [] ∧ Q (.bl xs.isEmpty) H
theorem op_eqNil {X : Cx} (hu : X.A.units + 64 < cLine) : OpR X (compareOp .Eq) (rEqNil X.K) := by
  intro pins s σ H x y v u Q I rx ry h
  obtain ⟨a, b, xs, rfl, rfl, ha, hb, q⟩ := h
  cases rx
  cases ry
  obtain ⟨its, r1, p1, _⟩ := I.tuple ha
  obtain ⟨its2, r2, p2, _⟩ := I.tuple hb
  cases r2
  obtain ⟨o1, e1, c1, n1, d1⟩ := p1
  obtain ⟨o2, e2, c2, n2, d2⟩ := p2
  refine SeqAt.RcAt.tuples (e := fun _ => false) ⟨o1, e1, c1, n1, d1⟩ ⟨o2, e2, c2, n2, d2⟩ (by omega) (fun j h1 h2 => absurd h2 (by simp)) _ _ _ _ ⟨.bl xs.isEmpty, H, I, ?_, q⟩
  show Value.bool _ = Value.bool xs.isEmpty
  refine congrArg Value.bool ?_
  have hl := r1.length
  cases xs with
  | nil =>
    have : its = [] := List.length_eq_zero_iff.mp hl.symm
    rw [this]
    rfl
  | cons x r =>
    have h0 : its.toArray.size = r.length + 1 := by rw [List.size_toArray, ← hl] <;> rfl
    rw [h0]
    simp
section
variable {K : PySem.W.Frag} {S : Addr → Prop} {H : Hp} {v : V} {d : PyData} {σ : L2.St} {ta tb : TE}
theorem rv_eqStr {z : Str} (h : Da S H v d) : RV rEqStr v (.str z) H (.bl (isThe d z)) := fun H1 e Q q => ⟨S, d, z, rfl, h.same e, q H1 (Ex.refl H1)⟩
theorem ev_eqNil {a : Addr} {xs : List V} (h : Ev ta σ H (.ref a)) (hx : SqT K H a xs) : Ev (tOp (rEqNil K) ta (tTup tNil)) σ H (.bl xs.isEmpty) := fun H1 e Q q =>
  h H1 e _ fun H2 e2 => ⟨Nat.zero_le _, fun p hp => ⟨a, p, xs, rfl, rfl, ex_t ((e.trans e2).trans (Ex.new hp)) hx, st_of upd_same, q _ (e2.trans (Ex.new hp))⟩⟩
end
section
variable {K : PySem.W.Frag} {σ : L2.St} {H : Hp} {te : TE} {tz : TS} {D : Ends}
/-- x = e, whatever is told of it; the rest behind -/
theorem q_asgR {i : Nat} (R : V → Hp → Prop) (h : ∀ Q : VK, (∀ v H1, R v H1 → Q v H1) → te σ H Q) (k : ∀ v H1, R v H1 → tz D (σ.set i (some v)) H1) : tSeq (tAsg te (gName i)) tz D σ H := h _ k
theorem s_asgR {i : Nat} (R : V → Hp → Prop) (h : ∀ Q : VK, (∀ v H1, R v H1 → Q v H1) → te σ H Q) (k : ∀ v H1, R v H1 → D.nx (σ.set i (some v)) H1) : tAsg te (gName i) D σ H := h _ k
theorem s_retR (R : V → Hp → Prop) (h : ∀ Q : VK, (∀ v H1, R v H1 → Q v H1) → te σ H Q) (k : ∀ v H1, R v H1 → D.rt v H1) : tRet te D σ H := h _ k
theorem q_dropR (R : Hp → Prop) (h : ∀ Q : VK, (∀ v H1, R H1 → Q v H1) → te σ H Q) (k : ∀ H1, R H1 → tz D σ H1) : tSeq (tDrop te) tz D σ H := h _ fun _ => k
theorem s_dropR (R : Hp → Prop) (h : ∀ Q : VK, (∀ v H1, R H1 → Q v H1) → te σ H Q) (k : ∀ H1, R H1 → D.nx σ H1) : tDrop te D σ H := h _ fun _ => k
/-- a statement of any kind, cut by what holds behind it -/
theorem q_any {tu : TS} (M : L2.St → Hp → Prop) (h : ∀ nx, (∀ σ' H', M σ' H' → nx σ' H') → tu { D with nx := nx } σ H) (k : ∀ σ' H', M σ' H' → tz D σ' H') : tSeq tu tz D σ H := h _ k
end
end Sl
set_option Elab.async false
set_option linter.all false
set_option maxRecDepth 100000
set_option maxHeartbeats 4000000
namespace Sl
open PySem PySem.Spec PyProof.Rows L2 Evl
section
variable {prog : Program} {w : World} {A : Around} {E : Value → Shared → Prop} {s : Shared} {T : String} {r d : Addr} {n : Nat} {P : Nat → Value → Prop} {OK : Heap → Prop}
theorem tuple_src {Q : Value → Shared → Prop} (hT : T ≠ "tuple") (src : PySem.W.KdlSrc prog w T r d n P OK) (hh : A.handled = none) (hok : OK s.heap) (hn : n ≤ sizeLine)
    (h : ∀ (h' : Heap) (tk : Nat) (acc : Array Value), (∀ b o, s.heap.get? b = some o → h'.get? b = some o) → ItemsOf P acc n → Q (.ref h'.objs.size) { s with heap := h'.push { cls := .type "tuple", data := .seq acc }, toks := tk }) :
    wpAny (model prog w) A (call (.type "tuple") [.ref r]) Q E s := by
  refine callType_codes (Q₁ := fun obj z => z.TypeIs obj "tuple" ∧ Q obj z) F.called_tuple (F.typeCall_tuple_1 _) F.entry_object_init ?_ fun obj z hz => ⟨hz.1, F.args_object_init_2 obj _, object_init_meets F.called_tuple.init.lookup F.called_tuple.made (by decide) prog w A.in1 _ z ⟨hz.1, rfl, hz.2⟩⟩
  refine codeAny_of_tree ?_
  show wpAny _ A.in1.in1 (do checkBuiltinCall "tuple.__new__" ⟨[.type "tuple", .ref r], []⟩; again (.builtin "tuple.__new__" ⟨[.type "tuple", .ref r], []⟩)) _ _ s
  refine wpAny_bind (wpAny_of_eq (F.newCall_tuple_1 _) (wpAny_pure ⟨plainId_quiet F.plain_tuple_new _, codeAny_builtin F.entry_tuple_new ?_⟩))
  rw [Around.under_plainId F.plain_tuple_new _]
  have hsub := sub_tuple_self
  have hinit := init_tuple_lookup
  have hmh := madeHere_tuple
  have hTI : s.TypeIs (.ref r) T := src.type s hok
  have hh1 : A.in1.in1.handled = none := hh
  have hne := src.notTuple
  wp_walk using wpAny_typeOf hTI, PySem.W.kdu_collect src (A := A.in1.in1) hh1 hok hn
  intro h' tk acc hk hacc
  show wpAny _ _ (Builtin.Tuple.tupleExact acc.toList.toArray >>= fun v => ret v) _ _ _
  unfold Builtin.Tuple.tupleExact
  have e : acc.toList.toArray = acc := by simp
  rw [e]
  refine wpAny_bind (wpAny_newObj_type ?_ (by show acc.size ≤ sizeLine; rw [hacc.1]; exact hn))
  exact wpAny_pure ⟨⟨_, Heap.get?_push_size _ rfl, rfl⟩, h h' tk acc hk hacc⟩
end
/-- tuple(d): its keys -/
def rTupD : List V → Hp → VK → Prop := fun xs H Q => ∃ (a : Addr) (kvs : List (Key × V)), xs = [.ref a] ∧ H a = some (.dK kvs) ∧ ∀ p, H p = none → Q (.ref p) (upd H p (.tup (kvs.map fun kv => kV kv.1)))
theorem call_tupD {X : Cx} (hc : X.calm = true) : CallR X (.type "tuple") rTupD := by
  intro pins s σ H xs us Q I r h
  obtain ⟨a, kvs, rfl, hd, q⟩ := h
  obtain ⟨u, rfl, rx⟩ := vals1 r
  cases rx
  obtain ⟨z, lo, vs, rel, dd⟩ := (show ObjOk X.prog X.w H s.heap a (.dK kvs) from I.hok a _ hd)
  obtain ⟨ep, hat⟩ := dd.dictAt
  have ek : (kvs.map fun kv => kV kv.1) = vs.map fun p => kV p.1 := by
    have e := congrArg (List.map kV) rel.keys
    rw [List.map_map, List.map_map] at e
    exact e
  refine tuple_src (by decide) (PySem.W.kdl_dict (knd := mixKind X.prog X.w) (kvs := vs) (ep := ep) lo) (I.ok.hd hc) hat (by rw [← rel.length]; exact z) fun h' tk acc hk hacc => ?_
  have hv : Vals (vs.map fun p => kV p.1) acc.toList := keys_at (by rw [Array.length_toList]; exact hacc.1) fun j v e => hacc.2 j v (by rw [← Array.getElem?_toList]; exact e)
  have I1 := I.kept (t' := tk) hk
  refine ⟨.ref h'.objs.size, _, I1.laid (t' := tk) (o := .tup (kvs.map fun kv => kV kv.1)) (fun b o e => Heap.get?_push_of_some _ e) (Nat.le_refl _) ?_, rfl, q _ (I1.hok.fresh (Nat.le_refl _))⟩
  exact ⟨by rw [List.length_map]; exact z, acc.toList, by rw [ek]; exact hv, ⟨_, Heap.get?_push_size _ rfl, rfl, _, by rw [Array.toArray_toList]⟩⟩
end Sl
set_option Elab.async false
set_option linter.all false
set_option maxRecDepth 100000
set_option maxHeartbeats 4000000
namespace Sl
open PySem PySem.Spec PyProof.Rows L2 Evl
theorem hu65 {A : Around} {k : Nat} (hr : Room k A) : A.units + 65 < cLine := by
  have := hr.un
  omega
theorem hu1010 {A : Around} {k : Nat} (hr : Room (k + 60) A) : A.units + 1010 < cLine := by
  have := hr.un
  omega
/-- x == [], x a list -/
def rEqLNil (K : PySem.W.Frag) : R2 := fun x y H Q => ∃ (a b : Addr) (xs : List V), x = .ref a ∧ y = .ref b ∧ SqL K H a xs ∧ SqL K H b [] ∧ Q (.bl xs.isEmpty) H
theorem op_eqLNil {X : Cx} (hu : X.A.units + 64 < cLine) : OpR X (compareOp .Eq) (rEqLNil X.K) := by
  intro pins s σ H x y v u Q I rx ry h
  obtain ⟨a, b, xs, rfl, rfl, ha, hb, q⟩ := h
  cases rx
  cases ry
  obtain ⟨its, r1, p1, _⟩ := I.list ha
  obtain ⟨its2, r2, p2, _⟩ := I.list hb
  cases r2
  have hl := r1.length
  cases xs with
  | nil =>
    have hi : its = [] := List.length_eq_zero_iff.mp hl.symm
    subst hi
    refine SeqAt.RcAt.lists (e := fun _ => false) p1.isList p2.isList rfl (by omega) (fun j h1 h2 => absurd h2 (by simp)) _ _ _ _ ⟨.bl true, H, I, rfl, q⟩
  | cons x r =>
    have h0 : its.toArray.size = r.length + 1 := by rw [List.size_toArray, ← hl] <;> rfl
    refine SeqAt.RcAt.lists_lengths p1.isList p2.isList ?_ (by omega) _ _ _ _ ⟨.bl false, H, I, rfl, q⟩
    rw [h0]
    rfl
section
variable {K : PySem.W.Frag} {S : Addr → Prop} {H : Hp} {v x y : V} {d : PyData} {σ : L2.St} {ta tb te : TE} {t : TT} {tu tz : TS} {D : Ends}
theorem ev_eqLNil {xs : List V} (h : EvL ta σ H xs) : Ev (tOp (rEqLNil K) ta (tLst tNil)) σ H (.bl xs.isEmpty) := fun H1 e Q q =>
  h H1 e _ fun a H2 _ e2 h2 => ⟨Nat.zero_le _, fun p hp => ⟨a, p, xs, rfl, rfl, sq_of ((Ex.new hp) _ _ h2), sq_of upd_same, q _ (e2.trans (Ex.new hp))⟩⟩
theorem ev_lenS {a : Addr} {xs : List V} (h : Ev te σ H (.ref a)) (hx : SqL K H a xs ∨ SqT K H a xs) : Ev (tCB (rLenS K) (tCons te tNil)) σ H (.int (xs.length : Int)) := fun H1 e Q q =>
  h H1 e _ fun H2 e2 => ⟨a, xs, rfl, hx.imp (ex_l (e.trans e2)) (ex_t (e.trans e2)), q H2 e2⟩
theorem rv_ixSL {p : Addr} {xs : List V} {i : Int} (h : SqL K H p xs) (ha : atI xs i = some v) : RV (rIx K) (.ref p) (.int i) H v := fun H1 e _ q => .inl ⟨p, xs, i, v, rfl, rfl, ex_l e h, ha, q H1 (Ex.refl H1)⟩
theorem rv_ixST {p : Addr} {xs : List V} {i : Int} (h : SqT K H p xs) (ha : atI xs i = some v) : RV (rIx K) (.ref p) (.int i) H v := fun H1 e _ q => .inr (.inl ⟨p, xs, i, v, rfl, rfl, ex_t e h, ha, q H1 (Ex.refl H1)⟩)
/-- a loop over a tuple, new or not -/
theorem q_forWn {xs : List V} {tl : TE} {j : Nat} (h : EvW tl σ H xs) (Pv : Addr → Nat → L2.St → Hp → Prop) (h0 : ∀ p H1, Ex H H1 → H1 p = some (.tup xs) → Pv p 0 σ H1) (hl : ∀ p i σ' H', Pv p i σ' H' → H' p = some (.tup xs))
    (hs : ∀ p i x σ' H', xs[i]? = some x → Pv p i σ' H' → tu { D with nx := Pv p (i + 1), ct := Pv p (i + 1), bk := tz D } (σ'.set j (some x)) H') (hd : ∀ p σ' H', Pv p xs.length σ' H' → tz D σ' H') : tSeq (tFor (iTup K tl) (gName j) tu) tz D σ H :=
  h H (Ex.refl H) _ fun p H1 e hp => ⟨p, rfl, ⟨xs, st_of hp⟩, for_tup (D := { D with nx := tz D }) (Pv p) (h0 p H1 e hp) (fun i σ' H' _ q => st_of (hl p i σ' H' q)) (hs p) (hd p)⟩
/-- xs.extend(a new list) -/
theorem s_extL {l : Addr} {xs ys : List V} (hl : H l = some (.lst xs)) (ha : Ev ta σ H (.ref l)) (h : EvL te σ H ys) (hz : xs.length + ys.length ≤ 100000) (k : ∀ H1, Ex H H1 → D.nx σ (upd H1 l (.lst (xs ++ ys)))) :
    tDrop (tBM K "list" rExtend ta (tCons te tNil)) D σ H := ha H (Ex.refl H) _ fun H1 e1 =>
  ⟨.inl ⟨rfl, xs, sq_of (e1 l _ hl)⟩, h H1 e1 _ fun p H2 hp e2 h2 => ⟨l, p, xs, ys, rfl, rfl, e2 _ _ (e1 _ _ hl), h2, sz_of hz, k H2 (e1.trans e2)⟩⟩
theorem el_cat {xs ys : List V} (ha : EvL ta σ H xs) (hb : EvL tb σ H ys) (hz : xs.length + ys.length ≤ 100000) : EvL (tOp rCat ta tb) σ H (xs ++ ys) := fun H1 e Q q =>
  ha H1 e _ fun a H2 ha0 e2 h2 => hb H2 (e.trans e2) _ fun b H3 _ e3 h3 => ⟨a, b, xs, ys, rfl, rfl, e3 _ _ h2, h3, sz_of hz, fun p hp => q p _ (fresh_back (e2.trans e3) hp) ((e2.trans e3).trans (Ex.new hp)) upd_same⟩
/-- max of a new list -/
theorem ev_maxL {ns : List Int} {m : Int} (h : EvL te σ H (ns.map V.int)) (hn : 0 < ns.length) (hm : ∀ z, z ∈ ns → (∀ y, y ∈ ns → y ≤ z) → z = m) : Ev (tCB (rMax K) (tCons te tNil)) σ H (.int m) := fun H1 e Q q =>
  h H1 e _ fun p H2 _ e2 hp => ⟨p, ns, rfl, sq_of hp, hn, fun z hz hz2 => by
    have hq := q H2 e2
    rw [← hm z hz hz2] at hq
    exact hq⟩
end
end Sl
set_option Elab.async false
set_option linter.all false
set_option maxRecDepth 100000
set_option maxHeartbeats 4000000
/-! repr of data with dicts and lists in one another: of the dicts' places alone something is asked -/
namespace Sl
open PySem PySem.Spec PyProof.Rows L2
mutual
inductive Rz (h : Heap) : Value → PyData → Prop
  | none : Rz h .none .none
  | bool (b) : Rz h (.bool b) (.bool b)
  | int (i t) : Rz h (.int i t) (.int i)
  | str (x t) : Rz h (.str x t) (.str x)
  | list {a o vs n xs} : h.get? a = some o → o.cls = .type "list" → o.data = .seq vs n → RzAll h vs.toList xs → Rz h (.ref a) (.list xs)
  | tuple {a o vs n xs} : h.get? a = some o → o.cls = .type "tuple" → o.data = .seq vs n → RzAll h vs.toList xs → Rz h (.ref a) (.tuple xs)
  | dict {a o es n kvs} : (a == sysModules) = false → h.get? a = some o → o.cls = .type "dict" → o.data = .dict es n → RzAll h (es.toList.map (·.key)) (kvs.map (·.1)) → RzAll h (es.toList.map (·.val)) (kvs.map (·.2)) → Rz h (.ref a) (.dict kvs)
inductive RzAll (h : Heap) : List Value → List PyData → Prop
  | nil : RzAll h [] []
  | cons {v vs d ds} : Rz h v d → RzAll h vs ds → RzAll h (v :: vs) (d :: ds)
end
mutual
theorem Rz.reads {h : Heap} : ∀ {v : Value} {d : PyData}, Rz h v d → ∃ as, Reads h v d as
  | _, _, .none => ⟨_, .none⟩
  | _, _, .bool b => ⟨_, .bool b⟩
  | _, _, .int i t => ⟨_, .int i t⟩
  | _, _, .str x t => ⟨_, .str x t⟩
  | _, _, .list h1 h2 h3 h4 => let ⟨as, r⟩ := RzAll.reads h4; ⟨_, .list h1 h2 h3 r⟩
  | _, _, .tuple h1 h2 h3 h4 => let ⟨as, r⟩ := RzAll.reads h4; ⟨_, .tuple h1 h2 h3 r⟩
  | _, _, .dict _ h1 h2 h3 h4 h5 => let ⟨as, r⟩ := RzAll.reads h4; let ⟨bs, q⟩ := RzAll.reads h5; ⟨_, .dict h1 h2 h3 r q⟩
theorem RzAll.reads {h : Heap} : ∀ {vs : List Value} {ds : List PyData}, RzAll h vs ds → ∃ as, ReadsAll h vs ds as
  | _, _, .nil => ⟨_, .nil⟩
  | _, _, .cons a b => let ⟨as, r⟩ := Rz.reads a; let ⟨bs, q⟩ := RzAll.reads b; ⟨_, .cons r q⟩
end
section
variable {prog : Program} {w : World} {h₀ : Heap}
mutual
theorem Rz.repr : ∀ {v : Value} {d : PyData}, Rz h₀ v d → d.showable = true → d.shown.length ≤ sizeLine → ∃ bs, ReadAtMost h₀ d.depth bs ∧ ReprK prog w bs h₀ d.depth v d.shown
  | _, _, .none, _, _ => ⟨[], (fun _ h => nomatch h), by simp only [PyData.shown]; exact .of_is ReprIs.none _ _ _⟩
  | _, _, .bool b, _, _ => ⟨[], (fun _ h => nomatch h), by simp only [PyData.shown]; exact .of_is (ReprIs.bool b) _ _ _⟩
  | _, _, .int i t, hs, _ => ⟨[], (fun _ h => nomatch h), by simp only [PyData.shown]; exact .of_is (ReprIs.int t (by simpa [PyData.showable] using hs)) _ _ _⟩
  | _, _, .str x t, _, hz => ⟨[], (fun _ h => nomatch h), by simp only [PyData.shown]; exact .of_is (ReprIs.str x t (by simpa only [PyData.shown] using hz)) _ _ _⟩
  | _, _, .list (a := a) (vs := vs) (xs := xs) h1 h2 h3 h4, hs, hz => by
    have hz' : (listText (PyData.shownAll xs)).length ≤ sizeLine := by simpa only [PyData.shown] using hz
    obtain ⟨bs, hb, hk⟩ := RzAll.repr h4 (by simpa [PyData.showable] using hs) (fun t ht => Nat.le_trans (listText_mem_le ht) hz')
    obtain ⟨as, r⟩ := Rz.reads (.list h1 h2 h3 h4)
    have hna : a ∉ bs := not_mem_of_deeper r (by simp only [PyData.depth]; omega) hb
    refine ⟨a :: bs, ReadAtMost.cons r (by simp only [PyData.depth]; omega) hb, ?_⟩
    simp only [PyData.depth, PyData.shown]
    obtain ⟨l⟩ := vs
    cases l with
    | nil =>
      have h4' : RzAll h₀ [] xs := h4
      cases h4'
      simp only [PyData.shownAll, listText_nil]
      exact ReprK.listEmpty h1 h2 h3
    | cons x l => exact ReprK.list h1 h2 h3 hna (by simpa using hk.length_eq) (fun i y e => hk.item i y (by simpa using e))
  | _, _, .tuple (a := a) (xs := xs) h1 h2 h3 h4, hs, hz => by
    have hz' : (tupleText (PyData.shownAll xs)).length ≤ sizeLine := by simpa only [PyData.shown] using hz
    obtain ⟨bs, hb, hk⟩ := RzAll.repr h4 (by simpa [PyData.showable] using hs) (fun t ht => Nat.le_trans (tupleText_mem_le ht) hz')
    obtain ⟨as, r⟩ := Rz.reads (.tuple h1 h2 h3 h4)
    have hna : a ∉ bs := not_mem_of_deeper r (by simp only [PyData.depth]; omega) hb
    refine ⟨a :: bs, ReadAtMost.cons r (by simp only [PyData.depth]; omega) hb, ?_⟩
    simp only [PyData.depth, PyData.shown]
    exact ReprK.tuple h1 h2 h3 hna hk
  | _, _, .dict (a := a) (es := es) (kvs := kvs) hsys h1 h2 h3 h4 h5, hs, hz => by
    have hz' : (dictText (PyData.shownKv kvs)).length ≤ sizeLine := by simpa only [PyData.shown] using hz
    obtain ⟨hs1, hs2⟩ := PyData.showableKv_split kvs (by simpa [PyData.showable] using hs)
    obtain ⟨b1, hb1, k1⟩ := RzAll.repr h4 hs1 (fun t ht => let ⟨p, hp, hl⟩ := PyData.shownKv_key_le kvs t ht; Nat.le_trans hl (Nat.le_trans (dictText_mem_le hp) hz'))
    obtain ⟨b2, hb2, k2⟩ := RzAll.repr h5 hs2 (fun t ht => let ⟨p, hp, hl⟩ := PyData.shownKv_val_le kvs t ht; Nat.le_trans hl (Nat.le_trans (dictText_mem_le hp) hz'))
    obtain ⟨as, r⟩ := Rz.reads (.dict hsys h1 h2 h3 h4 h5)
    have hb : ReadAtMost h₀ (PyData.depthKv kvs) (b1 ++ b2) := (hb1.mono (PyData.depthAll_keys_le kvs)).append (hb2.mono (PyData.depthAll_vals_le kvs))
    have hna : a ∉ b1 ++ b2 := not_mem_of_deeper r (by simp only [PyData.depth]; omega) hb
    refine ⟨a :: (b1 ++ b2), ReadAtMost.cons r (by simp only [PyData.depth]; omega) hb, ?_⟩
    simp only [PyData.depth, PyData.shown, PyData.shownKv_eq]
    exact ReprK.dict h1 h2 h3 hsys hna (ReprEntriesK.of_two es.toList _ _
      (k1.more_le (fun b hb => List.mem_append_left _ hb) (PyData.depthAll_keys_le kvs)) (k2.more_le (fun b hb => List.mem_append_right _ hb) (PyData.depthAll_vals_le kvs)))
theorem RzAll.repr : ∀ {vs : List Value} {ds : List PyData}, RzAll h₀ vs ds → PyData.showableAll ds = true → (∀ t ∈ PyData.shownAll ds, t.length ≤ sizeLine) →
    ∃ bs, ReadAtMost h₀ (PyData.depthAll ds) bs ∧ ReprAllK prog w bs h₀ (PyData.depthAll ds) vs (PyData.shownAll ds)
  | _, _, .nil, _, _ => ⟨[], (fun _ h => nomatch h), by simp only [PyData.shownAll]; exact .nil⟩
  | _, _, .cons (d := d) (ds := ds) r rs, hs, hz => by
    have hs' : d.showable = true ∧ PyData.showableAll ds = true := by simpa [PyData.showableAll] using hs
    obtain ⟨b1, hb1, k1⟩ := Rz.repr r hs'.1 (hz _ (by simp only [PyData.shownAll]; exact List.mem_cons_self ..))
    obtain ⟨b2, hb2, k2⟩ := RzAll.repr rs hs'.2 (fun t ht => hz t (by simp only [PyData.shownAll]; exact List.mem_cons_of_mem _ ht))
    refine ⟨b1 ++ b2, ?_, ?_⟩
    · intro b hm
      simp only [PyData.depthAll]
      rcases List.mem_append.mp hm with hm | hm
      · obtain ⟨d', as', r', hd'⟩ := hb1 b hm
        exact ⟨d', as', r', Nat.le_trans hd' (Nat.le_max_left _ _)⟩
      · obtain ⟨d', as', r', hd'⟩ := hb2 b hm
        exact ⟨d', as', r', Nat.le_trans hd' (Nat.le_max_right _ _)⟩
    · simp only [PyData.depthAll, PyData.shownAll]
      exact .cons ((k1.more fun b hb => List.mem_append_left _ hb).level_le (Nat.le_max_left _ _)) (k2.more_le (fun b hb => List.mem_append_right _ hb) (Nat.le_max_right _ _))
end
end
/-! ### from the abstract heap -/
section
variable {X : Cx} {pins : List (Addr × Obj)} {σ : L2.St} {H : Hp} {s : Shared} {S : Addr → Prop}
theorem rs_keys {h : Heap} : ∀ {vs : List Value} {ds : List PyData} {as : List Addr}, ReadsAll h vs ds as → (∀ d ∈ ds, (∃ i, d = .int i) ∨ ∃ x, d = .str x) → RzAll h vs ds
  | _, _, _, .nil, _ => .nil
  | _, _, _, .cons (d := d) r t, hk => .cons (by
    rcases hk d List.mem_cons_self with ⟨i, e⟩ | ⟨x, e⟩
    · subst e
      cases r
      exact .int _ _
    · subst e
      cases r
      exact .str _ _) (rs_keys t fun d hd => hk d (List.mem_cons_of_mem _ hd))
theorem kD_atom (kvs : List (Key × V)) : ∀ d ∈ kvs.map fun p => kD p.1, (∃ i, d = .int i) ∨ ∃ x, d = .str x := by
  intro d hd
  obtain ⟨⟨k, v⟩, _, rfl⟩ := List.mem_map.mp hd
  cases k with
  | inl i => exact .inl ⟨i, rfl⟩
  | inr x => exact .inr ⟨x, rfl⟩
mutual
theorem Da.rs (I : Inv X pins σ H s) : ∀ {v : V} {d : PyData} {u : Value}, Da S H v d → RelV v u → Rz s.heap u d
  | _, _, _, .non, r => by
    cases r
    exact Rz.none
  | _, _, _, .bl b, r => by
    cases r
    exact Rz.bool b
  | _, _, _, .int i, r => by
    obtain ⟨t, rfl⟩ := r
    exact Rz.int i t
  | _, _, _, .str x, r => by
    obtain ⟨t, rfl⟩ := r
    exact Rz.str x t
  | _, _, _, .lst _ hs ha, r => by
    cases r
    obtain ⟨its, rv, ⟨o, n, ho, hc, _, hd⟩, _⟩ := I.list (SqL.of (K := X.K) hs)
    exact Rz.list ho hc hd (DaAll.rs I ha rv)
  | _, _, _, .tup _ hs ha, r => by
    cases r
    obtain ⟨its, rv, ⟨o, ho, hc, n, hd⟩, _⟩ := I.tuple (SqT.of (K := X.K) hs)
    exact Rz.tuple ho hc hd (DaAll.rs I ha rv)
  | _, _, _, .dct (a := a) (kvs := kvs) (ds := ds) _ hs ha, r => by
    cases r
    obtain ⟨_, ns, vs, kv, o, es, ep, ho, hx, hd, _, hp, _⟩ := (show ObjOk X.prog X.w H s.heap a (.dK kvs) from I.hok a _ hs)
    have hk := keys_read (h := s.heap) kv hp
    have hl : (kvs.map fun p => kD p.1).length = ds.length := by
      have := ha.length
      rw [List.length_map] at this
      rw [List.length_map]
      exact this
    refine Rz.dict ns ho hx.1 hd (by rw [zip_fst hl]; exact rs_keys hk (kD_atom kvs)) (by rw [zip_snd hl]; exact DaAll.rs I ha (vals_of kv hp))
theorem DaAll.rs (I : Inv X pins σ H s) : ∀ {vs : List V} {ds : List PyData} {us : List Value}, DaAll S H vs ds → Vals vs us → RzAll s.heap us ds
  | _, _, _, .nil, .nil => .nil
  | _, _, _, .cons h1 h2, .cons r1 r2 => .cons (Da.rs I h1 r1) (DaAll.rs I h2 r2)
end
end
/-- repr of a list -/
def rReprL : List V → Hp → VK → Prop := fun xs H Q => ∃ (S : Addr → Prop) (a : Addr) (vs : List V) (ds : List PyData), xs = [.ref a] ∧ H a = some (.lst vs) ∧ DaAll S H vs ds ∧ PyData.showableAll ds = true ∧ PyData.depthAll ds ≤ 1000 ∧ (listText (PyData.shownAll ds)).length ≤ sizeLine ∧ Q (.str (listText (PyData.shownAll ds))) H
theorem call_reprL {X : Cx} (hg : X.A.guards = some []) (hu : X.A.units + 1010 < cLine) : CallR X (.builtin "repr") rReprL := by
  intro pins s σ H xs us Q I r h
  obtain ⟨S, a, vs, ds, rfl, ha, hd, hs, hdp, hz, q⟩ := h
  obtain ⟨u, rfl, rx⟩ := vals1 r
  obtain rfl : u = Value.ref a := rx
  obtain ⟨its, rv, ⟨o, n, h1, h2, _, h3⟩, _⟩ := I.list (SqL.of (K := X.K) ha)
  have h4 := DaAll.rs I hd rv
  obtain ⟨bs, hb, hk⟩ := RzAll.repr (prog := X.prog) (w := X.w) h4 hs (fun t ht => Nat.le_trans (listText_mem_le ht) hz)
  obtain ⟨as, r⟩ := Rz.reads (.list h1 h2 h3 h4)
  have hna : a ∉ bs := not_mem_of_deeper r (by simp only [PyData.depth]; omega) hb
  refine call_repr_slot (by omega) ⟨o, h1, h2⟩ F.slot_list_repr.toG ?_
  have hQ : ∀ h' u tk, (∀ b o, s.heap.get? b = some o → h'.get? b = some o) → (fun (r : Value) (s₁ : Shared) => ∃ x t, r = .str x t ∧ EP X pins σ Q r s₁) (.str (listText (PyData.shownAll ds)) u) { s with heap := h', toks := tk } := fun h' u tk k => ⟨_, _, rfl, .str _, H, I.kept k, ⟨_, rfl⟩, q⟩
  cases its with
  | nil =>
    have h4' : RzAll s.heap [] ds := h4
    cases h4'
    simp only [PyData.shownAll, listText_nil] at hQ
    exact call_list_repr_empty ⟨o, h1, h2⟩ h1 h3 (hQ s.heap _ _ fun _ _ e => e)
  | cons x l => exact call_list_reprK h1 h2 h3 hna (by simpa using hk.length_eq) (fun i y e => hk.item i y (by simpa using e)) hg (fun b _ => Clear.nil b) (by show X.A.units + 1 + _ < cLine; omega) (fun _ _ e => e) hQ hz
end Sl
set_option Elab.async false
set_option linter.all false
set_option maxRecDepth 100000
set_option maxHeartbeats 4000000
namespace Sl
open PySem PySem.Spec PyProof.Rows L2
/-! ### the layer J: a def's body as a plain function over data; who owns a list is kept in the slots -/
/-! ### arguments without stars -/
def plX : Expr → Bool
  | .Starred .. => false
  | _ => true
theorem se_cons {e : Expr} {es : List Expr} {env : Env} (h : plX e = true) : starEach (e :: es) env = (false, eval e env) :: starEach es env := by
  cases e <;> first | rfl | cases h
def plXs : List Expr → Bool
  | [] => true
  | e :: es => plX e && plXs es
theorem se_any {pos : Pos} {env : Env} : ∀ {es : List Expr}, plXs es = true → (backTo pos (starEach es env)).any (·.1) = false
  | [], _ => rfl
  | e :: es, h => by
    have h' : (plX e && plXs es) = true := h
    rw [Bool.and_eq_true] at h'
    rw [se_cons h'.1]
    show (false || (backTo pos (starEach es env)).any (·.1)) = false
    rw [se_any h'.2] <;> rfl
theorem se_one {e : Expr} {env : Env} (h : plX e = true) : starEach [e] env = [(false, eval e env)] := se_cons h
theorem se_two {e e2 : Expr} {env : Env} (h : plX e = true) (h2 : plX e2 = true) : starEach [e, e2] env = [(false, eval e env), (false, eval e2 env)] := by
  rw [se_cons h, se_one h2]
theorem se_cons0 {e : Expr} {env : Env} (h : plX e = true) : starEach (e :: []) env = (false, eval e env) :: starEach [] env := se_cons h
inductive SV where
  | no | dat (d : PyData) | rd (d : PyData) | own (d : PyData) | mt (d : PyData) | raw (v : V) | xc (a : Addr) (d : Option Addr) (fs : List (Str × PyData))
inductive AV where
  | dat (d : PyData) | raw (v : V) | nam (i : Nat)
abbrev JEnv := List SV
def isM : PyData → Bool
  | .list _ => true
  | .dict _ => true
  | _ => false
def isMO : HO → Prop
  | .lst _ => True
  | .dK _ => True
  | _ => False
/-- a value that is the datum d, what it reaches away from T; its own address may be in T -/
inductive Dr (T : Addr → Prop) (H : Hp) : V → PyData → Prop
  | non : Dr T H .non .none
  | bl (b : Bool) : Dr T H (.bl b) (.bool b)
  | int (i : Int) : Dr T H (.int i) (.int i)
  | str (x : Str) : Dr T H (.str x) (.str x)
  | lst {a : Addr} {xs : List V} {ds : List PyData} : H a = some (.lst xs) → DaAll T H xs ds → Dr T H (.ref a) (.list ds)
  | tup {a : Addr} {xs : List V} {ds : List PyData} : H a = some (.tup xs) → DaAll T H xs ds → Dr T H (.ref a) (.tuple ds)
  | dct {a : Addr} {kvs : List (Key × V)} {ds : List PyData} : H a = some (.dK kvs) → DaAll T H (kvs.map (·.2)) ds → Dr T H (.ref a) (.dict ((kvs.map fun p => kD p.1).zip ds))
section
variable {T U S : Addr → Prop} {H H' : Hp} {v : V} {d : PyData} {a : Addr}
theorem Da.dr (h : Da T H v d) : Dr T H v d := by
  cases h with
  | non => exact .non
  | bl b => exact .bl b
  | int i => exact .int i
  | str x => exact .str x
  | lst _ h c => exact .lst h c
  | tup _ h c => exact .tup h c
  | dct _ h c => exact .dct h c
theorem Da.off (h : Da T H (.ref a) d) : ¬ T a := by
  cases h with
  | lst n _ _ => exact n
  | tup n _ _ => exact n
  | dct n _ _ => exact n
theorem Dr.da (h : Dr T H v d) (n : ∀ a, v = .ref a → ¬ T a) : Da T H v d := by
  cases h with
  | non => exact .non
  | bl b => exact .bl b
  | int i => exact .int i
  | str x => exact .str x
  | lst h c => exact .lst (n _ rfl) h c
  | tup h c => exact .tup (n _ rfl) h c
  | dct h c => exact .dct (n _ rfl) h c
theorem Dr.less (st : ∀ a, U a → T a) (h : Dr T H v d) : Dr U H v d := by
  cases h with
  | non => exact .non
  | bl b => exact .bl b
  | int i => exact .int i
  | str x => exact .str x
  | lst h c => exact .lst h (c.less st)
  | tup h c => exact .tup h (c.less st)
  | dct h c => exact .dct h (c.less st)
theorem Dr.keep (k : Kp T H H') (kr : ∀ a o, v = .ref a → H a = some o → H' a = some o) (h : Dr T H v d) : Dr T H' v d := by
  cases h with
  | non => exact .non
  | bl b => exact .bl b
  | int i => exact .int i
  | str x => exact .str x
  | lst h c => exact .lst (kr _ _ rfl h) (c.keep k fun _ z => z)
  | tup h c => exact .tup (kr _ _ rfl h) (c.keep k fun _ z => z)
  | dct h c => exact .dct (kr _ _ rfl h) (c.keep k fun _ z => z)
theorem Dr.same (k : Same H H') (h : Dr T H v d) : Dr T H' v d := h.keep (fun a o _ e => k a o e) fun a o _ e => k a o e
theorem Dr.read (h : Dr T H v d) : Da (fun _ => False) H v d := (h.less (U := fun _ => False) fun _ z => z.elim).da fun _ _ z => z
theorem Dr.mo (h : Dr T H v d) (m : isM d = true) : ∃ a o, v = .ref a ∧ H a = some o ∧ isMO o := by
  cases h with
  | lst h c => exact ⟨_, _, rfl, h, trivial⟩
  | dct h c => exact ⟨_, _, rfl, h, trivial⟩
  | _ => simp [isM] at m
/-- what holds no list of its own is away from all addresses that hold lists and dicts -/
theorem Dr.daN (h : Dr T H v d) (m : isM d = false) (hT : ∀ a, T a → ∃ o, H a = some o ∧ isMO o) : Da T H v d := by
  refine h.da fun a e t => ?_
  obtain ⟨o, ho, mo⟩ := hT a t
  cases h with
  | lst h c => simp [isM] at m
  | dct h c => simp [isM] at m
  | tup h c =>
    cases e
    rw [h] at ho
    cases ho
    exact mo
  | _ => cases e
mutual
theorem Da.moreP (hU : ∀ a, U a → H a = none) : ∀ {v : V} {d : PyData}, Da T H v d → Da (fun a => T a ∨ U a) H v d
  | _, _, .non => .non
  | _, _, .bl b => .bl b
  | _, _, .int i => .int i
  | _, _, .str x => .str x
  | _, _, .lst n h a => .lst (fun t => t.elim n fun e => by rw [hU _ e] at h; cases h) h (DaAll.moreP hU a)
  | _, _, .tup n h a => .tup (fun t => t.elim n fun e => by rw [hU _ e] at h; cases h) h (DaAll.moreP hU a)
  | _, _, .dct n h a => .dct (fun t => t.elim n fun e => by rw [hU _ e] at h; cases h) h (DaAll.moreP hU a)
theorem DaAll.moreP (hU : ∀ a, U a → H a = none) : ∀ {vs : List V} {ds : List PyData}, DaAll T H vs ds → DaAll (fun a => T a ∨ U a) H vs ds
  | _, _, .nil => .nil
  | _, _, .cons h t => .cons (Da.moreP hU h) (DaAll.moreP hU t)
end
theorem Dr.moreP (hU : ∀ a, U a → H a = none) (h : Dr T H v d) : Dr (fun a => T a ∨ U a) H v d := by
  cases h with
  | non => exact .non
  | bl b => exact .bl b
  | int i => exact .int i
  | str x => exact .str x
  | lst h c => exact .lst h (c.moreP hU)
  | tup h c => exact .tup h (c.moreP hU)
  | dct h c => exact .dct h (c.moreP hU)
end

/-- an exception's dict as it lies -/
inductive Fld (T : Addr → Prop) (H : Hp) : Option Addr → List (Str × PyData) → Prop
  | nil : Fld T H none []
  | cons {d : Addr} {fs : List (Str × V)} {gs : List (Str × PyData)} : H d = some (.xd fs) → fs.map (·.1) = gs.map (·.1) → DaAll T H (fs.map (·.2)) (gs.map (·.2)) → Fld T H (some d) gs
theorem Fld.less {T U : Addr → Prop} {H : Hp} (st : ∀ a, U a → T a) {d : Option Addr} {fs : List (Str × PyData)} (h : Fld T H d fs) : Fld U H d fs := by
  cases h with
  | nil => exact .nil
  | cons a b c => exact .cons a b (c.less st)
theorem Fld.moreP {T U : Addr → Prop} {H : Hp} (hU : ∀ a, U a → H a = none) {d : Option Addr} {fs : List (Str × PyData)} (h : Fld T H d fs) : Fld (fun a => T a ∨ U a) H d fs := by
  cases h with
  | nil => exact .nil
  | cons a b c => exact .cons a b (c.moreP hU)
/-! ### the state of a frame: its slots and, behind them, the lists that an expression has made (ς) -/
def So (S : Addr → Prop) (as : List (Option Addr)) : Addr → Prop := fun a => S a ∨ some a ∈ as
def vl (ς : L2.St) (i : Nat) : Option V := (ς[i]?).getD none
def SlotOk (S : Addr → Prop) (as : List (Option Addr)) (ς : L2.St) (H : Hp) (i : Nat) (oa : Option Addr) : SV → Prop
  | .no => oa = none
  | .dat d => oa = none ∧ ∃ v, vl ς i = some v ∧ Da (So S as) H v d
  | .raw u => oa = none ∧ vl ς i = some u
  | .xc a d fs => oa = none ∧ vl ς i = some (.ref a) ∧ Fld (So S as) H d fs ∧ ∀ b, d = some b → some b ∉ as
  | .rd d => oa = none ∧ ∃ a, vl ς i = some (.ref a) ∧ some a ∉ as ∧ isM d = true ∧ Dr (So S as) H (.ref a) d
  | .own d => ∃ a, oa = some a ∧ vl ς i = some (.ref a) ∧ ¬ S a ∧ isM d = true ∧ Dr (So S as) H (.ref a) d
  | .mt d => ∃ a, oa = some a ∧ vl ς i = some (.ref a) ∧ S a ∧ isM d = true ∧ Dr (So S as) H (.ref a) d
structure Rel (S : Addr → Prop) (env : JEnv) (as : List (Option Addr)) (ς : L2.St) (H : Hp) : Prop where
  lenA : as.length = env.length
  lenS : ς.length = env.length
  slot : ∀ (i : Nat) x, env[i]? = some x → ∃ oa, as[i]? = some oa ∧ SlotOk S as ς H i oa x
  inj : ∀ (i j : Nat) a, as[i]? = some (some a) → as[j]? = some (some a) → i = j
  so : ∀ a, S a → ∃ o, H a = some o ∧ isMO o
structure ExtS (S : Addr → Prop) (as : List (Option Addr)) (H : Hp) (as' : List (Option Addr)) (H' : Hp) : Prop where
  kp : ∀ a o, some a ∉ as → H a = some o → H' a = some o
  nw : ∀ a, some a ∈ as' → some a ∈ as ∨ H a = none
  up : ∀ a, H a ≠ none → H' a ≠ none
  st : ∀ (j : Nat) a, S a → as[j]? = some (some a) → as'[j]? = some (some a)
section
variable {S : Addr → Prop} {as as1 as2 : List (Option Addr)} {H H1 H2 : Hp} {n : Nat} {ς ς1 : L2.St}
theorem ExtS.refl : ExtS S as H as H := ⟨fun _ _ _ e => e, fun _ h => .inl h, fun _ h => h, fun _ _ _ e => e⟩
theorem ExtS.trans (x : ExtS S as H as1 H1) (y : ExtS S as1 H1 as2 H2) : ExtS S as H as2 H2 := by
  refine ⟨fun a o n e => ?_, fun a h => ?_, fun a h => y.up a (x.up a h), fun j a s e => y.st j a s (x.st j a s e)⟩
  · refine y.kp a o (fun m => ?_) (x.kp a o n e)
    rcases x.nw a m with z | z
    · exact n z
    · rw [z] at e
      cases e
  · rcases y.nw a h with z | z
    · exact x.nw a z
    · refine .inr ?_
      cases q : H a with
      | none => rfl
      | some o => exact absurd z (x.up a (by rw [q]; exact fun z => nomatch z))
/-- data stay -/
theorem ExtS.so (x : ExtS S as H as1 H1) {v : V} {d : PyData} (h : Da (So S as) H v d) : Da (So S as1) H1 v d := by
  have h1 : Da (fun a => So S as a ∨ H a = none) H v d := h.moreP (U := fun a => H a = none) fun _ e => e
  have h3 : Da (fun a => So S as a ∨ H a = none) H1 v d := h1.keep (T := fun a => So S as a ∨ H a = none) (fun a o n e => x.kp a o (fun m => n (.inl (.inr m))) e) fun _ z => z
  exact h3.less fun a m => m.elim (fun s => .inl (.inl s)) fun m => (x.nw a m).elim (fun z => .inl (.inr z)) .inr
theorem ExtS.soAll (x : ExtS S as H as1 H1) {v : List V} {d : List PyData} (h : DaAll (So S as) H v d) : DaAll (So S as1) H1 v d := by
  induction d generalizing v with
  | nil => cases h; exact .nil
  | cons e es ih => cases h with | cons a b => exact .cons (x.so a) (ih b)
theorem ExtS.soR (x : ExtS S as H as1 H1) {v : V} {d : PyData} (h : Dr (So S as) H v d) (kr : ∀ a o, v = .ref a → H a = some o → H1 a = some o) : Dr (So S as1) H1 v d := by
  cases h with
  | non => exact .non
  | bl b => exact .bl b
  | int i => exact .int i
  | str x => exact .str x
  | lst h c => exact .lst (kr _ _ rfl h) (x.soAll c)
  | tup h c => exact .tup (kr _ _ rfl h) (x.soAll c)
  | dct h c => exact .dct (kr _ _ rfl h) (x.soAll c)
theorem vl_app {i : Nat} {v : V} {τ : L2.St} (h : vl ς i = some v) : vl (ς ++ τ) i = some v := by
  unfold vl at h ⊢
  by_cases hi : i < ς.length
  · rw [List.getElem?_append_left hi]
    exact h
  · rw [List.getElem?_eq_none (by omega)] at h
    cases h
theorem vl_pre {i : Nat} {v : V} (p : ς <+: ς1) (h : vl ς i = some v) : vl ς1 i = some v := by
  obtain ⟨t, rfl⟩ := p
  exact vl_app h
theorem Fld.ext (x : ExtS S as H as1 H1) {d : Option Addr} {fs : List (Str × PyData)} (h : Fld (So S as) H d fs) (n : ∀ b, d = some b → some b ∉ as) : Fld (So S as1) H1 d fs ∧ ∀ b, d = some b → some b ∉ as1 := by
  cases h with
  | nil => exact ⟨.nil, fun b e => (nomatch e)⟩
  | cons a b c =>
    refine ⟨.cons (x.kp _ _ (n _ rfl) a) b (x.soAll c), fun b e m => ?_⟩
    cases e
    rcases x.nw _ m with z | z
    · exact n _ rfl z
    · rw [z] at a
      cases a
/-- a slot whose own object stays is as it was -/
theorem SlotOk.ext {i : Nat} {oa : Option Addr} {x : SV} (e : ExtS S as H as1 H1) (p : ς <+: ς1) (kr : ∀ a o, oa = some a → H a = some o → H1 a = some o) (h : SlotOk S as ς H i oa x) : SlotOk S as1 ς1 H1 i oa x := by
  cases x with
  | no => exact h
  | dat d =>
    obtain ⟨h1, v, h2, h3⟩ := h
    exact ⟨h1, v, vl_pre p h2, e.so h3⟩
  | raw u => exact ⟨h.1, vl_pre p h.2⟩
  | xc a d fs =>
    obtain ⟨h1, h2, h3, h4⟩ := h
    obtain ⟨g1, g2⟩ := h3.ext e h4
    exact ⟨h1, vl_pre p h2, g1, g2⟩
  | rd d =>
    obtain ⟨h1, a, h2, h3, h4, h5⟩ := h
    obtain ⟨b, o, eb, ho, _⟩ := h5.mo h4
    cases eb
    refine ⟨h1, a, vl_pre p h2, fun m => ?_, h4, e.soR h5 fun b o eb q => by cases eb; exact e.kp a o h3 q⟩
    rcases e.nw a m with z | z
    · exact h3 z
    · rw [z] at ho
      cases ho
  | own d =>
    obtain ⟨a, h1, h2, h3, h4, h5⟩ := h
    exact ⟨a, h1, vl_pre p h2, h3, h4, e.soR h5 fun b o eb q => by cases eb; exact kr a o h1 q⟩
  | mt d =>
    obtain ⟨a, h1, h2, h3, h4, h5⟩ := h
    exact ⟨a, h1, vl_pre p h2, h3, h4, e.soR h5 fun b o eb q => by cases eb; exact kr a o h1 q⟩
end

/-! ### values -/
def VA (S : Addr → Prop) (as : List (Option Addr)) (H : Hp) (ς : L2.St) (v : V) : AV → Prop
  | .dat d => Da (So S as) H v d
  | .raw u => v = u
  | .nam i => vl ς i = some v
def svD : SV → Option PyData
  | .dat d => some d
  | .rd d => some d
  | .own d => some d
  | .mt d => some d
  | _ => none
def lk (env : JEnv) : AV → Option PyData
  | .dat d => some d
  | .raw _ => none
  | .nam i => match env[i]? with
    | some x => svD x
    | none => none
inductive VAs (S : Addr → Prop) (as : List (Option Addr)) (H : Hp) (ς : L2.St) : List V → List AV → Prop
  | nil : VAs S as H ς [] []
  | cons {v : V} {vs : List V} {x : AV} {xs : List AV} : VA S as H ς v x → VAs S as H ς vs xs → VAs S as H ς (v :: vs) (x :: xs)
section
variable {S : Addr → Prop} {as as1 : List (Option Addr)} {H H1 : Hp} {ς ς1 : L2.St} {env : JEnv} {v : V} {av : AV}
theorem VA.ext (x : ExtS S as H as1 H1) (p : ς <+: ς1) (h : VA S as H ς v av) : VA S as1 H1 ς1 v av := by
  cases av with
  | dat d => exact x.so h
  | raw u => exact h
  | nam i => exact vl_pre p h
theorem VAs.ext {vs : List V} {avs : List AV} (x : ExtS S as H as1 H1) (p : ς <+: ς1) (h : VAs S as H ς vs avs) : VAs S as1 H1 ς1 vs avs := by
  induction h with
  | nil => exact .nil
  | cons a _ ih => exact .cons (a.ext x p) ih
theorem VAs.len {vs : List V} {avs : List AV} (h : VAs S as H ς vs avs) : vs.length = avs.length := by
  induction h with
  | nil => rfl
  | cons _ _ ih => exact congrArg (· + 1) ih
/-- what a slot owns -/
theorem Rel.own_at (R : Rel S env as ς H) {i : Nat} {a : Addr} (e : as[i]? = some (some a)) : ∃ d, (env[i]? = some (.own d) ∧ ¬ S a ∨ env[i]? = some (.mt d) ∧ S a) ∧ vl ς i = some (.ref a) ∧ isM d = true ∧ Dr (So S as) H (.ref a) d := by
  have hl : i < env.length := by
    rw [← R.lenA]
    exact (List.getElem?_eq_some_iff.mp e).1
  have he := List.getElem?_eq_getElem hl
  obtain ⟨oa, e2, ok⟩ := R.slot i _ he
  rw [e] at e2
  cases e2
  cases q : env[i] with
  | no => rw [q] at ok; cases ok
  | dat d => rw [q] at ok; cases ok.1
  | raw u => rw [q] at ok; cases ok.1
  | xc a d fs => rw [q] at ok; cases ok.1
  | rd d => rw [q] at ok; cases ok.1
  | own d =>
    rw [q] at ok he
    obtain ⟨b, e, h1, h2, m, z⟩ := ok
    cases e
    exact ⟨d, .inl ⟨he, h2⟩, h1, m, z⟩
  | mt d =>
    rw [q] at ok he
    obtain ⟨b, e, h1, h2, m, z⟩ := ok
    cases e
    exact ⟨d, .inr ⟨he, h2⟩, h1, m, z⟩
/-- all that is owned is a list or a dict -/
theorem Rel.mo (R : Rel S env as ς H) : ∀ a, So S as a → ∃ o, H a = some o ∧ isMO o := by
  intro a h
  rcases h with h | h
  · exact R.so a h
  · obtain ⟨i, e⟩ := List.mem_iff_getElem?.mp h
    obtain ⟨d, _, _, m, z⟩ := R.own_at e
    obtain ⟨c, o, e, ho, mo⟩ := z.mo m
    cases e
    exact ⟨o, ho, mo⟩
/-- a value's datum, for reading -/
theorem VA.lk (R : Rel S env as ς H) {d : PyData} (h : VA S as H ς v av) (e : lk env av = some d) : Dr (So S as) H v d := by
  cases av with
  | dat d => cases e; exact Da.dr h
  | raw u => cases e
  | nam i =>
    have h' : vl ς i = some v := h
    have e' : (match env[i]? with | some x => svD x | none => none) = some d := e
    cases q : env[i]? with
    | none => rw [q] at e'; cases e'
    | some x =>
      rw [q] at e'
      obtain ⟨oa, e2, ok⟩ := R.slot i x q
      cases x with
      | no => cases e'
      | raw u => cases e'
      | xc a d fs => cases e'
      | dat d' =>
        cases e'
        obtain ⟨_, w, hv, z⟩ := ok
        rw [h'] at hv
        cases hv
        exact z.dr
      | rd d' =>
        cases e'
        obtain ⟨_, w, hv, _, _, z⟩ := ok
        rw [h'] at hv
        cases hv
        exact z
      | own d' =>
        cases e'
        obtain ⟨w, _, hv, _, _, z⟩ := ok
        rw [h'] at hv
        cases hv
        exact z
      | mt d' =>
        cases e'
        obtain ⟨w, _, hv, _, _, z⟩ := ok
        rw [h'] at hv
        cases hv
        exact z
/-- the heap grows -/
theorem Same.up (k : Same H H1) (a : Addr) (h : H a ≠ none) : H1 a ≠ none := by
  cases q : H a with
  | none => exact absurd q h
  | some o =>
    rw [k a o q]
    exact fun z => nomatch z
theorem ExtS.grow (k : Same H H1) : ExtS S as H as H1 := ⟨fun a o _ e => k a o e, fun _ h => .inl h, Same.up k, fun _ _ _ e => e⟩
theorem Rel.same (R : Rel S env as ς H) (k : Same H H1) : Rel S env as ς H1 := by
  refine ⟨R.lenA, R.lenS, fun i x e => ?_, R.inj, fun a s => ?_⟩
  · obtain ⟨oa, e1, ok⟩ := R.slot i x e
    exact ⟨oa, e1, ok.ext (.grow k) (List.prefix_refl _) fun a o _ e => k a o e⟩
  · obtain ⟨o, e, m⟩ := R.so a s
    exact ⟨o, k a o e, m⟩
/-- a new list (or dict), at the end -/
theorem ExtS.push {p : Addr} (k : Same H H1) (hp : H p = none) : ExtS S as H (as ++ [some p]) H1 := by
  refine ⟨fun a o _ e => k a o e, fun a h => ?_, (ExtS.grow (S := S) (as := as) k).up, fun j a _ e => ?_⟩
  · rcases List.mem_append.mp h with h | h
    · exact .inl h
    · have := List.mem_singleton.mp h
      cases this
      exact .inr hp
  · rw [List.getElem?_append_left (List.getElem?_eq_some_iff.mp e).1]
    exact e
theorem Rel.push {p : Addr} {d : PyData} (R : Rel S env as ς H) (k : Same H H1) (hp : H p = none) (m : isM d = true) (h : Dr (fun a => So S as a ∨ a = p) H1 (.ref p) d) :
    Rel S (env ++ [.own d]) (as ++ [some p]) (ς ++ [some (.ref p)]) H1 := by
  have hS : ¬ S p := fun s => by
    obtain ⟨o, e, _⟩ := R.so p s
    rw [hp] at e
    cases e
  have hA : some p ∉ as := fun s => by
    obtain ⟨o, e, _⟩ := R.mo p (.inr s)
    rw [hp] at e
    cases e
  have hle : as.length = env.length := R.lenA
  have hls : ς.length = env.length := R.lenS
  refine ⟨by simp [hle], by simp [hls], fun i x e => ?_, fun i j a e1 e2 => ?_, fun a s => ?_⟩
  · by_cases hi : i < env.length
    · rw [List.getElem?_append_left hi] at e
      obtain ⟨oa, e1, ok⟩ := R.slot i x e
      refine ⟨oa, by rw [List.getElem?_append_left (by omega)]; exact e1, ok.ext (.push k hp) (List.prefix_append _ _) fun a o _ e => k a o e⟩
    · have hx := (List.getElem?_eq_some_iff.mp e).1
      simp at hx
      have ei : i = env.length := by omega
      subst ei
      rw [List.getElem?_append_right (Nat.le_refl _)] at e
      simp at e
      subst e
      refine ⟨some p, by rw [← hle]; simp, p, rfl, by unfold vl; rw [← hls]; simp, hS, m, h.less fun a s => ?_⟩
      rcases s with s | s
      · exact .inl (.inl s)
      · rcases List.mem_append.mp s with s | s
        · exact .inl (.inr s)
        · have := List.mem_singleton.mp s
          cases this
          exact .inr rfl
  · have at' : ∀ {i : Nat}, (as ++ [some p])[i]? = some (some a) → (as[i]? = some (some a)) ∨ (i = as.length ∧ a = p) := by
      intro i e
      by_cases hi : i < as.length
      · rw [List.getElem?_append_left hi] at e
        exact .inl e
      · have hx := (List.getElem?_eq_some_iff.mp e).1
        simp at hx
        have ei : i = as.length := by omega
        subst ei
        simp at e
        exact .inr ⟨rfl, e.symm⟩
    rcases at' e1 with f1 | ⟨f1, g1⟩
    · rcases at' e2 with f2 | ⟨f2, g2⟩
      · exact R.inj i j a f1 f2
      · subst g2
        exact absurd (List.mem_of_getElem? f1) hA
    · rcases at' e2 with f2 | ⟨f2, g2⟩
      · subst g1
        exact absurd (List.mem_of_getElem? f2) hA
      · omega
  · obtain ⟨o, e, mo⟩ := R.so a s
    exact ⟨o, k a o e, mo⟩
end
end Sl
set_option Elab.async false
set_option linter.all false
set_option maxRecDepth 100000
set_option maxHeartbeats 4000000
namespace Sl
open PySem PySem.Spec PyProof.Rows L2
section
variable {S : Addr → Prop} {as as1 : List (Option Addr)} {H H1 : Hp} {ς ς1 : L2.St} {env : JEnv} {v : V} {av : AV} {i : Nat} {d : PyData} {a : Addr}
theorem mem_set {x : Option Addr} {b : Addr} (h : some b ∈ as.set i x) : some b ∈ as ∨ x = some b := by
  rcases List.mem_or_eq_of_mem_set h with z | z
  · exact .inl z
  · exact .inr z.symm
/-- a slot gives up what it owns -/
theorem ExtS.drop (n : ∀ a, as[i]? = some (some a) → ¬ S a) : ExtS S as H (as.set i none) H := by
  refine ⟨fun _ _ _ e => e, fun a h => ?_, fun _ h => h, fun j a s e => ?_⟩
  · rcases mem_set h with z | z
    · exact .inl z
    · cases z
  · by_cases hj : i = j
    · subst hj
      exact absurd s (n a e)
    · rw [List.getElem?_set_ne hj]
      exact e
theorem not_mem_drop (R : Rel S env as ς H) (e : as[i]? = some (some a)) : some a ∉ as.set i none := by
  intro m
  obtain ⟨j, ej⟩ := List.mem_iff_getElem?.mp m
  by_cases hj : i = j
  · subst hj
    have hl := (List.getElem?_eq_some_iff.mp e).1
    rw [List.getElem?_set_self hl] at ej
    cases ej
  · rw [List.getElem?_set_ne hj] at ej
    exact hj (R.inj _ _ _ e ej)
theorem inj_drop (R : Rel S env as ς H) : ∀ (j k : Nat) b, (as.set i none)[j]? = some (some b) → (as.set i none)[k]? = some (some b) → j = k := by
  have f : ∀ (j : Nat) b, (as.set i none)[j]? = some (some b) → as[j]? = some (some b) := by
    intro j b e
    by_cases hj : i = j
    · subst hj
      by_cases hl : i < as.length
      · rw [List.getElem?_set_self hl] at e
        cases e
      · rw [List.getElem?_eq_none (by simp; omega)] at e
        cases e
    · rw [List.getElem?_set_ne hj] at e
      exact e
  exact fun j k b e1 e2 => R.inj j k b (f j b e1) (f k b e2)
/-- slot i is given another content that owns nothing (σ as it is) -/
theorem Rel.put (R : Rel S env as ς H) (x : SV) (hn : ∀ a, as[i]? = some (some a) → ¬ S a) (hx : i < env.length → SlotOk S (as.set i none) ς H i none x) : Rel S (env.set i x) (as.set i none) ς H := by
  have hle : as.length = env.length := R.lenA
  refine ⟨by simp [hle], by simp [R.lenS], fun j y e => ?_, inj_drop R, R.so⟩
  by_cases hj : i = j
  · subst hj
    by_cases hl : i < env.length
    · rw [List.getElem?_set_self hl] at e
      cases e
      exact ⟨none, by rw [List.getElem?_set_self (by omega)], hx hl⟩
    · rw [List.getElem?_eq_none (by simp; omega)] at e
      cases e
  · rw [List.getElem?_set_ne hj] at e
    obtain ⟨oa, e1, ok⟩ := R.slot j y e
    exact ⟨oa, by rw [List.getElem?_set_ne hj]; exact e1, ok.ext (.drop hn) (List.prefix_refl _) fun _ _ _ e => e⟩
/-- what slot i owns is given away as a datum -/
theorem Rel.freeze (R : Rel S env as ς H) (e : env[i]? = some (.own d)) : Rel S (env.set i (.dat d)) (as.set i none) ς H ∧ ExtS S as H (as.set i none) H ∧ ∀ v, vl ς i = some v → Da (So S (as.set i none)) H v d := by
  obtain ⟨oa, e1, a, rfl, h2, h3, h4, h5⟩ := R.slot i _ e
  have hn : ∀ b, as[i]? = some (some b) → ¬ S b := fun b z => by
    rw [e1] at z
    cases z
    exact h3
  have hd : Da (So S (as.set i none)) H (.ref a) d := by
    refine Dr.da (h5.less fun b m => ?_) fun b eb m => ?_
    · rcases m with m | m
      · exact .inl m
      · rcases mem_set m with z | z
        · exact .inr z
        · cases z
    · cases eb
      rcases m with m | m
      · exact h3 m
      · exact not_mem_drop R e1 m
  refine ⟨R.put (.dat d) hn fun _ => ⟨rfl, _, h2, hd⟩, .drop hn, fun v hv => ?_⟩
  rw [h2] at hv
  cases hv
  exact hd

/-- the content at slot i changes -/
theorem Rel.change {d' : PyData} {o : HO} (R : Rel S env as ς H) (e : as[i]? = some (some a)) (k : ∀ b o, b ≠ a → H b = some o → H1 b = some o) (hm : isM d' = true) (h : Dr (So S as) H1 (.ref a) d') {x : SV}
    (hx : (env[i]? = some (.own d) ∧ x = .own d') ∨ (env[i]? = some (.mt d) ∧ x = .mt d')) : Rel S (env.set i x) as ς H1 ∧ ExtS S as H as H1 := by
  have ha : some a ∈ as := List.mem_of_getElem? e
  have hup : ∀ b, H b ≠ none → H1 b ≠ none := fun b hb => by
    by_cases z : b = a
    · subst z
      obtain ⟨c, o, ec, ho, _⟩ := h.mo hm
      cases ec
      rw [ho]
      exact fun z => nomatch z
    · cases q : H b with
      | none => exact absurd q hb
      | some o =>
        rw [k b o z q]
        exact fun z => nomatch z
  have hE : ExtS S as H as H1 := ⟨fun b o nb q => k b o (fun z => nb (by rw [z]; exact ha)) q, fun _ h => .inl h, hup, fun _ _ _ e => e⟩
  refine ⟨⟨by simp [R.lenA], by simp [R.lenS], fun j y ej => ?_, R.inj, fun b s => ?_⟩, hE⟩
  · by_cases hj : i = j
    · subst hj
      have hl : i < env.length := by
        rw [← R.lenA]
        exact (List.getElem?_eq_some_iff.mp e).1
      rw [List.getElem?_set_self hl] at ej
      cases ej
      obtain ⟨d0, z, h1, _, _⟩ := R.own_at e
      rcases hx with ⟨hx, rfl⟩ | ⟨hx, rfl⟩
      · rcases z with ⟨z, ns⟩ | ⟨z, _⟩
        · exact ⟨some a, e, a, rfl, h1, ns, hm, h⟩
        · rw [hx] at z
          cases z
      · rcases z with ⟨z, _⟩ | ⟨z, s⟩
        · rw [hx] at z
          cases z
        · exact ⟨some a, e, a, rfl, h1, s, hm, h⟩
    · rw [List.getElem?_set_ne hj] at ej
      obtain ⟨oa, e1, ok⟩ := R.slot j y ej
      refine ⟨oa, e1, ok.ext hE (List.prefix_refl _) fun b o eb q => k b o (fun z => ?_) q⟩
      subst z
      subst eb
      exact hj (R.inj _ _ _ e e1)
  · by_cases z : b = a
    · subst z
      obtain ⟨c, o, ec, ho, mo⟩ := h.mo hm
      cases ec
      exact ⟨o, ho, mo⟩
    · obtain ⟨o, q, mo⟩ := R.so b s
      exact ⟨o, k b o z q, mo⟩
/-- the lists behind the slots are forgotten -/
theorem Rel.cut (n : Nat) (R : Rel S env as ς H) (hn : ∀ (j : Nat) x, env[j]? = some x → n ≤ j → ∀ d, x ≠ .mt d) : Rel S (env.take n) (as.take n) (ς.take n) H ∧ ExtS S as H (as.take n) H := by
  have hs : ∀ b, some b ∈ as.take n → some b ∈ as := fun b m => List.mem_of_mem_take m
  have at' : ∀ {j : Nat} {y : Option Addr}, (as.take n)[j]? = some y → as[j]? = some y ∧ j < n := fun {j y} e => by
    rw [List.getElem?_take] at e
    split at e
    · exact ⟨e, by assumption⟩
    · cases e
  have hE : ExtS S as H (as.take n) H := by
    refine ⟨fun _ _ _ e => e, fun a h => .inl (hs a h), fun _ h => h, fun j a s e => ?_⟩
    by_cases hj : j < n
    · rw [List.getElem?_take_of_lt hj]
      exact e
    · obtain ⟨d, z, _⟩ := R.own_at e
      rcases z with ⟨_, z⟩ | ⟨z, _⟩
      · exact absurd s z
      · exact absurd rfl (hn j _ z (by omega) d)
  refine ⟨⟨by simp [R.lenA], by simp [R.lenS], fun j x e => ?_, fun j k b e1 e2 => R.inj j k b (at' e1).1 (at' e2).1, R.so⟩, hE⟩
  have e' : env[j]? = some x ∧ j < n := by
    rw [List.getElem?_take] at e
    split at e
    · exact ⟨e, by assumption⟩
    · cases e
  obtain ⟨oa, e1, ok⟩ := R.slot j x e'.1
  refine ⟨oa, by rw [List.getElem?_take_of_lt e'.2]; exact e1, ?_⟩
  have hv : ∀ {v : V}, vl ς j = some v → vl (ς.take n) j = some v := fun {v} h => by
    unfold vl at h ⊢
    rw [List.getElem?_take_of_lt e'.2]
    exact h
  have hl : ∀ b, So S (as.take n) b → So S as b := fun b m => m.elim .inl fun m => .inr (hs b m)
  cases x with
  | no => exact ok
  | dat d =>
    obtain ⟨h1, v, h2, h3⟩ := ok
    exact ⟨h1, v, hv h2, h3.less hl⟩
  | raw u => exact ⟨ok.1, hv ok.2⟩
  | xc a d fs => exact ⟨ok.1, hv ok.2.1, ok.2.2.1.less hl, fun b e m => ok.2.2.2 b e (hs b m)⟩
  | rd d =>
    obtain ⟨h1, a, h2, h3, h4, h5⟩ := ok
    exact ⟨h1, a, hv h2, fun m => h3 (hs a m), h4, h5.less hl⟩
  | own d =>
    obtain ⟨a, h1, h2, h3, h4, h5⟩ := ok
    exact ⟨a, h1, hv h2, h3, h4, h5.less hl⟩
  | mt d =>
    obtain ⟨a, h1, h2, h3, h4, h5⟩ := ok
    exact ⟨a, h1, hv h2, h3, h4, h5.less hl⟩
end
end Sl
namespace Sl
open PySem PySem.Spec PyProof.Rows L2
section
variable {S : Addr → Prop} {as as0 : List (Option Addr)} {H H0 : Hp} {ς ς0 : L2.St} {env env0 : JEnv}
theorem Rel.cutTo (R0 : Rel S env0 as0 ς0 H0) (x : ExtS S as0 H0 as H) (R : Rel S env as ς H) : Rel S (env.take env0.length) (as.take env0.length) (ς.take env0.length) H ∧ ExtS S as H (as.take env0.length) H := by
  refine R.cut _ fun j y e hj d ey => ?_
  subst ey
  obtain ⟨oa, e1, a, rfl, h2, h3, h4, h5⟩ := R.slot j _ e
  rcases x.nw a (List.mem_of_getElem? e1) with z | z
  · obtain ⟨k, ek⟩ := List.mem_iff_getElem?.mp z
    have := R.inj _ _ _ e1 (x.st k a h3 ek)
    have hk := (List.getElem?_eq_some_iff.mp ek).1
    have := R0.lenA
    omega
  · obtain ⟨o, q, _⟩ := R0.so a h3
    rw [z] at q
    cases q
end
/-! ### the judgements -/
inductive EK where
  | mk (cls : Str) (fs : List (Str × PyData))
inductive Rs (α : Type) where
  | ok (a : α) (e : JEnv)
  | ex (k : EK) (e : JEnv)
abbrev Mo (α : Type) := JEnv → Option (Rs α)
def bnd {α β : Type} (m : Mo α) (f : α → Mo β) : Mo β := fun e => match m e with
  | some (.ok a e1) => f a e1
  | some (.ex k e1) => some (.ex k e1)
  | none => none
def pur {α : Type} (a : α) : Mo α := fun e => some (.ok a e)
def ExcAt (mg : Str → Option Value) (T : Addr → Prop) (H : Hp) (cls : Value) (d : Option Addr) : EK → Prop
  | .mk x fs => ∃ C : Addr, mg x = some (.ref C) ∧ cls = .ref C ∧ Fld T H d fs
def OkX (X : Cx) (W : L2.WX) (S : Addr → Prop) (as : List (Option Addr)) (σ τ : L2.St) (H : Hp) {α : Type} (r : Rs α) : Prop :=
  ∀ k e', r = .ex k e' → ∀ as' H' τ' cls d, Rel S e' as' (σ ++ τ') H' → ExtS S as H as' H' → τ <+: τ' → ExcAt X.mg (So S as') H' cls d k → W cls d σ H'
def OkV (S : Addr → Prop) (as : List (Option Addr)) (σ τ : L2.St) (H : Hp) {α β : Type} (VR : (Addr → Prop) → List (Option Addr) → Hp → L2.St → β → α → Prop) (Q : β → Hp → Prop) (r : Rs α) : Prop :=
  ∀ a e', r = .ok a e' → ∀ as' H' τ' v, Rel S e' as' (σ ++ τ') H' → ExtS S as H as' H' → τ <+: τ' → VR S as' H' (σ ++ τ') v a → Q v H'
section
variable {X : Cx} {W : L2.WX} {S : Addr → Prop} {as as1 : List (Option Addr)} {σ τ τ1 : L2.St} {H H1 : Hp} {α β : Type} {VR : (Addr → Prop) → List (Option Addr) → Hp → L2.St → β → α → Prop} {Q : β → Hp → Prop} {r : Rs α}
theorem OkX.step (x : ExtS S as H as1 H1) (p : τ <+: τ1) (h : OkX X W S as σ τ H r) : OkX X W S as1 σ τ1 H1 r := fun k e' er as' H' τ' cls d R e q => h k e' er as' H' τ' cls d R (x.trans e) (p.trans q)
theorem OkV.step (x : ExtS S as H as1 H1) (p : τ <+: τ1) (h : OkV S as σ τ H VR Q r) : OkV S as1 σ τ1 H1 VR Q r := fun a e' er as' H' τ' v R e q => h a e' er as' H' τ' v R (x.trans e) (p.trans q)
end
@[irreducible] def wE (X : Cx) (e : Expr) : TE := fun σ H Q => ∀ (pins : List (Addr × Obj)) (s : Shared), Inv X pins σ H s → wpAny (model X.prog X.w) X.A (eval e X.env) (EP X pins σ Q) X.xe s
@[irreducible] def wT (X : Cx) (e : Expr) : TT := fun σ H Q => ∀ (pins : List (Addr × Obj)) (s : Shared), Inv X pins σ H s → wpAny (model X.prog X.w) X.A (isTrue e X.env (eval e X.env)) (TP X pins σ Q) X.xe s
@[irreducible] def wW (X : Cx) (e : Expr) : TT := fun σ H Q => ∀ (whole : Sem Value) (pins : List (Addr × Obj)) (s : Shared), Inv X pins σ H s → wpAny (model X.prog X.w) X.A (isTrue e X.env whole) (TP X pins σ Q) X.xe s
@[irreducible] def wA (X : Cx) (es : List Expr) : TA := fun σ H Q => ∀ (pos : Pos) (pins : List (Addr × Obj)) (s : Shared), Inv X pins σ H s → wpAny (model X.prog X.w) X.A (spliced (backTo pos (starEach es X.env))) (AP X pins σ Q) X.xe s
section
variable {X : Cx} {e : Expr} {es : List Expr} {te : TE} {tt : TT} {ta : TA} {σ : L2.St} {H : Hp}
theorem pe_w : PE X e (wE X e) := by unfold wE; exact ⟨fun pins s _ _ _ I h => h pins s I⟩
theorem pt_w : PT X e (wT X e) := by unfold wT; exact ⟨fun pins s _ _ _ I h => h pins s I⟩
theorem pw_w : PW X e (wW X e) := by unfold wW; exact ⟨fun wh pins s _ _ _ I h => h wh pins s I⟩
theorem pa_w : PA X es (wA X es) := by unfold wA; exact ⟨fun pos pins s _ _ _ I h => h pos pins s I⟩
theorem PE.w {Q : VK} (h : PE X e te) (q : te σ H Q) : wE X e σ H Q := by unfold wE; exact fun pins s I => h.run pins s σ H Q I q
theorem PT.w {Q : Bool → Hp → Prop} (h : PT X e tt) (q : tt σ H Q) : wT X e σ H Q := by unfold wT; exact fun pins s I => h.run pins s σ H Q I q
theorem PW.w {Q : Bool → Hp → Prop} (h : PW X e tt) (q : tt σ H Q) : wW X e σ H Q := by unfold wW; exact fun wh pins s I => h.run wh pins s σ H Q I q
theorem PA.w {Q : List V → Hp → Prop} (h : PA X es ta) (q : ta σ H Q) : wA X es σ H Q := by unfold wA; exact fun pos pins s I => h.run pos pins s σ H Q I q
end
def VB (_ : Addr → Prop) (_ : List (Option Addr)) (_ : Hp) (_ : L2.St) (v b : Bool) : Prop := v = b
/-- a part of the code by its wish, and a plain function: whenever the function has an answer, the code gives it -/
def Jw (X : Cx) (W : L2.WX) {α β : Type} (VR : (Addr → Prop) → List (Option Addr) → Hp → L2.St → β → α → Prop) (w : L2.St → Hp → (β → Hp → Prop) → Prop) (f : Mo α) : Prop :=
  ∀ (S : Addr → Prop) (env : JEnv) (as : List (Option Addr)) (σ τ : L2.St) (H : Hp) (Q : β → Hp → Prop), Rel S env as (σ ++ τ) H → ∀ r, f env = some r → OkX X W S as σ τ H r → OkV S as σ τ H VR Q r → w σ H Q
abbrev JE (X : Cx) (W : L2.WX) (e : Expr) (f : Mo AV) : Prop := Jw X W VA (wE X e) f
abbrev JT (X : Cx) (W : L2.WX) (e : Expr) (f : Mo Bool) : Prop := Jw X W VB (wT X e) f
abbrev JW (X : Cx) (W : L2.WX) (e : Expr) (f : Mo Bool) : Prop := Jw X W VB (wW X e) f
abbrev JA (X : Cx) (W : L2.WX) (es : List Expr) (f : Mo (List AV)) : Prop := Jw X W VAs (wA X es) f
/-- a part, then what follows it -/
theorem Jw.use {X : Cx} {W : L2.WX} {α β γ : Type} {VR : (Addr → Prop) → List (Option Addr) → Hp → L2.St → β → α → Prop} {w : L2.St → Hp → (β → Hp → Prop) → Prop} {f : Mo α} {k : α → Mo γ} {r : Rs γ}
    {S : Addr → Prop} {env : JEnv} {as : List (Option Addr)} {σ τ : L2.St} {H : Hp} {Q : β → Hp → Prop} (h : Jw X W VR w f) (R : Rel S env as (σ ++ τ) H) (hf : bnd f k env = some r) (hx : OkX X W S as σ τ H r)
    (hk : ∀ a e1 as1 H1 τ1 v, k a e1 = some r → Rel S e1 as1 (σ ++ τ1) H1 → ExtS S as H as1 H1 → τ <+: τ1 → VR S as1 H1 (σ ++ τ1) v a → Q v H1) : w σ H Q := by
  unfold bnd at hf
  cases h1 : f env with
  | none => rw [h1] at hf; cases hf
  | some r1 =>
    rw [h1] at hf
    refine h S env as σ τ H Q R r1 h1 (fun kk e' er => ?_) fun a e' er => ?_
    · subst er
      exact hx kk e' (Option.some.inj hf).symm
    · subst er
      exact fun as' H' τ' v R' x p => hk a e' as' H' τ' v hf R' x p
/-! ### results -/
inductive RV where
  | dat (d : PyData) | fre (d : PyData) | raw (v : V)
def mkR (r : RV) : Mo AV := fun e => match r with
  | .dat d => some (.ok (.dat d) e)
  | .fre d => some (.ok (.nam e.length) (e ++ [.own d]))
  | .raw v => some (.ok (.raw v) e)
def ResV (U : Addr → Prop) (H H' : Hp) (v : V) : RV → Prop
  | .dat d => Da U H' v d
  | .fre d => ∃ p, v = .ref p ∧ H p = none ∧ isM d = true ∧ Dr (fun a => U a ∨ a = p) H' (.ref p) d
  | .raw u => v = u
section
variable {X : Cx} {W : L2.WX} {S : Addr → Prop} {env : JEnv} {as : List (Option Addr)} {σ τ : L2.St} {H H1 : Hp} {Q : VK} {r : Rs AV} {v : V}
theorem fin_res {rv : RV} (R : Rel S env as (σ ++ τ) H) (hf : mkR rv env = some r) (hv : OkV S as σ τ H VA Q r) (k : Same H H1) (h : ResV (So S as) H H1 v rv) : Q v H1 := by
  cases rv with
  | dat d =>
    have hf' : some (Rs.ok (AV.dat d) env) = some r := hf
    exact hv _ _ (Option.some.inj hf').symm as H1 τ v (R.same k) (.grow k) (List.prefix_refl _) h
  | raw u =>
    have hf' : some (Rs.ok (AV.raw u) env) = some r := hf
    exact hv _ _ (Option.some.inj hf').symm as H1 τ v (R.same k) (.grow k) (List.prefix_refl _) h
  | fre d =>
    have hf' : some (Rs.ok (AV.nam env.length) (env ++ [.own d])) = some r := hf
    obtain ⟨p, rfl, hp, m, z⟩ := h
    have R1 := R.push k hp m z
    refine hv _ _ (Option.some.inj hf').symm (as ++ [some p]) H1 (τ ++ [some (.ref p)]) _ (by rw [← List.append_assoc]; exact R1) (.push k hp) (List.prefix_append _ _) ?_
    show vl (σ ++ (τ ++ [some (V.ref p)])) env.length = some (.ref p)
    rw [← List.append_assoc, ← R.lenS]
    unfold vl
    simp
end
/-- a two-place operation by data -/
def OpJ (X : Cx) (f : Value → Value → Sem Value) (op : PyData → PyData → Option RV) : Prop :=
  ∀ (U : Addr → Prop) (H : Hp) (x y : V) (c d : PyData) (rv : RV) (Q : VK), (∀ a, U a → ∃ o, H a = some o ∧ isMO o) → Dr U H x c → Dr U H y d → op c d = some rv → (∀ v H', Same H H' → ResV U H H' v rv → Q v H') →
    ∀ (pins : List (Addr × Obj)) (s : Shared) (σ : L2.St) (v u : Value), Inv X pins σ H s → RelV x v → RelV y u → wpAny (model X.prog X.w) X.A (f v u) (EP X pins σ Q) X.xe s
def wOp (X : Cx) (f : Value → Value → Sem Value) : R2 := fun x y H Q => ∀ (pins : List (Addr × Obj)) (s : Shared) (σ : L2.St) (v u : Value), Inv X pins σ H s → RelV x v → RelV y u → wpAny (model X.prog X.w) X.A (f v u) (EP X pins σ Q) X.xe s
theorem op_w {X : Cx} {f : Value → Value → Sem Value} : OpR X f (wOp X f) := fun pins s σ _ _ _ v u _ I rx ry h => h pins s σ v u I rx ry
theorem OpJ.of {X : Cx} {f : Value → Value → Sem Value} {op : PyData → PyData → Option RV} {r : R2} (h : OpR X f r)
    (g : ∀ (U : Addr → Prop) (H : Hp) (x y : V) (c d : PyData) (rv : RV) (Q : VK), (∀ a, U a → ∃ o, H a = some o ∧ isMO o) → Dr U H x c → Dr U H y d → op c d = some rv → (∀ v H', Same H H' → ResV U H H' v rv → Q v H') → r x y H Q) : OpJ X f op :=
  fun U H x y c d rv Q hU hc hd ho q pins s σ v u I rx ry => h pins s σ H x y v u Q I rx ry (g U H x y c d rv Q hU hc hd ho q)
/-- either rule -/
theorem OpJ.alt {X : Cx} {f : Value → Value → Sem Value} {o1 o2 : PyData → PyData → Option RV} (h1 : OpJ X f o1) (h2 : OpJ X f o2) : OpJ X f (fun c d => match o1 c d with | some r => some r | none => o2 c d) := by
  intro U H x y c d rv Q hU hc hd ho q
  cases e : o1 c d with
  | some r =>
    have ho' : (match o1 c d with | some r => some r | none => o2 c d) = some rv := ho
    rw [e] at ho'
    cases ho'
    exact h1 U H x y c d _ Q hU hc hd e q
  | none =>
    have ho' : (match o1 c d with | some r => some r | none => o2 c d) = some rv := ho
    rw [e] at ho'
    exact h2 U H x y c d _ Q hU hc hd ho' q
def fin2 (op : PyData → PyData → Option RV) (a b : AV) : Mo AV := fun e => match lk e a, lk e b with
  | some c, some d => match op c d with
    | some rv => mkR rv e
    | none => none
  | _, _ => none
theorem fin2_eq {op : PyData → PyData → Option RV} {a b : AV} {e : JEnv} {r : Rs AV} (h : fin2 op a b e = some r) : ∃ c d rv, lk e a = some c ∧ lk e b = some d ∧ op c d = some rv ∧ mkR rv e = some r := by
  unfold fin2 at h
  cases h1 : lk e a with
  | none => rw [h1] at h; cases h
  | some c =>
    cases h2 : lk e b with
    | none => rw [h1, h2] at h; cases h
    | some d =>
      rw [h1, h2] at h
      have h' : (match op c d with | some rv => mkR rv e | none => none) = some r := h
      cases h3 : op c d with
      | none => rw [h3] at h'; cases h'
      | some rv => rw [h3] at h'; exact ⟨c, d, rv, rfl, rfl, h3, h'⟩
def eBin (op : PyData → PyData → Option RV) (a b : Mo AV) : Mo AV := bnd a fun x => bnd b fun y => fin2 op x y
section
variable {X : Cx} {W : L2.WX} {a b : Expr} {fa fb : Mo AV} {pos : Pos}
theorem fin2_ok {S : Addr → Prop} {env : JEnv} {as : List (Option Addr)} {σ τ : L2.St} {H : Hp} {Q : VK} {r : Rs AV} {f : Value → Value → Sem Value} {op : PyData → PyData → Option RV} {x y : V} {u v : AV} (ho : OpJ X f op) (R : Rel S env as (σ ++ τ) H)
    (hx : VA S as H (σ ++ τ) x u) (hy : VA S as H (σ ++ τ) y v) (hf : fin2 op u v env = some r) (hv : OkV S as σ τ H VA Q r) : wOp X f x y H Q := by
  obtain ⟨c, d, rv, h1, h2, h3, h4⟩ := fin2_eq hf
  exact ho (So S as) H x y c d rv Q R.mo (hx.lk R h1) (hy.lk R h2) h3 fun v H' k z => fin_res R h4 hv k z
theorem j_bin {op : Operator} {o : PyData → PyData → Option RV} (ho : OpJ X (binaryOp op) o) (ha : JE X W a fa) (hb : JE X W b fb) : JE X W (.BinOp a op b pos) (eBin o fa fb) := by
  intro S env as σ τ H Q R r hf hx hv
  refine PE.w (pe_op op_w pe_w pe_w) (ha.use R hf hx fun u e1 as1 H1 τ1 x hf1 R1 E1 p1 V1 => ?_)
  refine hb.use R1 hf1 (hx.step E1 p1) fun v e2 as2 H2 τ2 y hf2 R2 E2 p2 V2 => ?_
  exact fin2_ok ho R2 (V1.ext E2 ((List.prefix_append_right_inj _).mpr p2)) V2 hf2 (hv.step (E1.trans E2) (p1.trans p2))
theorem j_cmp {op : CmpOp} {o : PyData → PyData → Option RV} (ho : OpJ X (compareOp op) o) (ha : JE X W a fa) (hb : JE X W b fb) (hm : behindInMarks op b = false) : JE X W (.Compare a [op] [b] pos) (eBin o fa fb) := by
  intro S env as σ τ H Q R r hf hx hv
  refine PE.w (pe_cmpR op_w pe_w pe_w hm) (ha.use R hf hx fun u e1 as1 H1 τ1 x hf1 R1 E1 p1 V1 => ?_)
  refine hb.use R1 hf1 (hx.step E1 p1) fun v e2 as2 H2 τ2 y hf2 R2 E2 p2 V2 => ?_
  exact fin2_ok ho R2 (V1.ext E2 ((List.prefix_append_right_inj _).mpr p2)) V2 hf2 (hv.step (E1.trans E2) (p1.trans p2))
end
end Sl
set_option Elab.async false
set_option linter.all false
set_option maxRecDepth 100000
set_option maxHeartbeats 4000000
namespace Sl
open PySem PySem.Spec PyProof.Rows L2
/-! ### operations on data -/
abbrev D := PyData
def iB (b : Bool) : RV := .dat (.bool b)
def iI (i : Int) : RV := .dat (.int i)
def oAdd : D → D → Option RV
  | .int a, .int b => some (.dat (.int (a + b)))
  | .str a, .str b => if a.length + b.length ≤ sizeLine then some (.dat (.str (a ++ b))) else none
  | .list a, .list b => if a.length + b.length ≤ sizeLine then some (.fre (.list (a ++ b))) else none
  | .tuple a, .tuple b => if a.length + b.length ≤ sizeLine then some (.dat (.tuple (a ++ b))) else none
  | _, _ => none
def oSub : D → D → Option RV
  | .int a, .int b => some (.dat (.int (a - b)))
  | _, _ => none
def mulOk (a b : Int) : Bool := decide (a.natAbs.log2 + b.natAbs.log2 < 1000000)
def oMul : D → D → Option RV
  | .int a, .int b => if mulOk a b then some (.dat (.int (a * b))) else none
  | .list a, .int k => if -(2 ^ 63) ≤ k ∧ k < 2 ^ 63 ∧ a.length * k.toNat ≤ sizeLine then some (.fre (.list (List.replicate k.toNat a).flatten)) else none
  | .tuple a, .int k => if a ≠ [] ∧ 2 ≤ k ∧ k ≤ 1000 ∧ a.length ≤ 1000 then some (.dat (.tuple (List.replicate k.toNat a).flatten)) else none
  | _, _ => none
def oMod : D → D → Option RV
  | .int a, .int b => if 0 < b then some (.dat (.int (a % b))) else none
  | _, _ => none
def oDiv : D → D → Option RV
  | .int a, .int b => if 0 < b ∧ b.natAbs.log2 < 9000 then some (.dat (.int (a / b))) else none
  | _, _ => none
def oPow : D → D → Option RV
  | .int a, .int b => if 0 ≤ b ∧ b ≤ 1000000 ∧ a.natAbs < 2 ^ 64 then some (.dat (.int (a ^ b.toNat))) else none
  | _, _ => none
def oLt : D → D → Option RV
  | .int a, .int b => some (iB (decide (a < b)))
  | _, _ => none
def oLe : D → D → Option RV
  | .int a, .int b => some (iB (decide (a ≤ b)))
  | _, _ => none
def oGt : D → D → Option RV
  | .int a, .int b => some (iB (decide (b < a)))
  | _, _ => none
def oGe : D → D → Option RV
  | .int a, .int b => some (iB (decide (b ≤ a)))
  | _, _ => none
def eqOk (c d : D) : Bool := c.canLay0 && d.canLay0 && decide (min c.depth d.depth ≤ 60)
def oEq (c d : D) : Option RV := if eqOk c d then some (iB (PyData.eqv c d)) else none
def oNe (c d : D) : Option RV := if eqOk c d then some (iB (!PyData.eqv c d)) else none
def isNoneD : D → Bool
  | .none => true
  | _ => false
/-- x is None: the right one is written None -/
def oIs (c _ : D) : Option RV := some (iB (isNoneD c))
def oIsNot (c _ : D) : Option RV := some (iB (!isNoneD c))
def inOk (c : D) (ds : List D) : Bool := c.canLay0 && PyData.canLayAll0 ds && decide (min (PyData.depthAll ds) c.depth ≤ 64)
def keyD : D → Option Key
  | .int i => some (.inl i)
  | .str x => some (.inr x)
  | _ => none
def isKey (k : Key) : D → Bool
  | .int i => decide (k = .inl i)
  | .str x => decide (k = .inr x)
  | _ => false
def dGet : List (D × D) → Key → Option D
  | [], _ => none
  | (a, v) :: r, k => if isKey k a then some v else dGet r k
def oIn : D → D → Option RV
  | .str c, .str z => match c.cps.toList with
    | [n] => some (iB (decide (n ∈ z.cps.toList)))
    | _ => none
  | c, .list ds => if inOk c ds then some (iB (ds.any fun z => PyData.eqv z c)) else none
  | c, .tuple ds => if inOk c ds then some (iB (ds.any fun z => PyData.eqv z c)) else none
  | c, .dict kvs => match keyD c with
    | some k => some (iB (dGet kvs k).isSome)
    | none => none
  | _, _ => none
def nB : RV → RV
  | .dat (.bool b) => .dat (.bool (!b))
  | r => r
def oNotIn (c d : D) : Option RV := (oIn c d).map nB

section
variable {U : Addr → Prop} {H H' : Hp} {x : V}
theorem Dr.getI {i : Int} (h : Dr U H x (.int i)) : x = .int i := by
  cases h
  rfl
theorem Dr.getS {z : Str} (h : Dr U H x (.str z)) : x = .str z := by
  cases h
  rfl
theorem Dr.getB {b : Bool} (h : Dr U H x (.bool b)) : x = .bl b := by
  cases h
  rfl
theorem Dr.getL {ds : List D} (h : Dr U H x (.list ds)) : ∃ a xs, x = .ref a ∧ H a = some (.lst xs) ∧ DaAll U H xs ds := by
  cases h with
  | lst h c => exact ⟨_, _, rfl, h, c⟩
theorem Dr.getT {ds : List D} (h : Dr U H x (.tuple ds)) : ∃ a xs, x = .ref a ∧ H a = some (.tup xs) ∧ DaAll U H xs ds := by
  cases h with
  | tup h c => exact ⟨_, _, rfl, h, c⟩
theorem Dr.getD {kds : List (D × D)} (h : Dr U H x (.dict kds)) : ∃ (a : Addr) (kvs : List (Key × V)) (ds : List D), x = .ref a ∧ H a = some (.dK kvs) ∧ DaAll U H (kvs.map (·.2)) ds ∧ kds = (kvs.map fun p => kD p.1).zip ds := by
  cases h with
  | dct h c => exact ⟨_, _, _, rfl, h, c, rfl⟩
/-- a new list -/
theorem res_lst {p : Addr} {xs : List V} {ds : List D} (hp : H p = none) (h : DaAll U H xs ds) : ResV U H (upd H p (.lst xs)) (.ref p) (.fre (.list ds)) :=
  ⟨p, rfl, hp, rfl, .lst upd_same ((h.moreP (U := fun a => a = p) fun a e => by rw [e]; exact hp).same fun b o e => by rw [upd_ne (ne_of_none e hp)]; exact e)⟩
theorem res_tup {p : Addr} {xs : List V} {ds : List D} (hU : ∀ a, U a → ∃ o, H a = some o ∧ isMO o) (hp : H p = none) (h : DaAll U H xs ds) : ResV U H (upd H p (.tup xs)) (.ref p) (.dat (.tuple ds)) :=
  Da.tup (fun u => by
    obtain ⟨o, e, _⟩ := hU p u
    rw [hp] at e
    cases e) upd_same (h.same fun b o e => by rw [upd_ne (ne_of_none e hp)]; exact e)
theorem same_upd {p : Addr} {o : HO} (hp : H p = none) : Same H (upd H p o) := fun b u e => by
  rw [upd_ne (ne_of_none e hp)]
  exact e
theorem DaAll.flat {xs : List V} {ds : List D} (h : DaAll U H xs ds) : ∀ n : Nat, DaAll U H (List.replicate n xs).flatten (List.replicate n ds).flatten
  | 0 => .nil
  | n + 1 => by
    rw [List.replicate_succ, List.replicate_succ, List.flatten_cons, List.flatten_cons]
    exact h.append (h.flat n)
end
section
variable {X : Cx}
/-- two ints in, a value without a heap out -/
theorem opj_int {f : Value → Value → Sem Value} {C : Int → Int → Prop} {g : Int → Int → V} {op : D → D → Option RV} (h : OpR X f (rI C g))
    (ho : ∀ c d rv, op c d = some rv → ∃ i j, c = .int i ∧ d = .int j ∧ C i j ∧ ∀ (U : Addr → Prop) (H : Hp), ResV U H H (g i j) rv) : OpJ X f op :=
  .of h fun U H x y c d rv Q _ hc hd e q => by
    obtain ⟨i, j, rfl, rfl, hC, hr⟩ := ho c d rv e
    exact ⟨i, j, hc.getI, hd.getI, hC, q _ H (Same.refl H) (hr U H)⟩
theorem opj_int0 {f : Value → Value → Sem Value} {g : Int → Int → V} {op : D → D → Option RV} (h : OpR X f (rI0 g))
    (ho : ∀ c d rv, op c d = some rv → ∃ i j, c = .int i ∧ d = .int j ∧ ∀ (U : Addr → Prop) (H : Hp), ResV U H H (g i j) rv) : OpJ X f op :=
  .of h fun U H x y c d rv Q _ hc hd e q => by
    obtain ⟨i, j, rfl, rfl, hr⟩ := ho c d rv e
    exact ⟨i, j, hc.getI, hd.getI, q _ H (Same.refl H) (hr U H)⟩
theorem opj_sub : OpJ X (binaryOp .Sub) oSub := opj_int0 op_sub fun c d rv e => by
  cases c <;> cases d <;> simp [oSub] at e
  subst e
  exact ⟨_, _, rfl, rfl, fun _ _ => .int _⟩
theorem opj_lt : OpJ X (compareOp .Lt) oLt := opj_int0 op_lt fun c d rv e => by
  cases c <;> cases d <;> simp [oLt, iB] at e
  subst e
  exact ⟨_, _, rfl, rfl, fun _ _ => .bl _⟩
theorem opj_le : OpJ X (compareOp .LtE) oLe := opj_int0 op_le fun c d rv e => by
  cases c <;> cases d <;> simp [oLe, iB] at e
  subst e
  exact ⟨_, _, rfl, rfl, fun _ _ => .bl _⟩
theorem opj_gt : OpJ X (compareOp .Gt) oGt := opj_int0 op_gt fun c d rv e => by
  cases c <;> cases d <;> simp [oGt, iB] at e
  subst e
  exact ⟨_, _, rfl, rfl, fun _ _ => .bl _⟩
theorem opj_ge : OpJ X (compareOp .GtE) oGe := opj_int0 op_ge fun c d rv e => by
  cases c <;> cases d <;> simp [oGe, iB] at e
  subst e
  exact ⟨_, _, rfl, rfl, fun _ _ => .bl _⟩
theorem opj_mod : OpJ X (binaryOp .Mod) oMod := opj_int op_mod fun c d rv e => by
  cases c <;> cases d <;> simp [oMod] at e
  obtain ⟨h, rfl⟩ := e
  exact ⟨_, _, rfl, rfl, h, fun _ _ => .int _⟩
theorem opj_div : OpJ X (binaryOp .FloorDiv) oDiv := opj_int op_fdivW fun c d rv e => by
  cases c <;> cases d <;> simp [oDiv] at e
  obtain ⟨h, rfl⟩ := e
  exact ⟨_, _, rfl, rfl, h, fun _ _ => .int _⟩
theorem opj_pow : OpJ X (binaryOp .Pow) oPow := opj_int op_pow fun c d rv e => by
  cases c <;> cases d <;> simp [oPow] at e
  obtain ⟨h, rfl⟩ := e
  exact ⟨_, _, rfl, rfl, h, fun _ _ => .int _⟩
theorem opj_add : OpJ X (binaryOp .Add) oAdd := by
  intro U H x y c d rv Q hU hc hd ho q pins s σ v u I rx ry
  cases c <;> cases d <;> simp [oAdd] at ho
  case int.int a b =>
    subst ho
    exact op_add pins s σ H x y v u Q I rx ry ⟨a, b, hc.getI, hd.getI, q _ H (Same.refl H) (.int _)⟩
  case str.str a b =>
    obtain ⟨h, rfl⟩ := ho
    exact op_add_str pins s σ H x y v u Q I rx ry ⟨a, b, hc.getS, hd.getS, h, q _ H (Same.refl H) (.str _)⟩
  case list.list a b =>
    obtain ⟨h, rfl⟩ := ho
    obtain ⟨p, xs, ex, hp, ax⟩ := hc.getL
    obtain ⟨p', ys, ey, hp', ay⟩ := hd.getL
    refine op_cat pins s σ H x y v u Q I rx ry ⟨p, p', xs, ys, ex, ey, hp, hp', by rw [ax.length, ay.length]; exact h, fun l hl => q _ _ (same_upd hl) (res_lst hl (ax.append ay))⟩
  case tuple.tuple a b =>
    obtain ⟨h, rfl⟩ := ho
    obtain ⟨p, xs, ex, hp, ax⟩ := hc.getT
    obtain ⟨p', ys, ey, hp', ay⟩ := hd.getT
    refine op_catA pins s σ H x y v u Q I rx ry ⟨p, p', xs, ys, ex, ey, SqT.of hp, SqT.of hp', by rw [ax.length, ay.length]; exact h, fun e => ?_, fun _ e => ?_, fun _ _ l hl => q _ _ (same_upd hl) (res_tup hU hl (ax.append ay))⟩
    · subst e
      cases ax
      subst ey
      exact q _ H (Same.refl H) (hd.daN rfl hU)
    · subst e
      cases ay
      subst ex
      refine q _ H (Same.refl H) ?_
      rw [List.append_nil]
      exact hc.daN rfl hU
theorem mulOk_w {a b : Int} (h : mulOk a b = true) : CMulW a b := by
  unfold mulOk at h
  show a.natAbs.log2 + b.natAbs.log2 < 1000000
  exact of_decide_eq_true h
theorem opj_mul : OpJ X (binaryOp .Mult) oMul := by
  intro U H x y c d rv Q hU hc hd ho q pins s σ v u I rx ry
  cases c <;> cases d <;> simp only [oMul, Option.ite_none_right_eq_some, Option.some.injEq] at ho <;> try (simp at ho; done)
  case int.int a b =>
    obtain ⟨h, rfl⟩ := ho
    exact op_mulW pins s σ H x y v u Q I rx ry ⟨a, b, hc.getI, hd.getI, mulOk_w h, q _ H (Same.refl H) (.int _)⟩
  case list.int a b =>
    obtain ⟨⟨h1, h2, h3⟩, rfl⟩ := ho
    obtain ⟨p, xs, ex, hp, ax⟩ := hc.getL
    exact op_rep pins s σ H x y v u Q I rx ry ⟨p, b, xs, ex, hd.getI, hp, h1, h2, by rw [ax.length]; exact h3, fun l hl => q _ _ (same_upd hl) (res_lst hl (ax.flat _))⟩
  case tuple.int a b =>
    obtain ⟨⟨h0, h1, h2, h3⟩, rfl⟩ := ho
    obtain ⟨p, xs, ex, hp, ax⟩ := hc.getT
    refine op_repT pins s σ H x y v u Q I rx ry ⟨p, b, xs, ex, hd.getI, SqT.of hp, fun e => ?_, h1, h2, by rw [ax.length]; exact h3, fun l hl => q _ _ (same_upd hl) (res_tup hU hl (ax.flat _))⟩
    subst e
    cases ax
    exact h0 rfl
theorem opj_eq (hu : X.A.units + 64 < cLine) : OpJ X (compareOp .Eq) oEq := by
  refine .of (op_eqA hu) fun U H x y c d rv Q _ hc hd ho q => ?_
  unfold oEq eqOk at ho
  split at ho
  · rename_i h
    rw [Bool.and_eq_true, Bool.and_eq_true] at h
    cases ho
    exact ⟨fun _ => False, c, d, hc.read, hd.read, h.1.1, h.1.2, of_decide_eq_true h.2, q _ H (Same.refl H) (.bl _)⟩
  · cases ho
theorem opj_ne (hu : X.A.units + 64 < cLine) : OpJ X (compareOp .NotEq) oNe := by
  intro U H x y c d rv Q hU hc hd ho q pins s σ v u I rx ry
  unfold oNe eqOk at ho
  split at ho
  · rename_i h
    rw [Bool.and_eq_true, Bool.and_eq_true] at h
    cases ho
    have h3 : min c.depth d.depth ≤ 60 := of_decide_eq_true h.2
    obtain ⟨as, r1, _⟩ := Da.reads I hc.read rx
    obtain ⟨bs, r2, _⟩ := Da.reads I hd.read ry
    exact SeqAt.compareNe_reads r1 r2 h.1.1 h.1.2 (by omega) ⟨.bl _, H, I, rfl, q _ H (Same.refl H) (.bl _)⟩
  · cases ho
theorem isNone_iff {U : Addr → Prop} {H : Hp} {x : V} {c : D} (h : Dr U H x c) : decide (x = .non) = isNoneD c := by
  cases h <;> rfl
theorem opj_is : OpJ X (compareOp .Is) (fun c d => match d with | .none => oIs c d | _ => none) := by
  refine .of op_isN fun U H x y c d rv Q _ hc hd ho q => ?_
  cases d <;> simp [oIs, iB] at ho
  subst ho
  cases hd
  exact ⟨rfl, by rw [isNone_iff hc]; exact q _ H (Same.refl H) (.bl _)⟩
theorem opj_isnot : OpJ X (compareOp .IsNot) (fun c d => match d with | .none => oIsNot c d | _ => none) := by
  refine .of op_notN fun U H x y c d rv Q _ hc hd ho q => ?_
  cases d <;> simp [oIsNot, iB] at ho
  subst ho
  cases hd
  exact ⟨rfl, by rw [isNone_iff hc]; exact q _ H (Same.refl H) (.bl _)⟩
/-! ### dicts -/
theorem keyD_v {U : Addr → Prop} {H : Hp} {x : V} {c : D} {k : Key} (h : Dr U H x c) (e : keyD c = some k) : x = kV k := by
  cases h <;> cases e <;> rfl
theorem isKey_kD (k j : Key) : isKey k (kD j) = decide (k = j) := by
  cases j <;> rfl
theorem dGet_val {U : Addr → Prop} {H : Hp} : ∀ {kvs : List (Key × V)} {ds : List D} (k : Key), DaAll U H (kvs.map (·.2)) ds →
    (valV kvs k = none ∧ dGet ((kvs.map fun p => kD p.1).zip ds) k = none) ∨ ∃ v d, valV kvs k = some v ∧ dGet ((kvs.map fun p => kD p.1).zip ds) k = some d ∧ Da U H v d
  | [], _, k, _ => .inl ⟨rfl, by cases ‹DaAll U H _ _›; rfl⟩
  | (j, v) :: r, d :: ds, k, .cons h t => by
    show (valV ((j, v) :: r) k = none ∧ (if isKey k (kD j) then some d else dGet ((r.map fun p => kD p.1).zip ds) k) = none) ∨ ∃ v' d', valV ((j, v) :: r) k = some v' ∧ (if isKey k (kD j) then some d else dGet ((r.map fun p => kD p.1).zip ds) k) = some d' ∧ Da U H v' d'
    rw [isKey_kD]
    by_cases e : k = j
    · subst e
      refine .inr ⟨v, d, ?_, by simp, h⟩
      simp [valV]
    · have e2 : ¬ j = k := fun z => e z.symm
      rcases dGet_val (kvs := r) k t with ⟨h1, h2⟩ | ⟨v', d', h1, h2, h3⟩
      · refine .inl ⟨?_, by simp [e, h2]⟩
        unfold valV at h1 ⊢
        simp [e, e2] at h1 ⊢
        exact h1
      · refine .inr ⟨v', d', ?_, by simp [e, h2], h3⟩
        unfold valV at h1 ⊢
        simp [e, e2] at h1 ⊢
        exact h1
end

theorem one_sign {c : Str} {n : Nat} (h : c.cps.toList = [n]) : c = ⟨#[n]⟩ := by
  cases c with
  | mk a =>
    congr 1
    exact Array.toList_inj.mp (by simpa using h)
section
variable {X : Cx}
theorem oIn_ok {P : Bool → Prop} {U : Addr → Prop} {H : Hp} {x y : V} {c d : D} {rv : RV} {pins : List (Addr × Obj)} {s : Shared} {σ : L2.St} {v u : Value} {op : CmpOp} (hu : X.A.units + 70 < cLine) (hc : Dr U H x c) (hd : Dr U H y d)
    (I : L2.Inv X pins σ H s) (rx : L2.RelV x v) (ry : L2.RelV y u) (ho : oIn c d = some rv) :
    ∃ b, rv = iB b ∧ (∀ Q : Value → Shared → Prop, (∀ s', L2.Inv X pins σ H s' → Q (.bool b) s') → wpAny (model X.prog X.w) X.A (compareOp .In v u) Q X.xe s) ∧
      ∀ Q : Value → Shared → Prop, (∀ s', L2.Inv X pins σ H s' → Q (.bool (!b)) s') → wpAny (model X.prog X.w) X.A (compareOp .NotIn v u) Q X.xe s := by
  have lst : ∀ ds, d = .list ds → (if inOk c ds then some (iB (ds.any fun z => PyData.eqv z c)) else none) = some rv → ∃ b, rv = iB b ∧ (∀ Q : Value → Shared → Prop, (∀ s', L2.Inv X pins σ H s' → Q (.bool b) s') → wpAny (model X.prog X.w) X.A (compareOp .In v u) Q X.xe s) ∧
      ∀ Q : Value → Shared → Prop, (∀ s', L2.Inv X pins σ H s' → Q (.bool (!b)) s') → wpAny (model X.prog X.w) X.A (compareOp .NotIn v u) Q X.xe s := by
    intro ds e h
    subst e
    split at h
    · rename_i g
      cases h
      unfold inOk at g
      rw [Bool.and_eq_true, Bool.and_eq_true] at g
      have g3 : min (PyData.depthAll ds) c.depth ≤ 64 := of_decide_eq_true g.2
      obtain ⟨as, r1, _⟩ := Da.reads I hc.read rx
      obtain ⟨bs, r2, _⟩ := Da.reads I hd.read ry
      exact ⟨_, rfl, fun Q q => SeqAt.in_list_reads r2 r1 g.1.2 g.1.1 (by omega) (q s I), fun Q q => SeqAt.notIn_list_reads r2 r1 g.1.2 g.1.1 (by omega) (q s I)⟩
    · cases h
  have tup : ∀ ds, d = .tuple ds → (if inOk c ds then some (iB (ds.any fun z => PyData.eqv z c)) else none) = some rv → ∃ b, rv = iB b ∧ (∀ Q : Value → Shared → Prop, (∀ s', L2.Inv X pins σ H s' → Q (.bool b) s') → wpAny (model X.prog X.w) X.A (compareOp .In v u) Q X.xe s) ∧
      ∀ Q : Value → Shared → Prop, (∀ s', L2.Inv X pins σ H s' → Q (.bool (!b)) s') → wpAny (model X.prog X.w) X.A (compareOp .NotIn v u) Q X.xe s := by
    intro ds e h
    subst e
    split at h
    · rename_i g
      cases h
      unfold inOk at g
      rw [Bool.and_eq_true, Bool.and_eq_true] at g
      have g3 : min (PyData.depthAll ds) c.depth ≤ 64 := of_decide_eq_true g.2
      obtain ⟨as, r1, _⟩ := Da.reads I hc.read rx
      obtain ⟨bs, r2, _⟩ := Da.reads I hd.read ry
      exact ⟨_, rfl, fun Q q => SeqAt.in_tuple_reads r2 r1 g.1.2 g.1.1 (by omega) (q s I), fun Q q => SeqAt.notIn_tuple_reads r2 r1 g.1.2 g.1.1 (by omega) (q s I)⟩
    · cases h
  have dct : ∀ kds, d = .dict kds → (match keyD c with | some k => some (iB (dGet kds k).isSome) | none => none) = some rv → ∃ b, rv = iB b ∧ (∀ Q : Value → Shared → Prop, (∀ s', L2.Inv X pins σ H s' → Q (.bool b) s') → wpAny (model X.prog X.w) X.A (compareOp .In v u) Q X.xe s) ∧
      ∀ Q : Value → Shared → Prop, (∀ s', L2.Inv X pins σ H s' → Q (.bool (!b)) s') → wpAny (model X.prog X.w) X.A (compareOp .NotIn v u) Q X.xe s := by
    intro kds e h
    subst e
    cases hk : keyD c with
    | none => rw [hk] at h; cases h
    | some k =>
      rw [hk] at h
      obtain ⟨a, kvs, ds, rfl, hH, hA, rfl⟩ := hd.getD
      have hx := keyD_v hc hk
      subst hx
      cases ry
      have hv : (valV kvs k).isSome = (dGet ((kvs.map fun p => kD p.1).zip ds) k).isSome := by
        rcases dGet_val k hA with ⟨h1, h2⟩ | ⟨v, d, h1, h2, _⟩
        · rw [h1, h2] <;> rfl
        · rw [h1, h2] <;> rfl
      refine ⟨_, (Option.some.inj h).symm, fun Q q => d_in (o := valV kvs k) (by omega) I (.inl ⟨kvs, k, .inl hH, rfl, rfl⟩) rx fun s' I' => ?_, fun Q q => d_notIn (o := valV kvs k) (by omega) I (.inl ⟨kvs, k, .inl hH, rfl, rfl⟩) rx fun s' I' => ?_⟩
      · rw [hv]
        exact q s' I'
      · rw [hv]
        exact q s' I'
  cases d with
  | list ds => exact lst ds rfl (by cases c <;> exact ho)
  | tuple ds => exact tup ds rfl (by cases c <;> exact ho)
  | dict kds => exact dct kds rfl (by cases c <;> exact ho)
  | str z =>
    cases c with
    | str c =>
      have ho' : (match c.cps.toList with | [n] => some (iB (decide (n ∈ z.cps.toList))) | _ => none) = some rv := ho
      cases hl : c.cps.toList with
      | nil => rw [hl] at ho'; cases ho'
      | cons n r =>
        cases r with
        | cons _ _ => rw [hl] at ho'; cases ho'
        | nil =>
          rw [hl] at ho'
          have hcs := one_sign hl
          subst hcs
          have ex := hc.getS
          have ey := hd.getS
          subst ex ey
          refine ⟨_, (Option.some.inj ho').symm, fun Q q => ?_, fun Q q => ?_⟩
          · refine thn (op_inS pins s σ H _ _ v u (fun w H1 => w = .bl (decide (n ∈ z.cps.toList)) ∧ H1 = H) I rx ry ⟨n, z, rfl, rfl, rfl, rfl⟩) fun w s' ⟨x, H1, I1, r1, e1, e2⟩ => ?_
            subst e1 e2
            cases r1
            exact q s' I1
          · refine thn (op_notInS pins s σ H _ _ v u (fun w H1 => w = .bl (!decide (n ∈ z.cps.toList)) ∧ H1 = H) I rx ry ⟨n, z, rfl, rfl, rfl, rfl⟩) fun w s' ⟨x, H1, I1, r1, e1, e2⟩ => ?_
            subst e1 e2
            cases r1
            exact q s' I1
    | _ => cases ho
  | _ => cases c <;> cases ho
theorem opj_in (hu : X.A.units + 70 < cLine) : OpJ X (compareOp .In) oIn := by
  intro U H x y c d rv Q hU hc hd ho q pins s σ v u I rx ry
  obtain ⟨b, rfl, h1, _⟩ := oIn_ok (P := fun _ => True) (op := .In) hu hc hd I rx ry ho
  exact h1 _ fun s' I' => ⟨.bl b, H, I', rfl, q _ H (Same.refl H) (.bl _)⟩
theorem opj_notin (hu : X.A.units + 70 < cLine) : OpJ X (compareOp .NotIn) oNotIn := by
  intro U H x y c d rv Q hU hc hd ho q pins s σ v u I rx ry
  unfold oNotIn at ho
  cases e : oIn c d with
  | none => rw [e] at ho; cases ho
  | some r1 =>
    rw [e] at ho
    obtain ⟨b, rfl, _, h1⟩ := oIn_ok (P := fun _ => True) (op := .In) hu hc hd I rx ry e
    cases ho
    exact h1 _ fun s' I' => ⟨.bl (!b), H, I', rfl, q _ H (Same.refl H) (.bl _)⟩
end
end Sl
set_option Elab.async false
set_option linter.all false
set_option maxRecDepth 100000
set_option maxHeartbeats 4000000
namespace Sl
open PySem PySem.Spec PyProof.Rows L2
/-! ### names, constants -/
def eVar (i : Nat) : Mo AV := fun e => match e[i]? with
  | some (.dat d) => some (.ok (.dat d) e)
  | some (.raw v) => some (.ok (.raw v) e)
  | some (.rd _) => some (.ok (.nam i) e)
  | some (.own _) => some (.ok (.nam i) e)
  | some (.mt _) => some (.ok (.nam i) e)
  | _ => none
def eC (d : D) : Mo AV := fun e => some (.ok (.dat d) e)
def eRaw (v : V) : Mo AV := fun e => some (.ok (.raw v) e)
theorem vl_of {σ τ : L2.St} {i : Nat} {v : V} (h : vl (σ ++ τ) i = some v) (hi : i < σ.length) : σ[i]? = some (some v) := by
  unfold vl at h
  rw [List.getElem?_append_left hi, List.getElem?_eq_getElem hi] at h
  rw [List.getElem?_eq_getElem hi]
  exact congrArg some h
section
variable {X : Cx} {W : L2.WX} {e : Expr} {pos : Pos} {x : Str}
theorem j_var {i : Nat} (hN : X.N[i]? = some x) (hv : Vis X.env.scope x) (hd : (x == ("__debug__" : Str)) = false := by decide) (hcd : (x == ("__classdict__" : Str)) = false := by decide) : JE X W (.Name x pos) (eVar i) := by
  intro S env as σ τ H Q R r hf hx hk
  unfold wE
  intro pins s I
  have hi : i < σ.length := by
    rw [I.len]
    exact (List.getElem?_eq_some_iff.mp hN).1
  unfold eVar at hf
  have go : ∀ v av, vl (σ ++ τ) i = some v → r = .ok av env → VA S as H (σ ++ τ) v av → tVar i σ H Q := fun v av h1 h2 h3 => ⟨v, vl_of h1 hi, hk av env h2 as H τ v R ExtS.refl (List.prefix_refl _) h3⟩
  refine (pe_var hN hv hd hcd).run pins s σ H Q I ?_
  cases q : env[i]? with
  | none => rw [q] at hf; cases hf
  | some y =>
    rw [q] at hf
    obtain ⟨oa, _, ok⟩ := R.slot i y q
    cases y with
    | no => cases hf
    | dat d =>
      cases hf
      obtain ⟨_, v, h1, h2⟩ := ok
      exact go v _ h1 rfl h2
    | xc a d fs => cases hf
    | raw u =>
      cases hf
      exact go u _ ok.2 rfl rfl
    | rd d =>
      cases hf
      obtain ⟨_, a, h1, _⟩ := ok
      exact go _ _ h1 rfl h1
    | own d =>
      cases hf
      obtain ⟨a, _, h1, _⟩ := ok
      exact go _ _ h1 rfl h1
    | mt d =>
      cases hf
      obtain ⟨a, _, h1, _⟩ := ok
      exact go _ _ h1 rfl h1
theorem j_con {v : V} {d : D} (h : PE X e (tC v)) (hd : ∀ T H, Da T H v d) : JE X W e (eC d) := by
  intro S env as σ τ H Q R r hf hx hk
  cases hf
  exact PE.w h (hk _ _ rfl as H τ v R ExtS.refl (List.prefix_refl _) (hd _ _))
theorem j_int {i j pos} : JE X W (.Constant (.int i) j pos) (eC (.int i)) := j_con pe_int fun _ _ => .int i
theorem j_bl {b j pos} : JE X W (.Constant (.bool b) j pos) (eC (.bool b)) := j_con pe_bl fun _ _ => .bl b
theorem j_non {j pos} : JE X W (.Constant .none j pos) (eC .none) := j_con pe_non fun _ _ => .non
theorem j_str {z j pos} : JE X W (.Constant (.str z) j pos) (eC (.str z)) := j_con pe_str fun _ _ => .str z
theorem j_gI {i : Int} (hg : Gl X x) (h : ∃ t, X.mg x = some (.int i t)) (hd : (x == ("__debug__" : Str)) = false := by decide) : JE X W (.Name x pos) (eC (.int i)) := j_con (pe_gI hg h hd) fun _ _ => .int i
theorem j_gS {z : Str} (hg : Gl X x) (h : ∃ t, X.mg x = some (.str z t)) (hd : (x == ("__debug__" : Str)) = false := by decide) : JE X W (.Name x pos) (eC (.str z)) := j_con (pe_gS hg h hd) fun _ _ => .str z
theorem j_raw {v : V} (h : PE X e (tC v)) : JE X W e (eRaw v) := by
  intro S env as σ τ H Q R r hf hx hk
  cases hf
  exact PE.w h (hk _ _ rfl as H τ v R ExtS.refl (List.prefix_refl _) rfl)
end
/-! ### tests -/
def truD : D → Option Bool
  | .none => some false
  | .bool b => some b
  | .int i => some (i != 0)
  | .str z => if z.length ≤ sizeLine then some ((z.length : Int) != 0) else none
  | .list ds => some (!ds.isEmpty)
  | .tuple ds => some (!ds.isEmpty)
  | .dict kvs => some (!kvs.isEmpty)
/-- by truth -/
def tTru (f : Mo AV) : Mo Bool := bnd f fun a => fun e => match lk e a with
  | some d => match truD d with
    | some b => some (.ok b e)
    | none => none
  | none => none
/-- a bool -/
def tBl (f : Mo AV) : Mo Bool := bnd f fun a => fun e => match a with
  | .dat (.bool b) => some (.ok b e)
  | _ => none
def tNt (f : Mo Bool) : Mo Bool := bnd f fun b => pur (!b)
def tAn (f g : Mo Bool) : Mo Bool := bnd f fun b => if b then g else pur false
def tOrr (f g : Mo Bool) : Mo Bool := bnd f fun b => if b then pur true else g
def eIf (t : Mo Bool) (f g : Mo AV) : Mo AV := bnd t fun b => if b then f else g
def eAnd (f g : Mo AV) : Mo AV := bnd f fun a => match a with
  | .dat (.bool true) => g
  | .dat (.bool false) => eC (.bool false)
  | _ => fun _ => none
def eOr (f g : Mo AV) : Mo AV := bnd f fun a => match a with
  | .dat (.bool false) => g
  | .dat (.bool true) => eC (.bool true)
  | _ => fun _ => none
def eNot (f : Mo AV) : Mo AV := bnd f fun a => match a with
  | .dat (.bool b) => eC (.bool (!b))
  | _ => fun _ => none
theorem daAll_emp {T : Addr → Prop} {H : Hp} {xs : List V} {ds : List D} (h : DaAll T H xs ds) : (!ds.isEmpty) = !xs.isEmpty := by
  cases h <;> rfl
theorem tru_of {K : PySem.W.Frag} {T : Addr → Prop} {H : Hp} {v : V} {d : D} {b : Bool} (h : Dr T H v d) (e : truD d = some b) : TruV K v H b := by
  cases h with
  | non => cases e; rfl
  | bl c => cases e; rfl
  | int i => cases e; rfl
  | str z =>
    simp only [truD, Option.ite_none_right_eq_some] at e
    obtain ⟨h1, h2⟩ := e
    exact ⟨h1, (Option.some.inj h2).symm⟩
  | lst hH ha => cases e; exact .inl ⟨_, SqL.of hH, daAll_emp ha⟩
  | tup hH ha => cases e; exact .inr (.inl ⟨_, SqT.of hH, daAll_emp ha⟩)
  | dct hH ha =>
    cases e
    refine .inr (.inr ⟨_, hH, ?_⟩)
    rename_i kvs ds
    have hl := ha.length
    cases kvs with
    | nil => rfl
    | cons p r =>
      cases ds with
      | nil => cases hl
      | cons _ _ => rfl
section
variable {X : Cx} {W : L2.WX} {a b c : Expr} {rest : List Expr} {fa fb : Mo AV} {ta tb : Mo Bool} {pos : Pos}
theorem j_tru (ha : JE X W a fa) (he : ∀ whole, isTrue a X.env whole = (do let v ← whole; standAt a.pos; holding [v] (truthy v))) : JT X W a (tTru fa) := by
  intro S env as σ τ H Q R r hf hx hk
  refine PT.w (pt_truth pe_w he) (ha.use R hf hx fun av e1 as1 H1 τ1 v hf1 R1 E1 p1 V1 => ?_)
  cases h1 : lk e1 av with
  | none => simp only [h1] at hf1; cases hf1
  | some d =>
    simp only [h1] at hf1
    cases h2 : truD d with
    | none => simp only [h2] at hf1; cases hf1
    | some k =>
      simp only [h2] at hf1
      cases hf1
      exact ⟨k, tru_of (V1.lk R1 h1) h2, hk k e1 rfl as1 H1 τ1 k R1 E1 p1 rfl⟩
theorem j_tcmp {op : CmpOp} {o : D → D → Option RV} (ho : OpJ X (compareOp op) o) (ha : JE X W a fa) (hb : JE X W b fb) (hm : behindInMarks op b = false) : JT X W (.Compare a [op] [b] pos) (tBl (eBin o fa fb)) := by
  intro S env as σ τ H Q R r hf hx hk
  have hf' : bnd fa (fun x => bnd fb fun y => fun e => match fin2 o x y e with | some (.ok (.dat (.bool k)) e1) => some (.ok k e1) | _ => none) env = some r := by
    unfold tBl eBin at hf
    unfold bnd at hf ⊢
    cases h1 : fa env with
    | none => simp only [h1] at hf; cases hf
    | some r1 =>
      cases r1 with
      | ex k e1 => simp only [h1] at hf ⊢; exact hf
      | ok x e1 =>
        simp only [h1] at hf ⊢
        cases h2 : fb e1 with
        | none => simp only [h2] at hf; cases hf
        | some r2 =>
          cases r2 with
          | ex k e2 => simp only [h2] at hf ⊢; exact hf
          | ok y e2 =>
            simp only [h2] at hf ⊢
            cases h3 : fin2 o x y e2 with
            | none => simp only [h3] at hf; cases hf
            | some r3 =>
              cases r3 with
              | ex k e3 =>
                exfalso
                obtain ⟨c, d, rv, _, _, _, h4⟩ := fin2_eq h3
                cases rv <;> cases h4
              | ok z e3 =>
                simp only [h3] at hf ⊢
                cases z with
                | raw _ => exact hf
                | nam _ => exact hf
                | dat d => cases d <;> exact hf
  refine PT.w (pt_cmpR op_w pe_w pe_w hm) (ha.use R hf' hx fun u e1 as1 H1 τ1 x hf1 R1 E1 p1 V1 => ?_)
  refine hb.use R1 hf1 (hx.step E1 p1) fun v e2 as2 H2 τ2 y hf2 R2 E2 p2 V2 => ?_
  have V1' := V1.ext E2 ((List.prefix_append_right_inj σ).mpr p2)
  cases h3 : fin2 o u v e2 with
  | none => simp only [h3] at hf2; cases hf2
  | some r3 =>
    refine fin2_ok (r := r3) ho R2 V1' V2 h3 ?_
    cases r3 with
    | ex k e3 => simp only [h3] at hf2; cases hf2
    | ok z e3 =>
      simp only [h3] at hf2
      intro a e' er as' H' τ' w R' E' p' V'
      cases er
      cases z with
      | raw _ => cases hf2
      | nam _ => cases hf2
      | dat d =>
        cases d with
        | bool k =>
          cases hf2
          have V'' : Da _ H' w (.bool k) := V'
          cases V''
          exact ⟨k, rfl, hk k _ rfl as' H' τ' k R' (E1.trans (E2.trans E')) (p1.trans (p2.trans p')) rfl⟩
        | _ => cases hf2
theorem bnd_pur_ok {α β : Type} {f : Mo α} {g : α → β} {env : JEnv} {r : Rs β} (h : bnd f (fun a => pur (g a)) env = some r) : (∃ a e1, f env = some (.ok a e1) ∧ r = .ok (g a) e1) ∨ ∃ k e1, f env = some (.ex k e1) ∧ r = .ex k e1 := by
  unfold bnd at h
  cases h1 : f env with
  | none => simp only [h1] at h; cases h
  | some r1 =>
    cases r1 with
    | ok a e1 => simp only [h1] at h; cases h; exact .inl ⟨a, e1, rfl, rfl⟩
    | ex k e1 => simp only [h1] at h; cases h; exact .inr ⟨k, e1, rfl, rfl⟩
theorem j_tnot (ha : JT X W a ta) : JT X W (.UnaryOp .Not a pos) (tNt ta) := by
  intro S env as σ τ H Q R r hf hx hk
  refine PT.w (pt_not pt_w) (ha.use R hf hx fun k e1 as1 H1 τ1 v hf1 R1 E1 p1 V1 => ?_)
  cases hf1
  cases V1
  exact hk _ _ rfl as1 H1 τ1 _ R1 E1 p1 rfl
theorem j_wt (h : JW X W a ta) : JT X W a ta := by
  intro S env as σ τ H Q R r hf hx hk
  exact PT.w (PW.pt pw_w) (h S env as σ τ H Q R r hf hx hk)
theorem jw_and1 (ha : JT X W a ta) : JW X W (.BoolOp .And [a] pos) ta := by
  intro S env as σ τ H Q R r hf hx hk
  exact PW.w (pw_and1 pt_w) (ha S env as σ τ H Q R r hf hx hk)
theorem jw_or1 (ha : JT X W a ta) : JW X W (.BoolOp .Or [a] pos) ta := by
  intro S env as σ τ H Q R r hf hx hk
  exact PW.w (pw_or1 pt_w) (ha S env as σ τ H Q R r hf hx hk)
theorem jw_and (ha : JT X W a ta) (hb : JW X W (.BoolOp .And (b :: rest) pos) tb) : JW X W (.BoolOp .And (a :: b :: rest) pos) (tAn ta tb) := by
  intro S env as σ τ H Q R r hf hx hk
  refine PW.w (pw_and pt_w pw_w) (ha.use R hf hx fun k e1 as1 H1 τ1 v hf1 R1 E1 p1 V1 => ?_)
  cases V1
  cases k with
  | true =>
    rw [if_pos rfl]
    exact hb S e1 as1 σ τ1 H1 Q R1 r hf1 (hx.step E1 p1) (hk.step E1 p1)
  | false =>
    rw [if_neg (by simp)]
    cases hf1
    exact hk _ _ rfl as1 H1 τ1 _ R1 E1 p1 rfl
theorem jw_or (ha : JT X W a ta) (hb : JW X W (.BoolOp .Or (b :: rest) pos) tb) : JW X W (.BoolOp .Or (a :: b :: rest) pos) (tOrr ta tb) := by
  intro S env as σ τ H Q R r hf hx hk
  refine PW.w (pw_or pt_w pw_w) (ha.use R hf hx fun k e1 as1 H1 τ1 v hf1 R1 E1 p1 V1 => ?_)
  cases V1
  cases k with
  | true =>
    rw [if_pos rfl]
    cases hf1
    exact hk _ _ rfl as1 H1 τ1 _ R1 E1 p1 rfl
  | false =>
    rw [if_neg (by simp)]
    exact hb S e1 as1 σ τ1 H1 Q R1 r hf1 (hx.step E1 p1) (hk.step E1 p1)
theorem j_if (hc : JT X W c ta) (ha : JE X W a fa) (hb : JE X W b fb) : JE X W (.IfExp c a b pos) (eIf ta fa fb) := by
  intro S env as σ τ H Q R r hf hx hk
  refine PE.w (pe_ifExp pt_w pe_w pe_w) (hc.use R hf hx fun k e1 as1 H1 τ1 v hf1 R1 E1 p1 V1 => ?_)
  cases V1
  cases k with
  | true =>
    rw [if_pos rfl]
    exact ha S e1 as1 σ τ1 H1 Q R1 r hf1 (hx.step E1 p1) (hk.step E1 p1)
  | false =>
    rw [if_neg (by simp)]
    exact hb S e1 as1 σ τ1 H1 Q R1 r hf1 (hx.step E1 p1) (hk.step E1 p1)
theorem j_one {op} (ha : JE X W a fa) : JE X W (.BoolOp op [a] pos) fa := by
  intro S env as σ τ H Q R r hf hx hk
  exact PE.w (pe_one pe_w) (ha S env as σ τ H Q R r hf hx hk)
theorem j_and (ha : JE X W a fa) (hb : JE X W (.BoolOp .And (b :: rest) pos) fb) : JE X W (.BoolOp .And (a :: b :: rest) pos) (eAnd fa fb) := by
  intro S env as σ τ H Q R r hf hx hk
  refine PE.w (pe_and pe_w pe_w) (ha.use R hf hx fun av e1 as1 H1 τ1 v hf1 R1 E1 p1 V1 => ?_)
  cases av with
  | raw _ => cases hf1
  | nam _ => cases hf1
  | dat d =>
    cases d with
    | bool k =>
      have V1' : Da _ H1 v (.bool k) := V1
      cases V1'
      refine ⟨k, rfl, ?_⟩
      cases k with
      | true => rw [if_pos rfl]; exact hb S e1 as1 σ τ1 H1 Q R1 r hf1 (hx.step E1 p1) (hk.step E1 p1)
      | false =>
        rw [if_neg (by simp)]
        cases hf1
        exact hk _ _ rfl as1 H1 τ1 _ R1 E1 p1 V1
    | _ => cases hf1
theorem j_or (ha : JE X W a fa) (hb : JE X W (.BoolOp .Or (b :: rest) pos) fb) : JE X W (.BoolOp .Or (a :: b :: rest) pos) (eOr fa fb) := by
  intro S env as σ τ H Q R r hf hx hk
  refine PE.w (pe_or pe_w pe_w) (ha.use R hf hx fun av e1 as1 H1 τ1 v hf1 R1 E1 p1 V1 => ?_)
  cases av with
  | raw _ => cases hf1
  | nam _ => cases hf1
  | dat d =>
    cases d with
    | bool k =>
      have V1' : Da _ H1 v (.bool k) := V1
      cases V1'
      refine ⟨k, rfl, ?_⟩
      cases k with
      | false => rw [if_neg (by simp)]; exact hb S e1 as1 σ τ1 H1 Q R1 r hf1 (hx.step E1 p1) (hk.step E1 p1)
      | true =>
        rw [if_pos rfl]
        cases hf1
        exact hk _ _ rfl as1 H1 τ1 _ R1 E1 p1 V1
    | _ => cases hf1
theorem j_not (ha : JE X W a fa) : JE X W (.UnaryOp .Not a pos) (eNot fa) := by
  intro S env as σ τ H Q R r hf hx hk
  refine PE.w (pe_not pe_w) (ha.use R hf hx fun av e1 as1 H1 τ1 v hf1 R1 E1 p1 V1 => ?_)
  cases av with
  | raw _ => cases hf1
  | nam _ => cases hf1
  | dat d =>
    cases d with
    | bool k =>
      have V1' : Da _ H1 v (.bool k) := V1
      cases V1'
      cases hf1
      exact ⟨k, rfl, hk _ _ rfl as1 H1 τ1 _ R1 E1 p1 (.bl _)⟩
    | _ => cases hf1
/-- -x -/
def oNeg : D → Option RV
  | .int i => some (iI (-i))
  | _ => none
def fin1 (op : D → Option RV) (a : AV) : Mo AV := fun e => match lk e a with
  | some c => match op c with
    | some rv => mkR rv e
    | none => none
  | none => none
theorem fin1_eq {op : D → Option RV} {a : AV} {e : JEnv} {r : Rs AV} (h : fin1 op a e = some r) : ∃ c rv, lk e a = some c ∧ op c = some rv ∧ mkR rv e = some r := by
  unfold fin1 at h
  cases h1 : lk e a with
  | none => simp only [h1] at h; cases h
  | some c =>
    simp only [h1] at h
    cases h3 : op c with
    | none => simp only [h3] at h; cases h
    | some rv => simp only [h3] at h; exact ⟨c, rv, rfl, h3, h⟩
def eUn (op : D → Option RV) (a : Mo AV) : Mo AV := bnd a fun x => fin1 op x
theorem j_neg (ha : JE X W a fa) : JE X W (.UnaryOp .USub a pos) (eUn oNeg fa) := by
  intro S env as σ τ H Q R r hf hx hk
  refine PE.w (pe_un un_neg pe_w) (ha.use R hf hx fun av e1 as1 H1 τ1 v hf1 R1 E1 p1 V1 => ?_)
  obtain ⟨c, rv, h1, h2, h3⟩ := fin1_eq hf1
  cases c <;> simp [oNeg] at h2
  subst h2
  have hv := (V1.lk R1 h1).getI
  exact ⟨_, hv, fin_res R1 h3 (hk.step E1 p1) (Same.refl H1) (.int _)⟩
end
/-! ### x[i] -/
def oIx : D → D → Option RV
  | .list ds, .int i => (atI ds i).map RV.dat
  | .tuple ds, .int i => (atI ds i).map RV.dat
  | .str z, .int i => if z.length ≤ sizeLine then (atI z.cps.toList i).map fun c => RV.dat (.str ⟨#[c]⟩) else none
  | .dict kvs, c => match keyD c with
    | some k => (dGet kvs k).map RV.dat
    | none => none
  | _, _ => none
theorem daAll_at {T : Addr → Prop} {H : Hp} {xs : List V} {ds : List D} (h : DaAll T H xs ds) {i : Int} {d : D} (e : atI ds i = some d) : ∃ v, atI xs i = some v ∧ Da T H v d := by
  unfold atI at e ⊢
  rw [h.length]
  cases hj : ixN ds.length i with
  | none => rw [hj] at e; cases e
  | some j =>
    rw [hj] at e
    have e' : ds[j]? = some d := e
    have hl := h.length
    have hjl : j < xs.length := by
      rw [hl]
      exact (List.getElem?_eq_some_iff.mp e').1
    obtain ⟨d', h1, h2⟩ := h.get (List.getElem?_eq_getElem hjl)
    rw [e'] at h1
    cases h1
    exact ⟨xs[j], List.getElem?_eq_getElem hjl, h2⟩
section
variable {X : Cx} {W : L2.WX} {a b : Expr} {fa fb : Mo AV} {pos : Pos}
def IxJ (X : Cx) (op : D → D → Option RV) : Prop :=
  ∀ (U : Addr → Prop) (H : Hp) (x y : V) (c d : D) (rv : RV) (Q : VK), (∀ a, U a → ∃ o, H a = some o ∧ isMO o) → Dr U H x c → Dr U H y d → op c d = some rv → (∀ v H', Same H H' → ResV U H H' v rv → Q v H') →
    ∀ (value slice : Expr) (pins : List (Addr × Obj)) (s : Shared) (σ : L2.St) (v u : Value), L2.Inv X pins σ H s → RelV x v → RelV y u → subscripted slice false v u = operate [v, u] (getItem v u) →
      wpAny (model X.prog X.w) X.A (subscriptTail value slice v u) (EP X pins σ Q) X.xe s
def wIx (X : Cx) : R2 := fun x y H Q => ∀ (value slice : Expr) (pins : List (Addr × Obj)) (s : Shared) (σ : L2.St) (v u : Value), L2.Inv X pins σ H s → RelV x v → RelV y u → subscripted slice false v u = operate [v, u] (getItem v u) →
      wpAny (model X.prog X.w) X.A (subscriptTail value slice v u) (EP X pins σ Q) X.xe s
theorem ix_w : IxR X (wIx X) := fun value slice pins s σ _ _ _ v u _ I rx ry h hs => h value slice pins s σ v u I rx ry hs
theorem ixj (hu : X.A.units + 1 < cLine) : IxJ X oIx := by
  intro U H x y c d rv Q hU hc hd ho q value slice pins s σ v u I rx ry hs
  cases c with
  | list ds =>
    cases d <;> simp only [oIx, Option.map_eq_some_iff] at ho <;> try (simp at ho; done)
    obtain ⟨z, e, rfl⟩ := ho
    obtain ⟨p, xs, rfl, hp, ha⟩ := hc.getL
    obtain ⟨w, e1, e2⟩ := daAll_at ha e
    exact ix_list value slice pins s σ H _ _ v u Q I rx ry ⟨p, xs, _, w, rfl, hd.getI, SqL.of hp, e1, q _ H (Same.refl H) e2⟩ hs
  | tuple ds =>
    cases d <;> simp only [oIx, Option.map_eq_some_iff] at ho <;> try (simp at ho; done)
    obtain ⟨z, e, rfl⟩ := ho
    obtain ⟨p, xs, rfl, hp, ha⟩ := hc.getT
    obtain ⟨w, e1, e2⟩ := daAll_at ha e
    exact ix_tup value slice pins s σ H _ _ v u Q I rx ry ⟨p, xs, _, w, rfl, hd.getI, SqT.of hp, e1, q _ H (Same.refl H) e2⟩ hs
  | str z =>
    cases d <;> simp only [oIx, Option.map_eq_some_iff, Option.ite_none_right_eq_some] at ho <;> try (simp at ho; done)
    obtain ⟨hz, n, e, rfl⟩ := ho
    exact ix_str value slice pins s σ H _ _ v u Q I rx ry ⟨z, _, n, hc.getS, hd.getI, hz, e, q _ H (Same.refl H) (.str _)⟩ hs
  | dict kvs =>
    have ho' : (match keyD d with | some k => (dGet kvs k).map RV.dat | none => none) = some rv := by cases d <;> exact ho
    cases hk : keyD d with
    | none => rw [hk] at ho'; cases ho'
    | some k =>
      rw [hk] at ho'
      have ho2 : (dGet kvs k).map RV.dat = some rv := ho'
      obtain ⟨z, e, rfl⟩ := Option.map_eq_some_iff.mp ho2
      obtain ⟨p, ks, ds, rfl, hp, ha, rfl⟩ := hc.getD
      have hy := keyD_v hd hk
      subst hy
      cases rx
      rcases dGet_val k ha with ⟨_, h2⟩ | ⟨w, z', h1, h2, h3⟩
      · rw [e] at h2
        cases h2
      · rw [e] at h2
        cases h2
        have g : DGet H p (kV k) (some w) := .inl ⟨ks, k, .inl hp, rfl, h1.symm⟩
        exact tail_any (dict_typeIs I g) PySem.F.slot_dict_getitem.lookup (d_getItem hu I g ry fun w' s' I' rw' => ⟨w, H, I', rw', q _ H (Same.refl H) h3⟩) hs
  | _ => cases d <;> simp [oIx] at ho
theorem j_ix (hu : X.A.units + 1 < cLine) (ha : JE X W a fa) (hb : JE X W b fb) (hs : PlainIx b) : JE X W (.Subscript a b pos) (eBin oIx fa fb) := by
  intro S env as σ τ H Q R r hf hx hv
  refine PE.w (pe_ix ix_w pe_w pe_w hs) (ha.use R hf hx fun u e1 as1 H1 τ1 x hf1 R1 E1 p1 V1 => ?_)
  refine hb.use R1 hf1 (hx.step E1 p1) fun v e2 as2 H2 τ2 y hf2 R2 E2 p2 V2 => ?_
  obtain ⟨c, d, rv, h1, h2, h3, h4⟩ := fin2_eq hf2
  exact ixj hu (So S as2) H2 x y c d rv Q R2.mo ((V1.ext E2 ((List.prefix_append_right_inj _).mpr p2)).lk R2 h1) (V2.lk R2 h2) h3 fun v H' k z => fin_res R2 h4 ((hv.step E1 p1).step E2 p2) k z
end
end Sl
set_option Elab.async false
set_option linter.all false
set_option maxRecDepth 100000
set_option maxHeartbeats 4000000
namespace Sl
open PySem PySem.Spec PyProof.Rows L2
/-! ### giving away -/
def fz (e : JEnv) : AV → Option (D × JEnv)
  | .dat d => some (d, e)
  | .raw _ => none
  | .nam i => match e[i]? with
    | some (.own d) => some (d, e.set i (.dat d))
    | some (.dat d) => some (d, e)
    | _ => none
def fzs (e : JEnv) : List AV → Option (List D × JEnv)
  | [] => some ([], e)
  | a :: as => match fz e a with
    | some (d, e1) => match fzs e1 as with
      | some (ds, e2) => some (d :: ds, e2)
      | none => none
    | none => none
def lks (e : JEnv) : List AV → Option (List D)
  | [] => some []
  | a :: as => match lk e a, lks e as with
    | some d, some ds => some (d :: ds)
    | _, _ => none
inductive DrAll (T : Addr → Prop) (H : Hp) : List V → List D → Prop
  | nil : DrAll T H [] []
  | cons {v : V} {vs : List V} {d : D} {ds : List D} : Dr T H v d → DrAll T H vs ds → DrAll T H (v :: vs) (d :: ds)
section
variable {S : Addr → Prop} {env env' : JEnv} {as : List (Option Addr)} {ς : L2.St} {H : Hp} {v : V} {av : AV} {d : D}
theorem fz_ok (R : Rel S env as ς H) (h : VA S as H ς v av) (e : fz env av = some (d, env')) : ∃ as', Rel S env' as' ς H ∧ ExtS S as H as' H ∧ Da (So S as') H v d := by
  cases av with
  | dat c =>
    cases e
    exact ⟨as, R, .refl, h⟩
  | raw u => cases e
  | nam i =>
    have e' : (match env[i]? with | some (.own d) => some (d, env.set i (.dat d)) | some (.dat d) => some (d, env) | _ => none) = some (d, env') := e
    have h' : vl ς i = some v := h
    cases q : env[i]? with
    | none => rw [q] at e'; cases e'
    | some x =>
      rw [q] at e'
      cases x with
      | own c =>
        cases e'
        obtain ⟨R1, E1, g⟩ := R.freeze q
        exact ⟨_, R1, E1, g v h'⟩
      | dat c =>
        cases e'
        obtain ⟨oa, _, _, w, h1, h2⟩ := R.slot i _ q
        rw [h'] at h1
        cases h1
        exact ⟨as, R, .refl, h2⟩
      | _ => cases e'
theorem fzs_ok : ∀ {avs : List AV} {vs : List V} {ds : List D} {env : JEnv} {as : List (Option Addr)}, Rel S env as ς H → VAs S as H ς vs avs → fzs env avs = some (ds, env') → ∃ as', Rel S env' as' ς H ∧ ExtS S as H as' H ∧ DaAll (So S as') H vs ds
  | [], _, _, _, as, R, .nil, e => by
    cases e
    exact ⟨as, R, .refl, .nil⟩
  | a :: avs, _, ds, env, as, R, .cons h t, e => by
    unfold fzs at e
    cases h1 : fz env a with
    | none => simp only [h1] at e; cases e
    | some p =>
      obtain ⟨d, e1⟩ := p
      simp only [h1] at e
      cases h2 : fzs e1 avs with
      | none => simp only [h2] at e; cases e
      | some q =>
        obtain ⟨ds', e2⟩ := q
        simp only [h2] at e
        cases e
        obtain ⟨as1, R1, E1, g1⟩ := fz_ok R h h1
        obtain ⟨as2, R2, E2, g2⟩ := fzs_ok R1 (t.ext E1 (List.prefix_refl _)) h2
        exact ⟨as2, R2, E1.trans E2, .cons (E2.so g1) g2⟩
theorem lks_ok (R : Rel S env as ς H) : ∀ {avs : List AV} {vs : List V} {ds : List D}, VAs S as H ς vs avs → lks env avs = some ds → DrAll (So S as) H vs ds
  | [], _, _, .nil, e => by
    cases e
    exact .nil
  | a :: avs, _, ds, .cons h t, e => by
    unfold lks at e
    cases h1 : lk env a with
    | none => simp only [h1] at e; cases e
    | some d =>
      cases h2 : lks env avs with
      | none => simp only [h1, h2] at e; cases e
      | some ds' =>
        simp only [h1, h2] at e
        cases e
        exact .cons (h.lk R h1) (lks_ok R t h2)
end
/-- arguments -/
def aNil : Mo (List AV) := pur []
def aCons (f : Mo AV) (g : Mo (List AV)) : Mo (List AV) := bnd f fun a => bnd g fun as => pur (a :: as)
/-- what is given away into k -/
def mkO (o : Option RV) : Mo AV := fun e => match o with
  | some rv => mkR rv e
  | none => none
def eFz (k : List D → Option RV) (f : Mo (List AV)) : Mo AV := bnd f fun avs => fun e => match fzs e avs with
  | some (ds, e1) => mkO (k ds) e1
  | none => none
/-- what is read by k -/
def eRd (k : List D → Option RV) (f : Mo (List AV)) : Mo AV := bnd f fun avs => fun e => match lks e avs with
  | some ds => mkO (k ds) e
  | none => none
def kTup (ds : List D) : Option RV := if ds.length ≤ sizeLine then some (.dat (.tuple ds)) else none
def kLst (ds : List D) : Option RV := if ds.length ≤ sizeLine then some (.fre (.list ds)) else none
section
variable {X : Cx} {W : L2.WX} {e : Expr} {es : List Expr} {fe : Mo AV} {fa : Mo (List AV)} {pos : Pos}
theorem j_nil : JA X W [] aNil := by
  intro S env as σ τ H Q R r hf hx hk
  cases hf
  exact PA.w pa_nil (hk _ _ rfl as H τ _ R .refl (List.prefix_refl _) .nil)
theorem j_cons (ha : JE X W e fe) (hr : JA X W es fa) (hs : starEach (e :: es) X.env = (false, eval e X.env) :: starEach es X.env := by exact se_cons rfl) : JA X W (e :: es) (aCons fe fa) := by
  intro S env as σ τ H Q R r hf hx hk
  refine PA.w (pa_cons pe_w pa_w hs) (ha.use R hf hx fun av e1 as1 H1 τ1 v hf1 R1 E1 p1 V1 => ?_)
  refine hr.use R1 hf1 (hx.step E1 p1) fun avs e2 as2 H2 τ2 vs hf2 R2 E2 p2 V2 => ?_
  cases hf2
  exact hk _ _ rfl as2 H2 τ2 _ R2 (E1.trans E2) (p1.trans p2) (.cons (V1.ext E2 ((List.prefix_append_right_inj _).mpr p2)) V2)
/-- a display's end -/
theorem fz_fin {P : Prop} {S : Addr → Prop} {env : JEnv} {as : List (Option Addr)} {σ τ : L2.St} {H : Hp} {Q : VK} {r : Rs AV} {k : List D → Option RV} {avs : List AV} {vs : List V} (R : Rel S env as (σ ++ τ) H) (V : VAs S as H (σ ++ τ) vs avs)
    (hf : (match fzs env avs with | some (ds, e1) => mkO (k ds) e1 | none => none) = some r) (hk : OkV S as σ τ H VA Q r)
    (go : ∀ ds rv U, k ds = some rv → (∀ a, U a → ∃ o, H a = some o ∧ isMO o) → DaAll U H vs ds → (∀ v H', Same H H' → ResV U H H' v rv → Q v H') → P) : P := by
  cases h1 : fzs env avs with
  | none => simp only [h1] at hf; cases hf
  | some p =>
    obtain ⟨ds, e1⟩ := p
    simp only [h1] at hf
    cases h2 : k ds with
    | none => rw [h2] at hf; cases hf
    | some rv =>
      rw [h2] at hf
      obtain ⟨as1, R1, E1, g⟩ := fzs_ok R V h1
      exact go ds rv _ h2 R1.mo g fun v H' s z => fin_res R1 hf (hk.step E1 (List.prefix_refl _)) s z
theorem j_tup {x1} (ha : JA X W es fa) : JE X W (.Tuple es x1 pos) (eFz kTup fa) := by
  intro S env as σ τ H Q R r hf hx hk
  refine PE.w (pe_tup pa_w) (ha.use R hf hx fun avs e1 as1 H1 τ1 vs hf1 R1 E1 p1 V1 => ?_)
  refine fz_fin R1 V1 hf1 (hk.step E1 p1) fun ds rv U h1 hU g q => ?_
  unfold kTup at h1
  split at h1
  · cases h1
    rename_i hl
    exact ⟨by rw [g.length]; exact hl, fun p hp => q _ _ (same_upd hp) (res_tup hU hp g)⟩
  · cases h1
theorem j_lst (ha : JA X W es fa) : JE X W (.List es pos) (eFz kLst fa) := by
  intro S env as σ τ H Q R r hf hx hk
  refine PE.w (pe_lst pa_w) (ha.use R hf hx fun avs e1 as1 H1 τ1 vs hf1 R1 E1 p1 V1 => ?_)
  refine fz_fin R1 V1 hf1 (hk.step E1 p1) fun ds rv U h1 hU g q => ?_
  unfold kLst at h1
  split at h1
  · cases h1
    rename_i hl
    exact ⟨by rw [g.length]; exact hl, fun p hp => q _ _ (same_upd hp) (res_lst hp g)⟩
  · cases h1
end
/-! ### built-in functions by data -/
def CallJ (X : Cx) (f : Value) (k : List D → Option RV) : Prop :=
  ∀ (U : Addr → Prop) (H : Hp) (xs : List V) (ds : List D) (rv : RV) (Q : VK), (∀ a, U a → ∃ o, H a = some o ∧ isMO o) → DrAll U H xs ds → k ds = some rv → (∀ v H', Same H H' → ResV U H H' v rv → Q v H') →
    ∀ (pins : List (Addr × Obj)) (s : Shared) (σ : L2.St) (us : List Value), L2.Inv X pins σ H s → Vals xs us → wpAny (model X.prog X.w) X.A (call f us) (EP X pins σ Q) X.xe s
def wCall (X : Cx) (f : Value) : List V → Hp → VK → Prop := fun xs H Q => ∀ (pins : List (Addr × Obj)) (s : Shared) (σ : L2.St) (us : List Value), L2.Inv X pins σ H s → Vals xs us → wpAny (model X.prog X.w) X.A (call f us) (EP X pins σ Q) X.xe s
theorem call_w {X : Cx} {f : Value} : CallR X f (wCall X f) := fun pins s σ _ _ us _ I r h => h pins s σ us I r
theorem CallJ.of {X : Cx} {f : Value} {k : List D → Option RV} {r : List V → Hp → VK → Prop} (h : CallR X f r)
    (g : ∀ (U : Addr → Prop) (H : Hp) (xs : List V) (ds : List D) (rv : RV) (Q : VK), (∀ a, U a → ∃ o, H a = some o ∧ isMO o) → DrAll U H xs ds → k ds = some rv → (∀ v H', Same H H' → ResV U H H' v rv → Q v H') → r xs H Q) : CallJ X f k :=
  fun U H xs ds rv Q hU hd ho q pins s σ us I rx => h pins s σ H xs us Q I rx (g U H xs ds rv Q hU hd ho q)
def kLen : List D → Option RV
  | [.list ds] => some (iI ds.length)
  | [.tuple ds] => some (iI ds.length)
  | [.str z] => if z.length ≤ sizeLine then some (iI z.length) else none
  | [.dict kvs] => some (iI kvs.length)
  | _ => none
def reprOk (d : D) : Bool := d.showable && kNo d && decide (d.depth ≤ 1000) && decide (d.shown.length ≤ sizeLine)
def kRepr : List D → Option RV
  | [d] => if reprOk d then some (.dat (.str d.shown)) else none
  | _ => none
def kTupleOf : List D → Option RV
  | [.list ds] => some (.dat (.tuple ds))
  | [.tuple ds] => some (.dat (.tuple ds))
  | _ => none
def kListOf : List D → Option RV
  | [.list ds] => some (.fre (.list ds))
  | [.tuple ds] => some (.fre (.list ds))
  | _ => none
def kInt : List D → Option RV
  | [.int i] => some (iI i)
  | [.bool b] => some (iI (if b then 1 else 0))
  | _ => none
def kAbs : List D → Option RV
  | [.int i] => some (iI (if i < 0 then -i else i))
  | _ => none
def kMax2 : List D → Option RV
  | [.int i, .int j] => some (iI (if i < j then j else i))
  | _ => none
def kMin2 : List D → Option RV
  | [.int i, .int j] => some (iI (if j < i then j else i))
  | _ => none
section
variable {X : Cx} {W : L2.WX} {e : Expr} {es : List Expr} {fa : Mo (List AV)} {pos p : Pos} {x : Str} {id T : String} {k : List D → Option RV}
theorem rd_fin {P : Prop} {S : Addr → Prop} {env : JEnv} {as : List (Option Addr)} {σ τ : L2.St} {H : Hp} {Q : VK} {r : Rs AV} {avs : List AV} {vs : List V} (R : Rel S env as (σ ++ τ) H) (V : VAs S as H (σ ++ τ) vs avs)
    (hf : (match lks env avs with | some ds => mkO (k ds) env | none => none) = some r) (hk : OkV S as σ τ H VA Q r)
    (go : ∀ ds rv U, k ds = some rv → (∀ a, U a → ∃ o, H a = some o ∧ isMO o) → DrAll U H vs ds → (∀ v H', Same H H' → ResV U H H' v rv → Q v H') → P) : P := by
  cases h1 : lks env avs with
  | none => simp only [h1] at hf; cases hf
  | some ds =>
    simp only [h1] at hf
    cases h2 : k ds with
    | none => rw [h2] at hf; cases hf
    | some rv =>
      rw [h2] at hf
      exact go ds rv _ h2 R.mo (lks_ok R V h1) fun v H' s z => fin_res R hf hk s z
theorem j_callB (hc : CallJ X (.builtin id) k) (hg : Gl X x) (hm : X.mg x = none) (hv : bootBuiltins x = some (.builtin id)) (ha : JA X W (e :: es) fa) (hn : x ≠ "__name__" := by decide) (hdb : (x == ("__debug__" : Str)) = false := by decide)
    (he : starEach (e :: es) X.env = (false, eval e X.env) :: starEach es X.env := by exact se_cons rfl) (hpl : (backTo pos (starEach es X.env)).any (·.1) = false := by exact se_any rfl) : JE X W (.Call (.Name x p) (e :: es) [] pos) (eRd k fa) := by
  intro S env as σ τ H Q R r hf hx hk
  refine PE.w (pe_callB call_w hg hm hv pa_w hn hdb he hpl) (ha.use R hf hx fun avs e1 as1 H1 τ1 vs hf1 R1 E1 p1 V1 => ?_)
  exact rd_fin R1 V1 hf1 (hk.step E1 p1) fun ds rv U h1 hU g q => hc U H1 vs ds rv Q hU g h1 q
theorem j_callTy (hc : CallJ X (.type T) k) (hg : Gl X x) (hm : X.mg x = none) (hv : bootBuiltins x = some (.type T)) (ha : JA X W (e :: es) fa) (hn : x ≠ "__name__" := by decide) (hdb : (x == ("__debug__" : Str)) = false := by decide)
    (he : starEach (e :: es) X.env = (false, eval e X.env) :: starEach es X.env := by exact se_cons rfl) (hpl : (backTo pos (starEach es X.env)).any (·.1) = false := by exact se_any rfl) : JE X W (.Call (.Name x p) (e :: es) [] pos) (eRd k fa) := by
  intro S env as σ τ H Q R r hf hx hk
  refine PE.w (pe_callTy call_w hg hm hv pa_w hn hdb he hpl) (ha.use R hf hx fun avs e1 as1 H1 τ1 vs hf1 R1 E1 p1 V1 => ?_)
  exact rd_fin R1 V1 hf1 (hk.step E1 p1) fun ds rv U h1 hU g q => hc U H1 vs ds rv Q hU g h1 q
theorem DrAll.one {U : Addr → Prop} {H : Hp} {xs : List V} {d : D} (h : DrAll U H xs [d]) : ∃ v, xs = [v] ∧ Dr U H v d := by
  cases h with
  | cons a t => cases t; exact ⟨_, rfl, a⟩
theorem DrAll.two {U : Addr → Prop} {H : Hp} {xs : List V} {c d : D} (h : DrAll U H xs [c, d]) : ∃ u v, xs = [u, v] ∧ Dr U H u c ∧ Dr U H v d := by
  cases h with
  | cons a t => cases t with | cons b t => cases t; exact ⟨_, _, rfl, a, b⟩
theorem cj_len : CallJ X (.builtin "len") kLen := by
  intro U H xs ds rv Q hU hd ho q pins s σ us I rx
  match ds, ho with
  | [.list ds], ho =>
    cases ho
    obtain ⟨v, rfl, h⟩ := hd.one
    obtain ⟨a, ys, rfl, hH, hA⟩ := h.getL
    exact call_len_seq pins s σ H _ us Q I rx ⟨a, ys, rfl, .inl (SqL.of hH), q _ H (Same.refl H) (by rw [hA.length]; exact .int _)⟩
  | [.tuple ds], ho =>
    cases ho
    obtain ⟨v, rfl, h⟩ := hd.one
    obtain ⟨a, ys, rfl, hH, hA⟩ := h.getT
    exact call_len_seq pins s σ H _ us Q I rx ⟨a, ys, rfl, .inr (SqT.of hH), q _ H (Same.refl H) (by rw [hA.length]; exact .int _)⟩
  | [.str z], ho =>
    simp only [kLen, Option.ite_none_right_eq_some] at ho
    obtain ⟨hz, ho⟩ := ho
    cases ho
    obtain ⟨v, rfl, h⟩ := hd.one
    have := h.getS
    subst this
    exact call_len_str pins s σ H _ us Q I rx ⟨z, rfl, hz, q _ H (Same.refl H) (.int _)⟩
  | [.dict kvs], ho =>
    cases ho
    obtain ⟨v, rfl, h⟩ := hd.one
    obtain ⟨a, ks, ds, rfl, hH, hA, rfl⟩ := h.getD
    refine call_lenD pins s σ H _ us Q I rx ⟨a, ks, rfl, hH, q _ H (Same.refl H) ?_⟩
    have := hA.length
    rw [List.length_map] at this
    rw [List.length_zip, List.length_map, ← this, Nat.min_self]
    exact .int _
theorem cj_repr (hg : X.A.guards = some []) (hu : X.A.units + 1010 < cLine) : CallJ X (.builtin "repr") kRepr := by
  intro U H xs ds rv Q hU hd ho q pins s σ us I rx
  match ds, ho with
  | [d], ho =>
    simp only [kRepr, Option.ite_none_right_eq_some] at ho
    obtain ⟨hz, ho⟩ := ho
    cases ho
    obtain ⟨v, rfl, h⟩ := hd.one
    unfold reprOk at hz
    rw [Bool.and_eq_true, Bool.and_eq_true, Bool.and_eq_true] at hz
    exact call_repr hg hu pins s σ H _ us Q I rx ⟨fun _ => False, v, d, rfl, h.read, hz.1.1.1, hz.1.1.2, of_decide_eq_true hz.1.2, of_decide_eq_true hz.2, q _ H (Same.refl H) (.str _)⟩
theorem cj_tuple : CallJ X (.type "tuple") kTupleOf := by
  intro U H xs ds rv Q hU hd ho q pins s σ us I rx
  match ds, ho with
  | [.list ds], ho =>
    cases ho
    obtain ⟨v, rfl, h⟩ := hd.one
    obtain ⟨a, ys, rfl, hH, hA⟩ := h.getL
    exact call_tuple_of pins s σ H _ us Q I rx ⟨a, ys, rfl, .inl ⟨SqL.of hH, fun l hl => q _ _ (same_upd hl) (res_tup hU hl hA)⟩⟩
  | [.tuple ds], ho =>
    cases ho
    obtain ⟨v, rfl, h⟩ := hd.one
    have hD := h.daN rfl hU
    obtain ⟨a, ys, rfl, hH, hA⟩ := h.getT
    exact call_tuple_of pins s σ H _ us Q I rx ⟨a, ys, rfl, .inr ⟨SqT.of hH, q _ H (Same.refl H) hD⟩⟩
theorem cj_list : CallJ X (.type "list") kListOf := by
  intro U H xs ds rv Q hU hd ho q pins s σ us I rx
  match ds, ho with
  | [.list ds], ho =>
    cases ho
    obtain ⟨v, rfl, h⟩ := hd.one
    obtain ⟨a, ys, rfl, hH, hA⟩ := h.getL
    exact call_list_of pins s σ H _ us Q I rx ⟨a, ys, rfl, .inl (SqL.of hH), fun l hl => q _ _ (same_upd hl) (res_lst hl hA)⟩
  | [.tuple ds], ho =>
    cases ho
    obtain ⟨v, rfl, h⟩ := hd.one
    obtain ⟨a, ys, rfl, hH, hA⟩ := h.getT
    exact call_list_of pins s σ H _ us Q I rx ⟨a, ys, rfl, .inr (SqT.of hH), fun l hl => q _ _ (same_upd hl) (res_lst hl hA)⟩
theorem cj_int : CallJ X (.type "int") kInt := by
  intro U H xs ds rv Q hU hd ho q pins s σ us I rx
  match ds, ho with
  | [.int i], ho =>
    cases ho
    obtain ⟨v, rfl, h⟩ := hd.one
    exact call_int1 pins s σ H _ us Q I rx (.inl ⟨i, by rw [h.getI], q _ H (Same.refl H) (.int _)⟩)
  | [.bool b], ho =>
    cases ho
    obtain ⟨v, rfl, h⟩ := hd.one
    exact call_int1 pins s σ H _ us Q I rx (.inr ⟨b, by rw [h.getB], q _ H (Same.refl H) (.int _)⟩)
theorem cj_abs : CallJ X (.builtin "abs") kAbs := by
  intro U H xs ds rv Q hU hd ho q pins s σ us I rx
  match ds, ho with
  | [.int i], ho =>
    cases ho
    obtain ⟨v, rfl, h⟩ := hd.one
    exact call_abs pins s σ H _ us Q I rx ⟨i, by rw [h.getI], q _ H (Same.refl H) (.int _)⟩
end
/-- isinstance(x, T) -/
def isiD (T : String) (d : D) : Option Bool := if T = "int" then some (isNum d) else if T = "bool" then some (isBool d) else if T = "str" then some (isStr d) else if T = "tuple" then some (isTup d) else if T = "list" then some (isLst d) else none
theorem isiD_kit {T : String} {d : D} {b : Bool} (h : isiD T d = some b) : kitB (tyD d) T = some b := by
  unfold isiD at h
  split at h
  · rename_i e; subst e; rw [← h]; exact kit_int d
  · split at h
    · rename_i e; subst e; rw [← h]; exact kit_bool d
    · split at h
      · rename_i e; subst e; rw [← h]; exact kit_str d
      · split at h
        · rename_i e; subst e; rw [← h]; exact kit_tuple d
        · split at h
          · rename_i e; subst e; rw [← h]; exact kit_list d
          · cases h
def oIsi (T : String) (d : D) : Option RV := (isiD T d).map iB
end Sl
set_option Elab.async false
set_option linter.all false
set_option maxRecDepth 100000
set_option maxHeartbeats 4000000
namespace Sl
open PySem PySem.Spec PyProof.Rows L2
section
variable {X : Cx} {W : L2.WX} {e : Expr} {es : List Expr} {fe : Mo AV} {fa : Mo (List AV)} {pos p p2 : Pos} {x : Str} {T : String}
/-- isinstance(x, T), T a built-in class by its name -/
theorem j_isi {y : Str} (hg : Gl X x) (hm : X.mg x = none) (hv : bootBuiltins x = some (.builtin "isinstance")) (hgT : Gl X y) (hmT : X.mg y = none) (hvT : bootBuiltins y = some (.type T)) (ha : JE X W e fe)
    (hn : x ≠ "__name__" := by decide) (hdb : (x == ("__debug__" : Str)) = false := by decide) (hnT : y ≠ "__name__" := by decide) (hdbT : (y == ("__debug__" : Str)) = false := by decide)
    (he : starEach (e :: [.Name y p2]) X.env = (false, eval e X.env) :: starEach [.Name y p2] X.env := by rfl) (hpl : (backTo pos (starEach [.Name y p2] X.env)).any (·.1) = false := by rfl) :
    JE X W (.Call (.Name x p) [e, .Name y p2] [] pos) (eUn (oIsi T) fe) := by
  intro S env as σ τ H Q R r hf hx hk
  refine PE.w (pe_callB call_isi hg hm hv (pa_cons pe_w (pa_cons (pe_bltn (v := .ty T) hgT hmT hvT rfl hnT hdbT) pa_nil) he) hn hdb he hpl) (ha.use R hf hx fun av e1 as1 H1 τ1 v hf1 R1 E1 p1 V1 => ?_)
  obtain ⟨c, rv, h1, h2, h3⟩ := fin1_eq hf1
  unfold oIsi at h2
  cases hi : isiD T c with
  | none => rw [hi] at h2; cases h2
  | some b =>
    rw [hi] at h2
    cases h2
    exact ⟨v, .ty T, .type (tyD c), .type T, b, rfl, .ty T, tyX_da (V1.lk R1 h1).read, kit_ty (isiD_kit hi), fin_res R1 h3 (hk.step E1 p1) (Same.refl H1) (.bl _)⟩
end
/-! ### own defs -/
inductive Md where
  | v | r | m
def mkSV : Md → D → SV
  | .v, d => .dat d
  | .r, d => if isM d then .rd d else .dat d
  | .m, d => .mt d
inductive RO where
  | ret (rv : RV) (outs : List D)
  | exc (k : EK) (outs : List D)
abbrev Fs := List D → Option RO
/-- what the callee leaves at the lists and dicts that it may change -/
inductive Outs (T : Addr → Prop) (H : Hp) : List Md → List (Option Addr) → List D → Prop
  | nil : Outs T H [] [] []
  | skip {m : Md} {ms : List Md} {as : List (Option Addr)} {ds : List D} : m ≠ .m → Outs T H ms as ds → Outs T H (m :: ms) (none :: as) ds
  | m {ms : List Md} {a : Addr} {as : List (Option Addr)} {d : D} {ds : List D} : isM d = true → Dr T H (.ref a) d → Outs T H ms as ds → Outs T H (.m :: ms) (some a :: as) (d :: ds)
/-- a new list or dict, at p -/
def isNew (H : Hp) (v : V) : RV → Addr → Prop
  | .fre _, p => v = .ref p
  | _, _ => False
structure RetOk (S : Addr → Prop) (ms : List Md) (as : List (Option Addr)) (H H' : Hp) : Prop where
  kp : ∀ a o, some a ∉ as → H a = some o → H' a = some o
  up : ∀ a, H a ≠ none → H' a ≠ none
def spJ (mg : Str → Option Value) (ms : List Md) (F : Fs) : Sp := fun vs H Q E => ∃ (S : Addr → Prop) (ds : List D) (as : List (Option Addr)) (r : RO), ds.length = ms.length ∧ vs.length = ms.length ∧ Rel S (List.zipWith mkSV ms ds) as (vs.map some) H ∧ F ds = some r ∧
  match r with
  | .ret rv outs => ∀ v H', RetOk S ms as H H' → Outs (fun a => S a ∨ isNew H v rv a) H' ms as outs → ResV S H H' v rv → Q v H'
  | .exc k outs => ∀ H' cls d, RetOk S ms as H H' → Outs S H' ms as outs → ExcAt mg S H' cls d k → E cls d H'

inductive Lk where
  | no | rd (i : Nat) | mt (i : Nat)
def bindA (e : JEnv) : List Md → List AV → Option (List D × List Lk × JEnv)
  | [], [] => some ([], [], e)
  | .v :: ms, a :: as => match fz e a with
    | some (d, e1) => match bindA e1 ms as with
      | some (ds, ls, e2) => some (d :: ds, .no :: ls, e2)
      | none => none
    | none => none
  | .r :: ms, a :: as => match lk e a with
    | some d => match bindA e ms as with
      | some (ds, ls, e2) => some (d :: ds, (match a with | .nam i => .rd i | _ => .no) :: ls, e2)
      | none => none
    | none => none
  | .m :: ms, .nam i :: as => match e[i]? with
    | some x => match x with
      | .own d => match bindA e ms as with
        | some (ds, ls, e2) => some (d :: ds, .mt i :: ls, e2)
        | none => none
      | .mt d => match bindA e ms as with
        | some (ds, ls, e2) => some (d :: ds, .mt i :: ls, e2)
        | none => none
      | _ => none
    | none => none
  | _, _ => none
def mts : List Lk → List Nat
  | [] => []
  | .mt i :: ls => i :: mts ls
  | _ :: ls => mts ls
def rds : List Lk → List Nat
  | [] => []
  | .rd i :: ls => i :: rds ls
  | _ :: ls => rds ls
/-- no list is given twice to be changed, none is given to be changed and to be read -/
def lkOk (ls : List Lk) : Bool := decide (mts ls).Nodup && (rds ls).all fun i => !(mts ls).contains i
def putBack (e : JEnv) : List Lk → List D → Option JEnv
  | [], [] => some e
  | .mt i :: ls, d :: ds => match e[i]? with
    | some x => match x with
      | .own _ => putBack (e.set i (.own d)) ls ds
      | .mt _ => putBack (e.set i (.mt d)) ls ds
      | _ => none
    | none => none
  | .no :: ls, ds => putBack e ls ds
  | .rd _ :: ls, ds => putBack e ls ds
  | _, _ => none
def eCall (ms : List Md) (F : Fs) (fa : Mo (List AV)) : Mo AV := bnd fa fun avs => fun e => match bindA e ms avs with
  | some (ds, ls, e1) => if lkOk ls then (match F ds with
    | some (.ret rv outs) => (match putBack e1 ls outs with
      | some e2 => mkR rv e2
      | none => none)
    | some (.exc k outs) => (match putBack e1 ls outs with
      | some e2 => some (.ex k e2)
      | none => none)
    | none => none) else none
  | none => none
def aOf (as : List (Option Addr)) : Lk → Option Addr
  | .mt i => (as[i]?).getD none
  | _ => none
/-- how the arguments lie -/
inductive Bd (S : Addr → Prop) (as : List (Option Addr)) (ς : L2.St) (H : Hp) (env : JEnv) : List V → List Md → List D → List Lk → Prop
  | nil : Bd S as ς H env [] [] [] []
  | v {v : V} {vs : List V} {ms : List Md} {d : D} {ds : List D} {ls : List Lk} : Da (So S as) H v d → Bd S as ς H env vs ms ds ls → Bd S as ς H env (v :: vs) (.v :: ms) (d :: ds) (.no :: ls)
  | rN {v : V} {vs : List V} {ms : List Md} {d : D} {ds : List D} {ls : List Lk} : Da (So S as) H v d → Bd S as ς H env vs ms ds ls → Bd S as ς H env (v :: vs) (.r :: ms) (d :: ds) (.no :: ls)
  | r {v : V} {vs : List V} {ms : List Md} {d : D} {ds : List D} {ls : List Lk} {i : Nat} : Dr (So S as) H v d → (vl ς i = some v ∧ ∃ x, env[i]? = some x ∧ svD x = some d) → Bd S as ς H env vs ms ds ls → Bd S as ς H env (v :: vs) (.r :: ms) (d :: ds) (.rd i :: ls)
  | m {v : V} {vs : List V} {ms : List Md} {d : D} {ds : List D} {ls : List Lk} {i : Nat} : vl ς i = some v → (∃ x, env[i]? = some x ∧ svD x = some d) → Bd S as ς H env vs ms ds ls → Bd S as ς H env (v :: vs) (.m :: ms) (d :: ds) (.mt i :: ls)
section
variable {S : Addr → Prop} {env env1 : JEnv} {as as1 : List (Option Addr)} {ς : L2.St} {H H1 : Hp}
theorem fz_sv {a : AV} {d : D} (h : fz env a = some (d, env1)) (i : Nat) {x : SV} (e : env[i]? = some x) : ∃ y, env1[i]? = some y ∧ svD y = svD x := by
  cases a with
  | dat c => cases h; exact ⟨x, e, rfl⟩
  | raw c => cases h
  | nam j =>
    unfold fz at h
    cases q : env[j]? with
    | none => simp only [q] at h; cases h
    | some y =>
      cases y with
      | own c =>
        simp only [q] at h
        cases h
        by_cases hj : j = i
        · subst hj
          rw [q] at e
          cases e
          exact ⟨_, List.getElem?_set_self (List.getElem?_eq_some_iff.mp q).1, rfl⟩
        · exact ⟨x, by rw [List.getElem?_set_ne hj]; exact e, rfl⟩
      | dat c => simp only [q] at h; cases h; exact ⟨x, e, rfl⟩
      | _ => simp only [q] at h; cases h
theorem bindA_sv : ∀ {ms : List Md} {avs : List AV} {env env1 : JEnv} {ds : List D} {ls : List Lk}, bindA env ms avs = some (ds, ls, env1) → ∀ (i : Nat) {x : SV}, env[i]? = some x → ∃ y, env1[i]? = some y ∧ svD y = svD x
  | [], [], _, _, _, _, h, i, x, e => by
    cases h
    exact ⟨x, e, rfl⟩
  | .v :: ms, a :: avs, env, env1, ds, ls, h, i, x, e => by
    unfold bindA at h
    cases h1 : fz env a with
    | none => simp only [h1] at h; cases h
    | some p =>
      obtain ⟨d, e1⟩ := p
      simp only [h1] at h
      cases h2 : bindA e1 ms avs with
      | none => simp only [h2] at h; cases h
      | some q =>
        obtain ⟨ds', ls', e2⟩ := q
        simp only [h2] at h
        cases h
        obtain ⟨y, q1, q2⟩ := fz_sv h1 i e
        obtain ⟨z, q3, q4⟩ := bindA_sv h2 i q1
        exact ⟨z, q3, q4.trans q2⟩
  | .r :: ms, a :: avs, env, env1, ds, ls, h, i, x, e => by
    unfold bindA at h
    cases h1 : lk env a with
    | none => simp only [h1] at h; cases h
    | some d =>
      simp only [h1] at h
      cases h2 : bindA env ms avs with
      | none => simp only [h2] at h; cases h
      | some q =>
        obtain ⟨ds', ls', e2⟩ := q
        simp only [h2] at h
        cases h
        exact bindA_sv h2 i e
  | .m :: ms, .nam j :: avs, env, env1, ds, ls, h, i, x, e => by
    unfold bindA at h
    cases h1 : env[j]? with
    | none => simp only [h1] at h; cases h
    | some y =>
      cases y with
      | own d =>
        simp only [h1] at h
        cases h2 : bindA env ms avs with
        | none => simp only [h2] at h; cases h
        | some q =>
          obtain ⟨ds', ls', e2⟩ := q
          simp only [h2] at h
          cases h
          exact bindA_sv h2 i e
      | mt d =>
        simp only [h1] at h
        cases h2 : bindA env ms avs with
        | none => simp only [h2] at h; cases h
        | some q =>
          obtain ⟨ds', ls', e2⟩ := q
          simp only [h2] at h
          cases h
          exact bindA_sv h2 i e
      | _ => simp only [h1] at h; cases h
  | .m :: _, .dat _ :: _, _, _, _, _, h, _, _, _ => by unfold bindA at h; cases h
  | .m :: _, .raw _ :: _, _, _, _, _, h, _, _, _ => by unfold bindA at h; cases h
  | [], _ :: _, _, _, _, _, h, _, _, _ => by unfold bindA at h; cases h
  | .v :: _, [], _, _, _, _, h, _, _, _ => by unfold bindA at h; cases h
  | .r :: _, [], _, _, _, _, h, _, _, _ => by unfold bindA at h; cases h
  | .m :: _, [], _, _, _, _, h, _, _, _ => by unfold bindA at h; cases h
theorem Bd.ext {vs : List V} {ms : List Md} {ds : List D} {ls : List Lk} (h : Bd S as ς H env vs ms ds ls) (x : ExtS S as H as1 H) : Bd S as1 ς H env vs ms ds ls := by
  induction h with
  | nil => exact .nil
  | v d _ ih => exact .v (x.so d) ih
  | rN d _ ih => exact .rN (x.so d) ih
  | r d e _ ih => exact .r (x.soR d fun _ _ _ e => e) e ih
  | m e f _ ih => exact .m e f ih
theorem bind_ok : ∀ {ms : List Md} {avs : List AV} {env env1 : JEnv} {as : List (Option Addr)} {vs : List V} {ds : List D} {ls : List Lk}, Rel S env as ς H → VAs S as H ς vs avs → bindA env ms avs = some (ds, ls, env1) →
    ∃ as1, Rel S env1 as1 ς H ∧ ExtS S as H as1 H ∧ Bd S as1 ς H env1 vs ms ds ls
  | [], [], env, env1, as, _, ds, ls, R, .nil, h => by
    cases h
    exact ⟨as, R, .refl, .nil⟩
  | .v :: ms, a :: avs, env, env1, as, _, ds, ls, R, .cons V t, h => by
    unfold bindA at h
    cases h1 : fz env a with
    | none => simp only [h1] at h; cases h
    | some p =>
      obtain ⟨d, e1⟩ := p
      simp only [h1] at h
      cases h2 : bindA e1 ms avs with
      | none => simp only [h2] at h; cases h
      | some q =>
        obtain ⟨ds', ls', e2⟩ := q
        simp only [h2] at h
        cases h
        obtain ⟨as1, R1, E1, g1⟩ := fz_ok R V h1
        obtain ⟨as2, R2, E2, g2⟩ := bind_ok R1 (t.ext E1 (List.prefix_refl _)) h2
        exact ⟨as2, R2, E1.trans E2, .v (E2.so g1) g2⟩
  | .r :: ms, a :: avs, env, env1, as, _, ds, ls, R, .cons V t, h => by
    unfold bindA at h
    cases h1 : lk env a with
    | none => simp only [h1] at h; cases h
    | some d =>
      simp only [h1] at h
      cases h2 : bindA env ms avs with
      | none => simp only [h2] at h; cases h
      | some q =>
        obtain ⟨ds', ls', e2⟩ := q
        simp only [h2] at h
        cases h
        have g1 := V.lk R h1
        obtain ⟨as2, R2, E2, g2⟩ := bind_ok R t h2
        cases a with
        | raw _ => cases h1
        | dat c =>
          cases h1
          exact ⟨as2, R2, E2, .rN (E2.so V) g2⟩
        | nam i =>
          unfold lk at h1
          cases q : env[i]? with
          | none => simp only [q] at h1; cases h1
          | some y =>
            simp only [q] at h1
            obtain ⟨z, q1, q2⟩ := bindA_sv h2 i q
            exact ⟨as2, R2, E2, .r (E2.soR g1 fun _ _ _ e => e) ⟨V, z, q1, q2.trans h1⟩ g2⟩
  | .m :: ms, .nam j :: avs, env, env1, as, _, ds, ls, R, .cons V t, h => by
    unfold bindA at h
    cases h1 : env[j]? with
    | none => simp only [h1] at h; cases h
    | some y =>
      cases y with
      | own d =>
        simp only [h1] at h
        cases h2 : bindA env ms avs with
        | none => simp only [h2] at h; cases h
        | some q =>
          obtain ⟨ds', ls', e2⟩ := q
          simp only [h2] at h
          cases h
          obtain ⟨as2, R2, E2, g2⟩ := bind_ok R t h2
          obtain ⟨z, q1, q2⟩ := bindA_sv h2 j h1
          exact ⟨as2, R2, E2, .m V ⟨z, q1, q2⟩ g2⟩
      | mt d =>
        simp only [h1] at h
        cases h2 : bindA env ms avs with
        | none => simp only [h2] at h; cases h
        | some q =>
          obtain ⟨ds', ls', e2⟩ := q
          simp only [h2] at h
          cases h
          obtain ⟨as2, R2, E2, g2⟩ := bind_ok R t h2
          obtain ⟨z, q1, q2⟩ := bindA_sv h2 j h1
          exact ⟨as2, R2, E2, .m V ⟨z, q1, q2⟩ g2⟩
      | _ => simp only [h1] at h; cases h
  | .m :: _, .dat _ :: _, _, _, _, _, _, _, _, _, h => by unfold bindA at h; cases h
  | .m :: _, .raw _ :: _, _, _, _, _, _, _, _, _, h => by unfold bindA at h; cases h
  | [], _ :: _, _, _, _, _, _, _, _, _, h => by unfold bindA at h; cases h
  | .v :: _, [], _, _, _, _, _, _, _, _, h => by unfold bindA at h; cases h
  | .r :: _, [], _, _, _, _, _, _, _, _, h => by unfold bindA at h; cases h
  | .m :: _, [], _, _, _, _, _, _, _, _, h => by unfold bindA at h; cases h
theorem Bd.lens {vs : List V} {ms : List Md} {ds : List D} {ls : List Lk} (h : Bd S as ς H env vs ms ds ls) : vs.length = ms.length ∧ ds.length = ms.length ∧ ls.length = ms.length := by
  induction h with
  | nil => exact ⟨rfl, rfl, rfl⟩
  | v _ _ ih => exact ⟨congrArg (· + 1) ih.1, congrArg (· + 1) ih.2.1, congrArg (· + 1) ih.2.2⟩
  | rN _ _ ih => exact ⟨congrArg (· + 1) ih.1, congrArg (· + 1) ih.2.1, congrArg (· + 1) ih.2.2⟩
  | r _ _ _ ih => exact ⟨congrArg (· + 1) ih.1, congrArg (· + 1) ih.2.1, congrArg (· + 1) ih.2.2⟩
  | m _ _ _ ih => exact ⟨congrArg (· + 1) ih.1, congrArg (· + 1) ih.2.1, congrArg (· + 1) ih.2.2⟩
/-- where all that is to be changed is still owned -/
def Owned (env : JEnv) (ls : List Lk) : Prop := ∀ i, i ∈ mts ls → ∃ d, env[i]? = some (.own d) ∨ env[i]? = some (.mt d)
theorem mts_mem {ls : List Lk} {j k : Nat} (h : ls[k]? = some (.mt j)) : j ∈ mts ls := by
  induction ls generalizing k with
  | nil => cases h
  | cons l ls ih =>
    cases k with
    | zero =>
      cases h
      exact List.mem_cons_self
    | succ k =>
      have := ih (k := k) h
      cases l <;> first | exact List.mem_cons_of_mem _ this | exact this
theorem rds_mem {ls : List Lk} {j k : Nat} (h : ls[k]? = some (.rd j)) : j ∈ rds ls := by
  induction ls generalizing k with
  | nil => cases h
  | cons l ls ih =>
    cases k with
    | zero =>
      cases h
      exact List.mem_cons_self
    | succ k =>
      have := ih (k := k) h
      cases l <;> first | exact List.mem_cons_of_mem _ this | exact this
theorem mts_inj {ls : List Lk} (nd : (mts ls).Nodup) {i j k : Nat} (h1 : ls[i]? = some (.mt k)) (h2 : ls[j]? = some (.mt k)) : i = j := by
  induction ls generalizing i j with
  | nil => cases h1
  | cons l ls ih =>
    cases i with
    | zero =>
      cases j with
      | zero => rfl
      | succ j =>
        cases h1
        exact absurd (mts_mem (ls := ls) (k := j) h2) (List.nodup_cons.mp nd).1
    | succ i =>
      cases j with
      | zero =>
        cases h2
        exact absurd (mts_mem (ls := ls) (k := i) h1) (List.nodup_cons.mp nd).1
      | succ j =>
        have nd' : (mts ls).Nodup := by
          cases l <;> first | exact (List.nodup_cons.mp nd).2 | exact nd
        exact congrArg (· + 1) (ih nd' h1 h2)
/-- one place of them -/
def PW (S : Addr → Prop) (as : List (Option Addr)) (ς : L2.St) (H : Hp) (env : JEnv) (v : V) (d : D) (l : Lk) : Md → Prop
  | .v => l = .no ∧ Da (So S as) H v d
  | .r => (l = .no ∧ Da (So S as) H v d) ∨ ∃ i, l = .rd i ∧ Dr (So S as) H v d ∧ vl ς i = some v ∧ ∃ x, env[i]? = some x ∧ svD x = some d
  | .m => ∃ i, l = .mt i ∧ vl ς i = some v ∧ ∃ x, env[i]? = some x ∧ svD x = some d
theorem Bd.get {vs : List V} {ms : List Md} {ds : List D} {ls : List Lk} (h : Bd S as ς H env vs ms ds ls) : ∀ {i : Nat} {m : Md} {d : D}, ms[i]? = some m → ds[i]? = some d → ∃ v l, vs[i]? = some v ∧ ls[i]? = some l ∧ PW S as ς H env v d l m := by
  induction h with
  | nil => intro i m d h; cases h
  | v g _ ih =>
    intro i m d h1 h2
    cases i with
    | zero => cases h1; cases h2; exact ⟨_, _, rfl, rfl, rfl, g⟩
    | succ i => exact ih (i := i) h1 h2
  | rN g _ ih =>
    intro i m d h1 h2
    cases i with
    | zero => cases h1; cases h2; exact ⟨_, _, rfl, rfl, .inl ⟨rfl, g⟩⟩
    | succ i => exact ih (i := i) h1 h2
  | r g e _ ih =>
    intro i m d h1 h2
    cases i with
    | zero => cases h1; cases h2; exact ⟨_, _, rfl, rfl, .inr ⟨_, rfl, g, e⟩⟩
    | succ i => exact ih (i := i) h1 h2
  | m g e _ ih =>
    intro i m d h1 h2
    cases i with
    | zero => cases h1; cases h2; exact ⟨_, _, rfl, rfl, _, rfl, g, e⟩
    | succ i => exact ih (i := i) h1 h2
theorem Rel.own_of (R : Rel S env as ς H) {i : Nat} {d : D} (h : env[i]? = some (.own d) ∨ env[i]? = some (.mt d)) : ∃ a, as[i]? = some (some a) ∧ vl ς i = some (.ref a) ∧ isM d = true ∧ Dr (So S as) H (.ref a) d := by
  rcases h with h | h
  · obtain ⟨oa, e, a, rfl, h1, _, h2, h3⟩ := R.slot i _ h
    exact ⟨a, e, h1, h2, h3⟩
  · obtain ⟨oa, e, a, rfl, h1, _, h2, h3⟩ := R.slot i _ h
    exact ⟨a, e, h1, h2, h3⟩
/-- the callee's state -/
theorem Bd.rel {vs : List V} {ms : List Md} {ds : List D} {ls : List Lk} (h : Bd S as ς H env vs ms ds ls) (R : Rel S env as ς H) (ok : lkOk ls = true) (ow : Owned env ls) :
    Rel (So S as) (List.zipWith mkSV ms ds) (ls.map (aOf as)) (vs.map some) H := by
  obtain ⟨l1, l2, l3⟩ := h.lens
  unfold lkOk at ok
  rw [Bool.and_eq_true] at ok
  have nd : (mts ls).Nodup := of_decide_eq_true ok.1
  have hall : ∀ i, i ∈ rds ls → i ∉ mts ls := fun i hi hm => by
    have := List.all_eq_true.mp ok.2 i hi
    simp [hm] at this
  -- what stands at a place of the callee's addresses
  have acAt : ∀ {i : Nat} {a : Addr}, (ls.map (aOf as))[i]? = some (some a) → ∃ k : Nat, ls[i]? = some (Lk.mt k) ∧ as[k]? = some (some a) := by
    intro i a e
    rw [List.getElem?_map] at e
    cases q : ls[i]? with
    | none => rw [q] at e; cases e
    | some l =>
      rw [q] at e
      have e' : aOf as l = some a := Option.some.inj e
      cases l with
      | no => cases e'
      | rd _ => cases e'
      | mt k =>
        refine ⟨k, rfl, ?_⟩
        have e2 : (as[k]?).getD none = some a := e'
        cases z : as[k]? with
        | none => rw [z] at e2; cases e2
        | some o => rw [z] at e2; rw [show o = some a from e2]
  have acIn : ∀ {a : Addr}, some a ∈ ls.map (aOf as) → ∃ i k : Nat, ls[i]? = some (Lk.mt k) ∧ as[k]? = some (some a) := by
    intro a m
    obtain ⟨i, e⟩ := List.mem_iff_getElem?.mp m
    obtain ⟨k, e1, e2⟩ := acAt e
    exact ⟨i, k, e1, e2⟩
  have sub : ∀ a, So (So S as) (ls.map (aOf as)) a → So S as a := by
    intro a m
    rcases m with m | m
    · exact m
    · obtain ⟨i, k, _, e⟩ := acIn m
      exact .inr (List.mem_of_getElem? e)
  refine ⟨by simp [l2, l3], by simp [l1, l2], fun i x e => ?_, fun i j a e1 e2 => ?_, R.mo⟩
  · rw [List.getElem?_zipWith] at e
    cases hm : ms[i]? with
    | none => rw [hm] at e; cases e
    | some m =>
      cases hd : ds[i]? with
      | none => rw [hm, hd] at e; cases e
      | some d =>
        rw [hm, hd] at e
        have e' : mkSV m d = x := Option.some.inj e
        subst e'
        obtain ⟨v, l, hv, hl, pw⟩ := h.get hm hd
        have hvl : vl (vs.map some) i = some v := by
          unfold vl
          rw [List.getElem?_map, hv]
          rfl
        refine ⟨aOf as l, by rw [List.getElem?_map, hl]; rfl, ?_⟩
        cases m with
        | v =>
          obtain ⟨rfl, g⟩ := pw
          exact ⟨rfl, v, hvl, g.less sub⟩
        | m =>
          obtain ⟨k, rfl, g1, y, g2, g3⟩ := pw
          obtain ⟨d', ho⟩ := ow k (mts_mem hl)
          have hd' : d' = d := by
            rcases ho with ho | ho
            · rw [g2] at ho; cases ho; cases g3; rfl
            · rw [g2] at ho; cases ho; cases g3; rfl
          subst hd'
          obtain ⟨a, q1, q2, q3, q4⟩ := R.own_of ho
          rw [g1] at q2
          cases q2
          exact ⟨a, by show (as[k]?).getD none = some a; rw [q1]; rfl, hvl, .inr (List.mem_of_getElem? q1), q3, q4.less sub⟩
        | r =>
          have key : ∀ (_ : isM d = true → ∀ a, v = .ref a → some a ∉ ls.map (aOf as)) (_ : Dr (So S as) H v d) (_ : aOf as l = none), SlotOk (So S as) (ls.map (aOf as)) (vs.map some) H i (aOf as l) (mkSV .r d) := by
            intro no g hl'
            show SlotOk (So S as) (ls.map (aOf as)) (vs.map some) H i (aOf as l) (if isM d then .rd d else .dat d)
            cases hM : isM d with
            | false =>
              rw [if_neg (by simp)]
              exact ⟨hl', v, hvl, (g.daN hM R.mo).less sub⟩
            | true =>
              rw [if_pos rfl]
              obtain ⟨a, o, ea, _, _⟩ := g.mo hM
              subst ea
              exact ⟨hl', a, hvl, no hM a rfl, hM, g.less sub⟩
          rcases pw with ⟨rfl, g⟩ | ⟨k, rfl, g, gk, y, gy, gd⟩
          · refine key (fun _ a ea m => ?_) g.dr rfl
            subst ea
            obtain ⟨i', k', _, e2⟩ := acIn m
            exact g.off (.inr (List.mem_of_getElem? e2))
          · refine key (fun hM a ea m => ?_) g rfl
            subst ea
            obtain ⟨i', k', e1, e2⟩ := acIn m
            have hk' := mts_mem e1
            obtain ⟨d', ho⟩ := ow k' hk'
            obtain ⟨a', q1, q2, _, _⟩ := R.own_of ho
            rw [e2] at q1
            cases q1
            -- slot k holds the same object as slot k'
            obtain ⟨oa, f1, f2⟩ := R.slot k _ gy
            have hmem : some a ∈ as := List.mem_of_getElem? e2
            cases y with
            | no => cases gd
            | raw c => cases gd
            | xc _ _ _ => cases gd
            | dat c =>
              obtain ⟨_, w, w1, w2⟩ := f2
              rw [gk] at w1
              cases w1
              exact w2.off (.inr hmem)
            | rd c =>
              obtain ⟨_, w, w1, w2, _⟩ := f2
              rw [gk] at w1
              cases w1
              exact w2 hmem
            | own c =>
              obtain ⟨w, rfl, w1, _⟩ := f2
              rw [gk] at w1
              cases w1
              have := R.inj k k' a f1 e2
              subst this
              exact hall k (rds_mem hl) hk'
            | mt c =>
              obtain ⟨w, rfl, w1, _⟩ := f2
              rw [gk] at w1
              cases w1
              have := R.inj k k' a f1 e2
              subst this
              exact hall k (rds_mem hl) hk'
  · obtain ⟨k1, f1, g1⟩ := acAt e1
    obtain ⟨k2, f2, g2⟩ := acAt e2
    have := R.inj k1 k2 a g1 g2
    subst this
    exact mts_inj nd f1 f2
end
end Sl
set_option Elab.async false
set_option linter.all false
set_option maxRecDepth 100000
set_option maxHeartbeats 4000000
namespace Sl
open PySem PySem.Spec PyProof.Rows L2
inductive Al : List Md → List Lk → Prop
  | nil : Al [] []
  | o {m : Md} {l : Lk} {ms : List Md} {ls : List Lk} : m ≠ .m → (∀ i, l ≠ .mt i) → Al ms ls → Al (m :: ms) (l :: ls)
  | m {i : Nat} {ms : List Md} {ls : List Lk} : Al ms ls → Al (.m :: ms) (.mt i :: ls)
section
variable {S T N : Addr → Prop} {env e2 : JEnv} {as as1 : List (Option Addr)} {ς : L2.St} {H H' : Hp}
theorem Bd.al {vs : List V} {ms : List Md} {ds : List D} {ls : List Lk} (h : Bd S as ς H env vs ms ds ls) : Al ms ls := by
  induction h with
  | nil => exact .nil
  | v _ _ ih => exact .o (fun z => nomatch z) (fun _ z => nomatch z) ih
  | rN _ _ ih => exact .o (fun z => nomatch z) (fun _ z => nomatch z) ih
  | r _ _ _ ih => exact .o (fun z => nomatch z) (fun _ z => nomatch z) ih
  | m _ _ _ ih => exact .m ih
/-- slot j behind a call -/
def Back (T : Addr → Prop) (H' : Hp) (as : List (Option Addr)) (env e2 : JEnv) (j : Nat) : Prop :=
  ∃ a d d', as[j]? = some (some a) ∧ isM d' = true ∧ Dr T H' (.ref a) d' ∧ ((env[j]? = some (.own d) ∧ e2[j]? = some (.own d')) ∨ (env[j]? = some (.mt d) ∧ e2[j]? = some (.mt d')))
theorem putBack_no {l : Lk} {ls : List Lk} {ds : List D} (h : ∀ i, l ≠ .mt i) : putBack env (l :: ls) ds = putBack env ls ds := by
  cases l with
  | mt i => exact absurd rfl (h i)
  | no => cases ds <;> rfl
  | rd i => cases ds <;> rfl
theorem mts_no {l : Lk} {ls : List Lk} (h : ∀ i, l ≠ .mt i) : mts (l :: ls) = mts ls := by
  cases l with
  | mt i => exact absurd rfl (h i)
  | no => rfl
  | rd i => rfl
theorem putBack_own {ms : List Md} {ls : List Lk} (al : Al ms ls) : ∀ {outs : List D} {env e2 : JEnv}, putBack env ls outs = some e2 → ∀ i, i ∈ mts ls → ∃ d, env[i]? = some (.own d) ∨ env[i]? = some (.mt d) := by
  induction al with
  | nil => intro _ _ _ _ i hi; cases hi
  | o _ hl _ ih =>
    intro outs env e2 h i hi
    rw [putBack_no hl] at h
    rw [mts_no hl] at hi
    exact ih h i hi
  | @m j ms ls _ ih =>
    intro outs env e2 h i hi
    cases outs with
    | nil => unfold putBack at h; cases h
    | cons d ds =>
      unfold putBack at h
      cases q : env[j]? with
      | none => simp only [q] at h; cases h
      | some x =>
        have go : ∀ y : SV, (∃ c, y = .own c ∨ y = .mt c) → putBack (env.set j y) ls ds = some e2 → (∃ c, x = .own c ∨ x = .mt c) → ∃ d, env[i]? = some (.own d) ∨ env[i]? = some (.mt d) := by
          intro y hy h hx
          by_cases e : j = i
          · subst e
            obtain ⟨c, hc | hc⟩ := hx
            · exact ⟨c, .inl (by rw [q, hc])⟩
            · exact ⟨c, .inr (by rw [q, hc])⟩
          · rcases List.mem_cons.mp hi with z | z
            · exact absurd z.symm e
            · obtain ⟨d', g⟩ := ih h i z
              rw [List.getElem?_set_ne e] at g
              exact ⟨d', g⟩
        cases x with
        | own c => simp only [q] at h; exact go _ ⟨_, .inl rfl⟩ h ⟨_, .inl rfl⟩
        | mt c => simp only [q] at h; exact go _ ⟨_, .inr rfl⟩ h ⟨_, .inr rfl⟩
        | _ => simp only [q] at h; cases h
theorem putBack_ok {ms : List Md} {ls : List Lk} (al : Al ms ls) : ∀ {outs : List D} {env e2 : JEnv}, putBack env ls outs = some e2 → Outs T H' ms (ls.map (aOf as)) outs → (mts ls).Nodup →
    e2.length = env.length ∧ (∀ j, j ∉ mts ls → e2[j]? = env[j]?) ∧ ∀ j, j ∈ mts ls → Back T H' as env e2 j := by
  induction al with
  | nil =>
    intro outs env e2 h ho _
    cases ho
    cases h
    exact ⟨rfl, fun _ _ => rfl, fun j hj => by cases hj⟩
  | @o m l ms ls hm hl _ ih =>
    intro outs env e2 h ho nd
    rw [putBack_no hl] at h
    rw [mts_no hl] at nd ⊢
    have ho' : Outs T H' ms (ls.map (aOf as)) outs := by
      have ea : aOf as l = none := by
        cases l with
        | mt i => exact absurd rfl (hl i)
        | no => rfl
        | rd i => rfl
      rw [List.map_cons, ea] at ho
      cases ho with
      | skip _ t => exact t
    exact ih h ho' nd
  | @m i ms ls al ih =>
    intro outs env e2 h ho nd
    have nd' := List.nodup_cons.mp nd
    have nd2 : (mts ls).Nodup := nd'.2
    have ni : i ∉ mts ls := nd'.1
    have ho2 : Outs T H' (.m :: ms) ((as[i]?).getD none :: ls.map (aOf as)) outs := ho
    generalize ea : (as[i]?).getD none = oa at ho2
    cases ho2 with
    | skip nm _ => exact absurd rfl nm
    | @m _ a _ d ds hM hD t =>
      have hai : as[i]? = some (some a) := by
        cases q : as[i]? with
        | none => rw [q] at ea; cases ea
        | some o => rw [q] at ea; rw [show o = some a from ea]
      unfold putBack at h
      cases q : env[i]? with
      | none => simp only [q] at h; cases h
      | some x =>
        have il : i < env.length := (List.getElem?_eq_some_iff.mp q).1
        have go : ∀ y : SV, putBack (env.set i y) ls ds = some e2 → (∀ c, (x = .own c ∧ y = .own d) ∨ (x = .mt c ∧ y = .mt d) → True) → (∃ c, (x = .own c ∧ y = .own d) ∨ (x = .mt c ∧ y = .mt d)) →
            e2.length = env.length ∧ (∀ j, j ∉ mts (.mt i :: ls) → e2[j]? = env[j]?) ∧ ∀ j, j ∈ mts (.mt i :: ls) → Back T H' as env e2 j := by
          intro y h _ hx
          obtain ⟨g1, g2, g3⟩ := ih h t nd2
          refine ⟨by rw [g1]; simp, fun j hj => ?_, fun j hj => ?_⟩
          · have hj' : ¬ (j = i ∨ j ∈ mts ls) := fun z => hj (List.mem_cons.mpr z)
            rw [g2 j fun z => hj' (.inr z), List.getElem?_set_ne fun z => hj' (.inl z.symm)]
          · rcases List.mem_cons.mp hj with z | z
            · subst z
              have e2j : e2[j]? = some y := by rw [g2 j ni, List.getElem?_set_self il]
              obtain ⟨c, ⟨rfl, rfl⟩ | ⟨rfl, rfl⟩⟩ := hx
              · exact ⟨a, c, d, hai, hM, hD, .inl ⟨q, e2j⟩⟩
              · exact ⟨a, c, d, hai, hM, hD, .inr ⟨q, e2j⟩⟩
            · have hne : i ≠ j := fun e => ni (by rw [e]; exact z)
              obtain ⟨b, c, d', k1, k2, k3, k4⟩ := g3 j z
              rw [List.getElem?_set_ne hne] at k4
              exact ⟨b, c, d', k1, k2, k3, k4⟩
        cases x with
        | own c => simp only [q] at h; exact go _ h (fun _ _ => trivial) ⟨c, .inl ⟨rfl, rfl⟩⟩
        | mt c => simp only [q] at h; exact go _ h (fun _ _ => trivial) ⟨c, .inr ⟨rfl, rfl⟩⟩
        | _ => simp only [q] at h; cases h
/-- addresses where nothing stood may be kept away from, too -/
theorem SlotOk.more (hN : ∀ a, N a → H a = none) {i : Nat} {oa : Option Addr} {x : SV} (h : SlotOk S as ς H i oa x) : SlotOk (fun a => S a ∨ N a) as ς H i oa x := by
  have le : ∀ a, So (fun a => S a ∨ N a) as a → So S as a ∨ N a := fun a m => by
    rcases m with (m | m) | m
    · exact .inl (.inl m)
    · exact .inr m
    · exact .inl (.inr m)
  cases x with
  | no => exact h
  | dat d =>
    obtain ⟨h1, v, h2, h3⟩ := h
    exact ⟨h1, v, h2, (h3.moreP hN).less le⟩
  | raw u => exact h
  | xc a d fs => exact ⟨h.1, h.2.1, (h.2.2.1.moreP hN).less le, h.2.2.2⟩
  | rd d =>
    obtain ⟨h1, a, h2, h3, h4, h5⟩ := h
    exact ⟨h1, a, h2, h3, h4, (h5.moreP hN).less le⟩
  | own d =>
    obtain ⟨a, h1, h2, h3, h4, h5⟩ := h
    refine ⟨a, h1, h2, fun m => ?_, h4, (h5.moreP hN).less le⟩
    rcases m with m | m
    · exact h3 m
    · obtain ⟨b, o, eb, ho, _⟩ := h5.mo h4
      cases eb
      rw [hN a m] at ho
      cases ho
  | mt d =>
    obtain ⟨a, h1, h2, h3, h4, h5⟩ := h
    exact ⟨a, h1, h2, .inl h3, h4, (h5.moreP hN).less le⟩
/-- behind a call -/
theorem Rel.after {vs : List V} {ms : List Md} {ds outs : List D} {ls : List Lk} (R : Rel S env as ς H) (b : Bd S as ς H env vs ms ds ls) (ok : lkOk ls = true) (hN : ∀ a, N a → H a = none) (hM : ∀ a, N a → ∃ o, H' a = some o ∧ isMO o)
    (rt : RetOk (So S as) ms (ls.map (aOf as)) H H') (ho : Outs (fun a => So S as a ∨ N a) H' ms (ls.map (aOf as)) outs) (hp : putBack env ls outs = some e2) :
    Rel (fun a => S a ∨ N a) e2 as ς H' ∧ ExtS S as H as H' := by
  have ok' := ok
  unfold lkOk at ok'
  rw [Bool.and_eq_true] at ok'
  have nd : (mts ls).Nodup := of_decide_eq_true ok'.1
  obtain ⟨g1, g2, g3⟩ := putBack_ok b.al hp ho nd
  have sub : ∀ a, some a ∈ ls.map (aOf as) → ∃ k, k ∈ mts ls ∧ as[k]? = some (some a) := by
    intro a m
    obtain ⟨l, hl, e⟩ := List.mem_map.mp m
    cases l with
    | no => cases e
    | rd _ => cases e
    | mt k =>
      obtain ⟨i, hi⟩ := List.mem_iff_getElem?.mp hl
      refine ⟨k, mts_mem hi, ?_⟩
      have e2 : (as[k]?).getD none = some a := e
      cases z : as[k]? with
      | none => rw [z] at e2; cases e2
      | some o => rw [z] at e2; rw [show o = some a from e2]
  have kp : ∀ a o, some a ∉ as → H a = some o → H' a = some o := fun a o n e => rt.kp a o (fun m => by
    obtain ⟨k, _, e⟩ := sub a m
    exact n (List.mem_of_getElem? e)) e
  have hE : ∀ U : Addr → Prop, ExtS U as H as H' := fun U => ⟨kp, fun _ h => .inl h, rt.up, fun _ _ _ e => e⟩
  refine ⟨⟨by rw [g1]; exact R.lenA, by rw [g1]; exact R.lenS, fun j x e => ?_, R.inj, fun a m => ?_⟩, hE S⟩
  · by_cases hj : j ∈ mts ls
    · obtain ⟨a, d, d', k1, k2, k3, k4⟩ := g3 j hj
      have k3' : Dr (So (fun a => S a ∨ N a) as) H' (.ref a) d' := k3.less fun c m => by
        rcases m with (m | m) | m
        · exact .inl (.inl m)
        · exact .inr m
        · exact .inl (.inr m)
      rcases k4 with ⟨k4, k5⟩ | ⟨k4, k5⟩
      · rw [e] at k5
        cases k5
        obtain ⟨oa, f1, w, rfl, f2, f3, f4, f5⟩ := R.slot j _ k4
        rw [k1] at f1
        cases f1
        refine ⟨some a, k1, a, rfl, f2, fun m => ?_, k2, k3'⟩
        rcases m with m | m
        · exact f3 m
        · obtain ⟨b, o, eb, ho, _⟩ := f5.mo f4
          cases eb
          rw [hN a m] at ho
          cases ho
      · rw [e] at k5
        cases k5
        obtain ⟨oa, f1, w, rfl, f2, f3, f4, f5⟩ := R.slot j _ k4
        rw [k1] at f1
        cases f1
        exact ⟨some a, k1, a, rfl, f2, .inl f3, k2, k3'⟩
    · rw [g2 j hj] at e
      obtain ⟨oa, e1, s⟩ := R.slot j x e
      refine ⟨oa, e1, (s.more hN).ext (hE _) (List.prefix_refl _) fun a o ea h => rt.kp a o (fun m => ?_) h⟩
      subst ea
      obtain ⟨k, hk, ek⟩ := sub a m
      have := R.inj _ _ _ e1 ek
      subst this
      exact hj hk
  · rcases m with m | m
    · obtain ⟨o, e, mo⟩ := R.so a m
      by_cases hm : some a ∈ ls.map (aOf as)
      · obtain ⟨k, hk, ek⟩ := sub a hm
        obtain ⟨b, d, d', k1, k2, k3, _⟩ := g3 k hk
        rw [ek] at k1
        cases k1
        obtain ⟨c, o', ec, ho', mo'⟩ := k3.mo k2
        cases ec
        exact ⟨o', ho', mo'⟩
      · exact ⟨o, rt.kp a o hm e, mo⟩
    · exact hM a m
/-- what is new is the frame's own from now on -/
theorem Rel.adopt {p : Addr} {d : D} (R : Rel (fun a => S a ∨ a = p) env as ς H) (nS : ¬ S p) (nA : some p ∉ as) (hM : isM d = true) (h : Dr (fun a => So S as a ∨ a = p) H (.ref p) d) (hmt : ∀ (i : Nat) a, as[i]? = some (some a) → a ≠ p)
    (hrd : ∀ (i : Nat) c a, env[i]? = some (.rd c) → vl ς i = some (.ref a) → a ≠ p) :
    Rel S (env ++ [.own d]) (as ++ [some p]) (ς ++ [some (.ref p)]) H := by
  have hle : as.length = env.length := R.lenA
  have hls : ς.length = env.length := R.lenS
  have le : ∀ a, So S (as ++ [some p]) a → So (fun a => S a ∨ a = p) as a := fun a m => by
    rcases m with m | m
    · exact .inl (.inl m)
    · rcases List.mem_append.mp m with m | m
      · exact .inr m
      · have := List.mem_singleton.mp m
        cases this
        exact .inl (.inr rfl)
  refine ⟨by simp [hle], by simp [hls], fun i x e => ?_, fun i j a e1 e2 => ?_, fun a s => R.so a (.inl s)⟩
  · by_cases hi : i < env.length
    · rw [List.getElem?_append_left hi] at e
      obtain ⟨oa, e1, ok⟩ := R.slot i x e
      refine ⟨oa, by rw [List.getElem?_append_left (by omega)]; exact e1, ?_⟩
      cases x with
      | no => exact ok
      | dat d =>
        obtain ⟨h1, v, h2, h3⟩ := ok
        exact ⟨h1, v, vl_app h2, h3.less le⟩
      | raw u => exact ⟨ok.1, vl_app ok.2⟩
      | xc a d fs =>
        refine ⟨ok.1, vl_app ok.2.1, ok.2.2.1.less le, fun b e m => ?_⟩
        rcases List.mem_append.mp m with m | m
        · exact ok.2.2.2 b e m
        · have := List.mem_singleton.mp m
          cases this
          subst e
          have hfl := ok.2.2.1
          cases hfl with
          | cons z _ _ =>
            obtain ⟨c, o, ec, ho, mo⟩ := h.mo hM
            cases ec
            rw [ho] at z
            cases z
            exact mo
      | rd d =>
        obtain ⟨h1, a, h2, h3, h4, h5⟩ := ok
        refine ⟨h1, a, vl_app h2, fun m => ?_, h4, h5.less le⟩
        rcases List.mem_append.mp m with m | m
        · exact h3 m
        · have := List.mem_singleton.mp m
          cases this
          exact hrd i d p e h2 rfl
      | own d =>
        obtain ⟨a, h1, h2, h3, h4, h5⟩ := ok
        exact ⟨a, h1, vl_app h2, fun s => h3 (.inl s), h4, h5.less le⟩
      | mt d =>
        obtain ⟨a, h1, h2, h3, h4, h5⟩ := ok
        subst h1
        exact ⟨a, rfl, vl_app h2, h3.resolve_right (hmt i a e1), h4, h5.less le⟩
    · have hx := (List.getElem?_eq_some_iff.mp e).1
      simp at hx
      have ei : i = env.length := by omega
      subst ei
      rw [List.getElem?_append_right (Nat.le_refl _)] at e
      simp at e
      subst e
      refine ⟨some p, by rw [← hle]; simp, p, rfl, by unfold vl; rw [← hls]; simp, nS, hM, h.less fun a s => ?_⟩
      rcases s with s | s
      · exact .inl (.inl s)
      · rcases List.mem_append.mp s with s | s
        · exact .inl (.inr s)
        · have := List.mem_singleton.mp s
          cases this
          exact .inr rfl
  · have at' : ∀ {i : Nat}, (as ++ [some p])[i]? = some (some a) → (as[i]? = some (some a)) ∨ (i = as.length ∧ a = p) := by
      intro i e
      by_cases hi : i < as.length
      · rw [List.getElem?_append_left hi] at e
        exact .inl e
      · have hx := (List.getElem?_eq_some_iff.mp e).1
        simp at hx
        have ei : i = as.length := by omega
        subst ei
        simp at e
        exact .inr ⟨rfl, e.symm⟩
    rcases at' e1 with f1 | ⟨f1, g1⟩
    · rcases at' e2 with f2 | ⟨f2, g2⟩
      · exact R.inj i j a f1 f2
      · subst g2
        exact absurd (List.mem_of_getElem? f1) nA
    · rcases at' e2 with f2 | ⟨f2, g2⟩
      · subst g1
        exact absurd (List.mem_of_getElem? f2) nA
      · omega
end

/-! ### f(..), f an own def -/
structure FnX (P : Program) (w : World) (K : PySem.W.Frag) (mg : Str → Option Value) (base : Heap) (k : Nat) (f : Addr) (fd : FuncData) (ps : List Str) (sp : Sp) : Prop where
  len : ∀ vs H Q E, sp vs H Q E → vs.length = ps.length
  go : ∀ (A : Around) (outer : List Env) (s : Shared) (H : Hp) (args : Args) (us : List Value) (vs : List V) (Q : VK) (E : XK), A.guards = some [] → Room k A → Env0 P w K mg base A outer s H →
    BindsTo s fd args (ps.zip us) → Vals vs us → sp vs H Q E → codeAny (model P w) A (.call (.ref f) args) (CR (L2.CX P w) outer P w H s Q E) s
variable {P : Program} {w : World} {K : PySem.W.Frag} {mg : Str → Option Value} {base : Heap}
theorem FnX.mono {j k : Nat} {f : Addr} {fd : FuncData} {ps : List Str} {sp : Sp} (F : FnX P w K mg base j f fd ps sp) (h : j ≤ k) : FnX P w K mg base k f fd ps sp :=
  ⟨F.len, fun A o s H as us vs Q E g r => F.go A o s H as us vs Q E g (r.mono h)⟩
/-- by its body -/
theorem fnX_mk {x qual : Str} {st : Stmt} {f : Addr} {fd : FuncData} {N ps : List Str} {k : Nat} {sp : Sp} (F : Fun K x qual st f fd) (S : FnScope N ps (defScope st)) (len : ∀ vs H Q E, sp vs H Q E → vs.length = ps.length)
    (body : ∀ (cdv : Value) (A : Around) (outer : List Env) (s : Shared) (H : Hp) (vs : List V) (Q : VK) (E : XK), A.guards = some [] → Room k (A.deeper (envOfC qual (defScope st) s.heap.objs.size f cdv)) → sp vs H Q E →
      ∃ t, PSs (cxOf (L2.CX P w) P w K mg base N qual (defScope st) f cdv A outer s H E) (defBody st) t ∧ t { nx := fun _ H' => Q .non H', rt := Q } (start N vs) H) : FnX P w K mg base (k + 1) f fd ps sp := by
  obtain ⟨oc, od, kV, doc, pm, an, cdv, ct, osl, rfl, lk, hcd⟩ := F.ex
  refine ⟨len, fun A outer s H args us vs Q E g hr e0 hb r hsp => ?_⟩
  have KX : K.In s.heap := e0.mod.kin.keeps fun b o e => (e0.bs b o e).1
  have par : ∀ y ∈ ps.zip us, (defScope st).names.lookup y.1 = some .local ∨ ((defScope st).names.lookup y.1 = some .cell ∧ ((cellsFrom (s.heap.objs.size + 1) (defScope st).names []).lookup y.1).isSome = true) := by
    intro y hy
    obtain ⟨n, v⟩ := y
    have hm : n ∈ ps := (List.of_mem_zip hy).1
    cases S.par n hm with
    | inl q => exact .inl q
    | inr q => exact .inr ⟨q, PySem.W.cellsFrom_some _ _ _ (.inl q)⟩
  refine codeAny_call_function hr.depth (KX _ _ lk) rfl S.co S.gen rfl (PySem.W.codeRec_of KX hcd) (hb _ _ _ _ ?_)
  refine wpAny_newFunctionEnv_cells S.kind par fun env he s1 x => ?_
  subst he
  have lim : s.heap.NoLimit := e0.mod.nolimit.keeps fun b o e => (e0.bs b o e).1
  refine ⟨lim.keeps x.toInCall.keep, codeAny_func ?_⟩
  obtain ⟨t, ht, hq⟩ := body cdv A outer s H vs Q E g (hr.deeper _) hsp
  have I := inv_start (CX := L2.CX P w) (E := E) (mg := mg) (base := base) (qual := qual) (f := f) (cd := cdv) S hr.hd e0 (len _ _ _ _ hsp) r x
  refine wpAny_mono (ht.run [] s1 (start N vs) H _ I hq) (fun fl s' hs => ?_) fun e s' hs => hs
  cases fl with
  | ret u =>
    obtain ⟨v, σ', H', J, rv, q⟩ := hs
    exact ⟨v, H', J.os, J.bare, J.base, J.hok, rv, q⟩
  | next =>
    obtain ⟨σ', H', J, q⟩ := hs
    exact ⟨.non, H', J.os, J.bare, J.base, J.hok, rfl, q⟩
  | brk =>
    obtain ⟨_, _, _, q⟩ := hs
    exact q.elim
  | cont =>
    obtain ⟨_, _, _, q⟩ := hs
    exact q.elim
section
variable {X : Cx} {W : L2.WX} {k : Nat} {f : Addr} {fd : FuncData} {ps : List Str} {sp : Sp} {x : Str} {p pos : Pos} {e : Expr} {es : List Expr} {t : TA}
theorem pe_callX (F : FnX X.prog X.w X.K X.mg X.base k f fd ps sp) (g : X.A.guards = some []) (hr : Room k X.A) (tk : Takes X W) (hg : Gl X x) (hm : X.mg x = some (.ref f)) (hk : PySem.W.keepIn X.K (.ref f) = true) (hb : Binds X.K fd ps [])
    (ha : PA X (e :: es) t) (hdb : (x == ("__debug__" : Str)) = false := by decide) (he : starEach (e :: es) X.env = (false, eval e X.env) :: starEach es X.env := by exact se_cons rfl) (hpl : (backTo pos (starEach es X.env)).any (·.1) = false := by exact se_any rfl) :
    PE X (.Call (.Name x p) (e :: es) [] pos) (fun σ H Q => t σ H fun vs H1 => sp vs H1 Q fun cls d H' => W cls d σ H') := by
  refine ⟨fun pins s σ H Q I h => wpAny_Call_Name_kw (ld_glob I hg hm ?_ hdb)⟩
  refine PySem.W.callWith_K (h₀ := X.base) I.ok.mod.kin hk (thn (ha.run pos pins s σ H _ I h) fun us s1 ⟨vs, H1, I1, r, q⟩ => ⟨I1.kIn, ?_⟩) he hpl
  have hl : us.length = ps.length := r.length.symm.trans (F.len _ _ _ _ q)
  have b1 := hb s1 us I1.kIn (by rw [List.append_nil]; exact hl)
  rw [List.append_nil] at b1
  refine wpAny_call (codeAny_mono (F.go X.A X.stack s1 H1 ⟨us, []⟩ us vs Q _ g hr I1.env0 b1 r q) fun res s' z => ?_)
  cases res with
  | error er => exact tk er s' (XE.of_call I1 (fun cls d H' h => h) z)
  | ok fl =>
    cases fl with
    | ret u => exact I1.after z
    | next => exact z.elim
    | brk => exact z.elim
    | cont => exact z.elim
theorem j_call {ms : List Md} {F : Fs} {fa : Mo (List AV)} (G : FnX X.prog X.w X.K X.mg X.base k f fd ps (spJ X.mg ms F)) (g : X.A.guards = some []) (hr : Room k X.A) (tk : Takes X W) (hg : Gl X x) (hm : X.mg x = some (.ref f)) (hk : PySem.W.keepIn X.K (.ref f) = true) (hb : Binds X.K fd ps [])
    (ha : JA X W (e :: es) fa) (hdb : (x == ("__debug__" : Str)) = false := by decide) (he : starEach (e :: es) X.env = (false, eval e X.env) :: starEach es X.env := by exact se_cons rfl) (hpl : (backTo pos (starEach es X.env)).any (·.1) = false := by exact se_any rfl) :
    JE X W (.Call (.Name x p) (e :: es) [] pos) (eCall ms F fa) := by
  intro S env as σ τ H Q R r hf hx hv
  refine PE.w (pe_callX G g hr tk hg hm hk hb pa_w hdb he hpl) (ha.use R hf hx fun avs e1 as1 H1 τ1 vs hf1 R1 E1 p1 V1 => ?_)
  have hx1 := hx.step E1 p1
  have hv1 := hv.step E1 p1
  cases h1 : bindA e1 ms avs with
  | none => simp only [h1] at hf1; cases hf1
  | some q =>
    obtain ⟨ds, ls, e2⟩ := q
    simp only [h1] at hf1
    cases h2 : lkOk ls with
    | false => simp [h2] at hf1
    | true =>
      simp only [h2, if_true] at hf1
      obtain ⟨as2, R2, E2, b⟩ := bind_ok R1 V1 h1
      have hx2 := hx1.step E2 (List.prefix_refl _)
      have hv2 := hv1.step E2 (List.prefix_refl _)
      obtain ⟨l1, l2, l3⟩ := b.lens
      cases h3 : F ds with
      | none => simp only [h3] at hf1; cases hf1
      | some ro =>
        cases ro with
        | exc kk outs =>
          simp only [h3] at hf1
          cases h4 : putBack e2 ls outs with
          | none => simp only [h4] at hf1; cases hf1
          | some e3 =>
            simp only [h4] at hf1
            have er := Option.some.inj hf1
            refine ⟨So S as2, ds, ls.map (aOf as2), _, l2, l1, b.rel R2 h2 (putBack_own b.al h4), h3, fun H' cls d rt ho hE => ?_⟩
            have ho' : Outs (fun a => So S as2 a ∨ False) H' ms (ls.map (aOf as2)) outs := by
              have : (fun a => So S as2 a ∨ False) = So S as2 := funext fun a => or_false _
              rw [this]
              exact ho
            obtain ⟨R3, E3⟩ := R2.after (N := fun _ => False) b h2 (fun _ z => z.elim) (fun _ z => z.elim) rt ho' h4
            have hS : (fun a => S a ∨ False) = S := funext fun a => or_false _
            rw [hS] at R3
            exact hx2 kk e3 er.symm as2 H' τ1 cls d R3 E3 (List.prefix_refl _) hE
        | ret rv outs =>
          simp only [h3] at hf1
          cases h4 : putBack e2 ls outs with
          | none => simp only [h4] at hf1; cases hf1
          | some e3 =>
            simp only [h4] at hf1
            refine ⟨So S as2, ds, ls.map (aOf as2), _, l2, l1, b.rel R2 h2 (putBack_own b.al h4), h3, fun v H' rt ho hres => ?_⟩
            have hS : (fun a => S a ∨ False) = S := funext fun a => or_false _
            have plain : (∀ a, ¬ isNew H1 v rv a) → Rel S e3 as2 (σ ++ τ1) H' ∧ ExtS S as2 H1 as2 H' := by
              intro hn
              have hN : isNew H1 v rv = fun _ => False := funext fun a => propext ⟨fun z => hn a z, fun z => z.elim⟩
              obtain ⟨R3, E3⟩ := R2.after (N := fun _ => False) b h2 (fun _ z => z.elim) (fun _ z => z.elim) rt (by rw [hN] at ho; exact ho) h4
              rw [hS] at R3
              exact ⟨R3, E3⟩
            cases rv with
            | dat d =>
              obtain ⟨R3, E3⟩ := plain fun _ z => z
              have er : some (Rs.ok (AV.dat d) e3) = some r := hf1
              exact hv2 _ _ (Option.some.inj er).symm as2 H' τ1 v R3 E3 (List.prefix_refl _) hres
            | raw u =>
              obtain ⟨R3, E3⟩ := plain fun _ z => z
              have er : some (Rs.ok (AV.raw u) e3) = some r := hf1
              exact hv2 _ _ (Option.some.inj er).symm as2 H' τ1 v R3 E3 (List.prefix_refl _) hres
            | fre d =>
              obtain ⟨q, rfl, hq, hM, hD⟩ := hres
              have hN : isNew H1 (.ref q) (.fre d) = fun a => a = q := funext fun a => propext ⟨fun z => by cases z; rfl, fun z => by cases z; rfl⟩
              rw [hN] at ho
              obtain ⟨R3, E3⟩ := R2.after (N := fun a => a = q) b h2 (fun a z => by rw [z]; exact hq) (fun a z => by
                obtain ⟨c, o, ec, ho, mo⟩ := hD.mo hM
                cases ec
                rw [z]
                exact ⟨o, ho, mo⟩) rt ho h4
              have nS : ¬ S q := fun s => by
                obtain ⟨o, eo, _⟩ := R2.so q s
                rw [hq] at eo
                cases eo
              have mo2 := R2.mo
              have nA : some q ∉ as2 := fun m => by
                obtain ⟨o, eo, _⟩ := mo2 q (.inr m)
                rw [hq] at eo
                cases eo
              have R4 := R3.adopt nS nA hM hD (fun i a ea z => nA (by rw [← z]; exact List.mem_of_getElem? ea)) (fun i c a ei ev z => by
                subst z
                have hnm : i ∉ mts ls := fun hm => by
                  have ok' := h2
                  unfold lkOk at ok'
                  rw [Bool.and_eq_true] at ok'
                  obtain ⟨_, _, g3⟩ := putBack_ok b.al h4 ho (of_decide_eq_true ok'.1)
                  obtain ⟨_, _, _, _, _, _, g⟩ := g3 i hm
                  rcases g with ⟨_, g⟩ | ⟨_, g⟩ <;> (rw [ei] at g; cases g)
                have ok' := h2
                unfold lkOk at ok'
                rw [Bool.and_eq_true] at ok'
                obtain ⟨_, g2, _⟩ := putBack_ok b.al h4 ho (of_decide_eq_true ok'.1)
                rw [g2 i hnm] at ei
                obtain ⟨oa, _, _, w, w1, _, w2, w3⟩ := R2.slot i _ ei
                rw [ev] at w1
                cases w1
                obtain ⟨c', o, ec, ho', _⟩ := w3.mo w2
                cases ec
                rw [hq] at ho'
                cases ho')
              have er : some (Rs.ok (AV.nam e3.length) (e3 ++ [.own d])) = some r := hf1
              have hls := R3.lenS
              refine hv2 _ _ (Option.some.inj er).symm (as2 ++ [some q]) H' (τ1 ++ [some (.ref q)]) _ (by rw [← List.append_assoc]; exact R4) ⟨fun a o n e => E3.kp a o n e, fun a m => ?_, E3.up, fun j a s e => ?_⟩ (List.prefix_append _ _) ?_
              · rcases List.mem_append.mp m with m | m
                · exact .inl m
                · have := List.mem_singleton.mp m
                  cases this
                  exact .inr hq
              · rw [List.getElem?_append_left (List.getElem?_eq_some_iff.mp e).1]
                exact e
              · show vl (σ ++ (τ1 ++ [some (V.ref q)])) e3.length = some (.ref q)
                rw [← List.append_assoc, ← hls]
                unfold vl
                simp
end
end Sl
set_option Elab.async false
set_option linter.all false
set_option maxRecDepth 100000
set_option maxHeartbeats 4000000
namespace Sl
open PySem PySem.Spec PyProof.Rows L2
/-! ### statements -/
inductive Fl where
  | nx | rt (av : AV) | bk | ct
@[irreducible] def wS (X : Cx) (st : Stmt) : TS := fun D σ H => ∀ (pins : List (Addr × Obj)) (s : Shared), L2.Inv X pins σ H s → wpAny (model X.prog X.w) X.A (exec st X.env) (SP X pins D) X.xe s
@[irreducible] def wSs (X : Cx) (st : List Stmt) : TS := fun D σ H => ∀ (pins : List (Addr × Obj)) (s : Shared), L2.Inv X pins σ H s → wpAny (model X.prog X.w) X.A (execs st X.env) (SP X pins D) X.xe s
theorem ps_w {X : Cx} {st : Stmt} : PS X st (wS X st) := by unfold wS; exact ⟨fun pins s _ _ _ I h => h pins s I⟩
theorem pss_w {X : Cx} {st : List Stmt} : PSs X st (wSs X st) := by unfold wSs; exact ⟨fun pins s _ _ _ I h => h pins s I⟩
theorem PS.w {X : Cx} {st : Stmt} {t : TS} {D : Ends} {σ : L2.St} {H : Hp} (h : PS X st t) (q : t D σ H) : wS X st D σ H := by unfold wS; exact fun pins s I => h.run pins s σ H D I q
theorem PSs.w {X : Cx} {st : List Stmt} {t : TS} {D : Ends} {σ : L2.St} {H : Hp} (h : PSs X st t) (q : t D σ H) : wSs X st D σ H := by unfold wSs; exact fun pins s I => h.run pins s σ H D I q
def OkXs (X : Cx) (W : L2.WX) (S : Addr → Prop) (as : List (Option Addr)) (H : Hp) {α : Type} (r : Rs α) : Prop :=
  ∀ k e', r = .ex k e' → ∀ as' σ' τ' H' cls d, Rel S e' as' (σ' ++ τ') H' → ExtS S as H as' H' → ExcAt X.mg (So S as') H' cls d k → W cls d σ' H'
structure OkF (S : Addr → Prop) (as : List (Option Addr)) (H : Hp) (D : Ends) (r : Rs Fl) : Prop where
  nx : ∀ e', r = .ok .nx e' → ∀ as' σ' H', Rel S e' as' σ' H' → ExtS S as H as' H' → D.nx σ' H'
  bk : ∀ e', r = .ok .bk e' → ∀ as' σ' H', Rel S e' as' σ' H' → ExtS S as H as' H' → D.bk σ' H'
  ct : ∀ e', r = .ok .ct e' → ∀ as' σ' H', Rel S e' as' σ' H' → ExtS S as H as' H' → D.ct σ' H'
  rt : ∀ av e', r = .ok (.rt av) e' → ∀ as' ς' H' v, Rel S e' as' ς' H' → ExtS S as H as' H' → VA S as' H' ς' v av → D.rt v H'
/-- a statement (its wish w), and a plain function -/
def Js (X : Cx) (W : L2.WX) (w : TS) (f : Mo Fl) : Prop :=
  ∀ (S : Addr → Prop) (env : JEnv) (as : List (Option Addr)) (σ : L2.St) (H : Hp) (D : Ends), Rel S env as σ H → ∀ r, f env = some r → OkXs X W S as H r → OkF S as H D r → w D σ H
abbrev JS (X : Cx) (W : L2.WX) (st : Stmt) (f : Mo Fl) : Prop := Js X W (wS X st) f
abbrev JSs (X : Cx) (W : L2.WX) (st : List Stmt) (f : Mo Fl) : Prop := Js X W (wSs X st) f
def sSeq (f g : Mo Fl) : Mo Fl := fun e => match f e with
  | some (.ok .nx e1) => g e1
  | r => r
def sNil : Mo Fl := pur .nx
section
variable {X : Cx} {W : L2.WX} {S : Addr → Prop} {as as1 : List (Option Addr)} {σ τ : L2.St} {H H1 : Hp} {D : Ends} {env : JEnv}
theorem OkXs.ox {α : Type} {r : Rs α} (h : OkXs X W S as H r) : OkX X W S as σ τ H r := fun k e' er as' H' τ' cls d R x _ z => h k e' er as' σ τ' H' cls d R x z
theorem OkXs.step {α : Type} {r : Rs α} (x : ExtS S as H as1 H1) (h : OkXs X W S as H r) : OkXs X W S as1 H1 r := fun k e' er as' σ' τ' H' cls d R e z => h k e' er as' σ' τ' H' cls d R (x.trans e) z
theorem OkF.step {r : Rs Fl} (x : ExtS S as H as1 H1) (h : OkF S as H D r) : OkF S as1 H1 D r :=
  ⟨fun e' er as' σ' H' R e => h.nx e' er as' σ' H' R (x.trans e), fun e' er as' σ' H' R e => h.bk e' er as' σ' H' R (x.trans e), fun e' er as' σ' H' R e => h.ct e' er as' σ' H' R (x.trans e),
    fun av e' er as' ς' H' v R e => h.rt av e' er as' ς' H' v R (x.trans e)⟩
theorem OkXs.ex {α β : Type} {k : EK} {e : JEnv} (h : OkXs X W S as H (.ex k e : Rs α)) : OkXs X W S as H (.ex k e : Rs β) := fun k' e' er => by
  cases er
  exact h k e rfl
variable {st : Stmt} {rest : List Stmt} {f g : Mo Fl}
theorem j_snil : JSs X W [] sNil := by
  intro S env as σ H D R r hf hx hk
  cases hf
  exact PSs.w pss_nil (hk.nx env rfl as σ H R .refl)
theorem j_sone (h : JS X W st f) : JSs X W [st] f := by
  intro S env as σ H D R r hf hx hk
  exact PSs.w (pss_one ps_w) (h S env as σ H D R r hf hx hk)
theorem j_seq (h1 : JS X W st f) (h2 : JSs X W rest g) : JSs X W (st :: rest) (sSeq f g) := by
  intro S env as σ H D R r hf hx hk
  refine PSs.w (pss_cons ps_w pss_w) ?_
  show wS X st { D with nx := wSs X rest D } σ H
  unfold sSeq at hf
  cases e1 : f env with
  | none => rw [e1] at hf; cases hf
  | some r1 =>
    rw [e1] at hf
    cases r1 with
    | ex k e =>
      cases hf
      exact h1 S env as σ H _ R _ e1 hx ⟨fun e' er => (nomatch er), fun e' er => (nomatch er), fun e' er => (nomatch er), fun av e' er => (nomatch er)⟩
    | ok fl e =>
      cases fl with
      | nx =>
        refine h1 S env as σ H _ R _ e1 (fun k e' er => (nomatch er)) ⟨fun e' er as' σ' H' R' x => ?_, fun e' er => (nomatch er), fun e' er => (nomatch er), fun av e' er => (nomatch er)⟩
        cases er
        exact h2 S e as' σ' H' D R' r hf (hx.step x) (hk.step x)
      | bk => cases hf; exact h1 S env as σ H _ R _ e1 hx ⟨fun e' er => (nomatch er), hk.bk, hk.ct, hk.rt⟩
      | ct => cases hf; exact h1 S env as σ H _ R _ e1 hx ⟨fun e' er => (nomatch er), hk.bk, hk.ct, hk.rt⟩
      | rt av => cases hf; exact h1 S env as σ H _ R _ e1 hx ⟨fun e' er => (nomatch er), hk.bk, hk.ct, hk.rt⟩
end
/-! ### storing -/
/-- slot i is given the value; n: how many slots there are -/
def setv1 (n i : Nat) (av : AV) (e : JEnv) : Option JEnv := match av with
  | .dat d => some (e.set i (.dat d))
  | .raw v => some (e.set i (.raw v))
  | .nam j => match e[j]? with
    | some (.own d) => if j < n then some ((e.set j (.dat d)).set i (.dat d)) else some ((e.set j .no).set i (.own d))
    | some (.dat d) => some (e.set i (.dat d))
    | _ => none
def setv (n i : Nat) (av : AV) (e : JEnv) : Option JEnv := match e[i]? with
  | some (.mt _) => none
  | none => none
  | some _ => setv1 n i av e
/-- an expression within a statement, then what is done with it (n: how many slots there are) -/
def stm {α : Type} (f : Mo α) (k : Nat → α → Mo Fl) : Mo Fl := fun e => match f e with
  | some (.ok a e1) => k e.length a e1
  | some (.ex k e1) => some (.ex k e1)
  | none => none
def sSet (i : Nat) (f : Mo AV) : Mo Fl := stm f fun n av e1 => match setv n i av e1 with
  | some e2 => some (.ok .nx (e2.take n))
  | none => none
def sExpr (f : Mo AV) : Mo Fl := stm f fun n _ e1 => some (.ok .nx (e1.take n))
def sRet (f : Mo AV) : Mo Fl := stm f fun _ av e1 => some (.ok (.rt av) e1)
def sRetN : Mo Fl := pur (.rt (.dat .none))
def sIf (t : Mo Bool) (f g : Mo Fl) : Mo Fl := stm t fun n b e1 => if b then f (e1.take n) else g (e1.take n)
section
variable {S : Addr → Prop} {env env' : JEnv} {as : List (Option Addr)} {ς : L2.St} {H : Hp} {v : V} {i j : Nat} {d : D}
/-- the slots change their values: a value that is nothing's own -/
theorem Rel.store {x : SV} (R : Rel S env as ς H) (hi : i < env.length) (hn : ∀ a, as[i]? = some (some a) → ¬ S a) (hx : SlotOk S (as.set i none) (ς.set i (some v)) H i none x) : Rel S (env.set i x) (as.set i none) (ς.set i (some v)) H := by
  have hle := R.lenA
  have hls := R.lenS
  refine ⟨by simp [hle], by simp [hls], fun k y e => ?_, inj_drop R, R.so⟩
  by_cases hk : i = k
  · subst hk
    rw [List.getElem?_set_self hi] at e
    cases e
    exact ⟨none, by rw [List.getElem?_set_self (by omega)], hx⟩
  · rw [List.getElem?_set_ne hk] at e
    obtain ⟨oa, e1, ok⟩ := R.slot k y e
    refine ⟨oa, by rw [List.getElem?_set_ne hk]; exact e1, ?_⟩
    have ok' := ok.ext (.drop hn) (List.prefix_refl ς) fun _ _ _ e => e
    have hv : ∀ w, vl ς k = some w → vl (ς.set i (some v)) k = some w := fun w h => by
      unfold vl at h ⊢
      rw [List.getElem?_set_ne hk]
      exact h
    cases y with
    | no => exact ok'
    | dat d =>
      obtain ⟨h1, w, h2, h3⟩ := ok'
      exact ⟨h1, w, hv w h2, h3⟩
    | raw u => exact ⟨ok'.1, hv _ ok'.2⟩
    | xc a d fs => exact ⟨ok'.1, hv _ ok'.2.1, ok'.2.2⟩
    | rd d =>
      obtain ⟨h1, a, h2, h3, h4, h5⟩ := ok'
      exact ⟨h1, a, hv _ h2, h3, h4, h5⟩
    | own d =>
      obtain ⟨a, h1, h2, h3⟩ := ok'
      exact ⟨a, h1, hv _ h2, h3⟩
    | mt d =>
      obtain ⟨a, h1, h2, h3⟩ := ok'
      exact ⟨a, h1, hv _ h2, h3⟩
theorem vl_set_self {w : Option V} (hi : i < ς.length) : vl (ς.set i w) i = w := by
  unfold vl
  rw [List.getElem?_set_self hi]
  rfl
/-- what a list behind the slots owns is given to slot i -/
theorem Rel.move (R : Rel S env as ς H) (hi : i < env.length) (hij : i ≠ j) (hn : ∀ a, as[i]? = some (some a) → ¬ S a) (hj : env[j]? = some (.own d)) (hv : vl ς j = some v) :
    ∃ as', Rel S ((env.set j .no).set i (.own d)) as' (ς.set i (some v)) H ∧ ExtS S as H as' H := by
  obtain ⟨oa, e1, a, rfl, h2, h3, h4, h5⟩ := R.slot j _ hj
  rw [h2] at hv
  cases hv
  have hle := R.lenA
  have hls := R.lenS
  have hjl : j < as.length := (List.getElem?_eq_some_iff.mp e1).1
  -- first j is freed, then i is given it
  have R1 : Rel S (env.set j .no) (as.set j none) ς H := R.put .no (fun b z => by rw [e1] at z; cases z; exact h3) fun _ => rfl
  have hn1 : ∀ b, (as.set j none)[i]? = some (some b) → ¬ S b := fun b z => by
    rw [List.getElem?_set_ne (Ne.symm hij)] at z
    exact hn b z
  have R2 : Rel S ((env.set j .no).set i .no) ((as.set j none).set i none) (ς.set i (some (.ref a))) H := R1.store (by simpa using hi) hn1 rfl
  have noA : some a ∉ (as.set j none).set i none := fun m => by
    rcases mem_set m with z | z
    · exact not_mem_drop R e1 z
    · cases z
  have hlow : ∀ b, some b ∈ ((as.set j none).set i none).set i (some a) → b = a ∨ some b ∈ as := fun b m => by
    rcases mem_set m with z | z
    · rcases mem_set z with z | z
      · rcases mem_set z with z | z
        · exact .inr z
        · cases z
      · cases z
    · cases z
      exact .inl rfl
  have hE : ExtS S as H (((as.set j none).set i none).set i (some a)) H := by
    refine ⟨fun _ _ _ e => e, fun b m => ?_, fun _ h => h, fun k b s e => ?_⟩
    · rcases hlow b m with z | z
      · subst z
        exact .inl (List.mem_of_getElem? e1)
      · exact .inl z
    · have hki : i ≠ k := fun z => by
        subst z
        exact hn b e s
      have hkj : j ≠ k := fun z => by
        subst z
        rw [e1] at e
        cases e
        exact h3 s
      rw [List.getElem?_set_ne hki, List.getElem?_set_ne hki, List.getElem?_set_ne hkj]
      exact e
  refine ⟨((as.set j none).set i none).set i (some a), ⟨by simp [hle], by simp [hls], fun k y e => ?_, fun k l b ek el => ?_, R.so⟩, hE⟩
  · have hSo : ∀ b, So S (((as.set j none).set i none).set i (some a)) b → So S as b := fun b m => by
      rcases m with m | m
      · exact .inl m
      · rcases hlow b m with z | z
        · subst z
          exact .inr (List.mem_of_getElem? e1)
        · exact .inr z
    by_cases hk : i = k
    · subst hk
      rw [List.getElem?_set_self (by simpa using hi)] at e
      cases e
      exact ⟨some a, by rw [List.getElem?_set_self (by simp; omega)], a, rfl, vl_set_self (by omega), h3, h4, h5.less hSo⟩
    · have e' : (env.set j .no)[k]? = some y := by rwa [List.getElem?_set_ne hk] at e
      have e'' : ((env.set j .no).set i .no)[k]? = some y := by rwa [List.getElem?_set_ne hk]
      obtain ⟨ob, f1, f2⟩ := R2.slot k y e''
      refine ⟨ob, by rw [List.getElem?_set_ne hk]; exact f1, ?_⟩
      by_cases hkj : j = k
      · subst hkj
        rw [List.getElem?_set_self (by omega)] at e'
        cases e'
        exact f2
      · -- it was there before, away from a
        rw [List.getElem?_set_ne hkj] at e'
        obtain ⟨oc, g1, g2⟩ := R.slot k y e'
        have hoc : oc = ob := by
          rw [List.getElem?_set_ne hk, List.getElem?_set_ne hkj, g1] at f1
          exact Option.some.inj f1
        subst hoc
        have hv : ∀ w, vl ς k = some w → vl (ς.set i (some (.ref a))) k = some w := fun w h => by
          unfold vl at h ⊢
          rw [List.getElem?_set_ne hk]
          exact h
        cases y with
        | no => exact g2
        | dat d =>
          obtain ⟨q1, w, q2, q3⟩ := g2
          exact ⟨q1, w, hv w q2, q3.less hSo⟩
        | raw u => exact ⟨g2.1, hv _ g2.2⟩
        | xc b d fs =>
          refine ⟨g2.1, hv _ g2.2.1, g2.2.2.1.less hSo, fun c e m => ?_⟩
          rcases hlow c m with z | z
          · subst z
            exact g2.2.2.2 _ e (List.mem_of_getElem? e1)
          · exact g2.2.2.2 c e z
        | rd d =>
          obtain ⟨q1, b, q2, q3, q4, q5⟩ := g2
          refine ⟨q1, b, hv _ q2, fun m => ?_, q4, q5.less hSo⟩
          rcases hlow b m with z | z
          · subst z
            exact q3 (List.mem_of_getElem? e1)
          · exact q3 z
        | own d =>
          obtain ⟨b, q1, q2, q3, q4, q5⟩ := g2
          exact ⟨b, q1, hv _ q2, q3, q4, q5.less hSo⟩
        | mt d =>
          obtain ⟨b, q1, q2, q3, q4, q5⟩ := g2
          exact ⟨b, q1, hv _ q2, q3, q4, q5.less hSo⟩
  · have at' : ∀ {k : Nat}, (((as.set j none).set i none).set i (some a))[k]? = some (some b) → (k = i ∧ b = a) ∨ (k ≠ i ∧ ((as.set j none).set i none)[k]? = some (some b)) := by
      intro k e
      by_cases hk : i = k
      · subst hk
        rw [List.getElem?_set_self (by simp; omega)] at e
        cases e
        exact .inl ⟨rfl, rfl⟩
      · rw [List.getElem?_set_ne hk] at e
        exact .inr ⟨fun z => hk z.symm, e⟩
    rcases at' ek with ⟨z1, z2⟩ | ⟨z1, z2⟩
    · rcases at' el with ⟨y1, y2⟩ | ⟨y1, y2⟩
      · omega
      · subst z2
        exact absurd (List.mem_of_getElem? y2) noA
    · rcases at' el with ⟨y1, y2⟩ | ⟨y1, y2⟩
      · subst y2
        exact absurd (List.mem_of_getElem? z2) noA
      · exact R2.inj k l b z2 y2
theorem setv_ok {n : Nat} {av : AV} (R : Rel S env as ς H) (h : VA S as H ς v av) (hin : i < n) (e : setv n i av env = some env') :
    ∃ as', Rel S env' as' (ς.set i (some v)) H ∧ ExtS S as H as' H ∧ env'.length = env.length := by
  unfold setv at e
  cases q : env[i]? with
  | none => simp only [q] at e; cases e
  | some x =>
    have hi : i < env.length := (List.getElem?_eq_some_iff.mp q).1
    have hiς : i < ς.length := by rw [R.lenS]; exact hi
    by_cases hm : ∃ c, x = .mt c
    · obtain ⟨c, rfl⟩ := hm
      simp only [q] at e
      cases e
    · have hn : ∀ a, as[i]? = some (some a) → ¬ S a := fun a ea => by
        obtain ⟨c, z, _⟩ := R.own_at ea
        rcases z with ⟨_, ns⟩ | ⟨z, _⟩
        · exact ns
        · rw [q] at z
          cases z
          exact absurd ⟨c, rfl⟩ hm
      have e' : setv1 n i av env = some env' := by
        cases x <;> first | exact absurd ⟨_, rfl⟩ hm | (simp only [q] at e; exact e)
      cases av with
      | dat d =>
        cases e'
        have h' : Da (So S as) H v d := h
        exact ⟨_, R.store hi hn ⟨rfl, v, vl_set_self hiς, (ExtS.drop hn).so h'⟩, .drop hn, by simp⟩
      | raw u =>
        cases e'
        have h' : v = u := h
        subst h'
        exact ⟨_, R.store hi hn ⟨rfl, vl_set_self hiς⟩, .drop hn, by simp⟩
      | nam j =>
        have h' : vl ς j = some v := h
        have e2 := e'
        unfold setv1 at e2
        cases q2 : env[j]? with
        | none => simp only [q2] at e2; cases e2
        | some y =>
          cases y with
          | own d =>
            simp only [q2] at e2
            by_cases hj : j < n
            · rw [if_pos hj] at e2
              cases e2
              obtain ⟨R1, E1, g⟩ := R.freeze q2
              have hn1 : ∀ a, (as.set j none)[i]? = some (some a) → ¬ S a := fun a ea => by
                by_cases hij : j = i
                · subst hij
                  rw [List.getElem?_set_self (by rw [R.lenA]; exact hi)] at ea
                  cases ea
                · rw [List.getElem?_set_ne hij] at ea
                  exact hn a ea
              exact ⟨_, R1.store (by simpa using hi) hn1 ⟨rfl, v, vl_set_self hiς, (ExtS.drop hn1).so (g v h')⟩, E1.trans (.drop hn1), by simp⟩
            · rw [if_neg hj] at e2
              cases e2
              obtain ⟨as', R1, E1⟩ := R.move hi (by omega) hn q2 h'
              exact ⟨as', R1, E1, by simp⟩
          | dat d =>
            simp only [q2] at e2
            cases e2
            obtain ⟨oa, _, _, w, w1, w2⟩ := R.slot j _ q2
            rw [h'] at w1
            cases w1
            exact ⟨_, R.store hi hn ⟨rfl, v, vl_set_self hiς, (ExtS.drop hn).so w2⟩, .drop hn, by simp⟩
          | _ => simp only [q2] at e2; cases e2
end
section
variable {X : Cx} {W : L2.WX} {e : Expr} {st : Stmt} {fe : Mo AV} {pos pos' : Pos} {x : Str} {i : Nat}
/-- an expression within a statement -/
theorem Jw.inS {α β : Type} {VR : (Addr → Prop) → List (Option Addr) → Hp → L2.St → β → α → Prop} {w : L2.St → Hp → (β → Hp → Prop) → Prop} {f : Mo α} (h : Jw X W VR w f) {S : Addr → Prop} {env : JEnv} {as : List (Option Addr)} {σ : L2.St} {H : Hp} {Q : β → Hp → Prop} {r : Rs Fl} {k : Nat → α → Mo Fl}
    (R : Rel S env as σ H) (hf : stm f k env = some r) (hx : OkXs X W S as H r)
    (go : ∀ a e1 as1 H1 τ1 v, k env.length a e1 = some r → Rel S e1 as1 (σ ++ τ1) H1 → ExtS S as H as1 H1 → VR S as1 H1 (σ ++ τ1) v a → Q v H1) : w σ H Q := by
  have R0 : Rel S env as (σ ++ []) H := by rw [List.append_nil]; exact R
  unfold stm at hf
  cases q : f env with
  | none => rw [q] at hf; cases hf
  | some r1 =>
    rw [q] at hf
    refine h S env as σ [] H Q R0 r1 q (fun kk e' er => ?_) fun a e' er as' H' τ' v R' x p V => ?_
    · subst er
      cases hf
      exact (hx.ox (σ := σ) (τ := [])) kk e' rfl
    · subst er
      exact go a e' as' H' τ' v hf R' x V
theorem set_app {σ τ : L2.St} {v : Option V} (hi : i < σ.length) : (σ ++ τ).set i v = σ.set i v ++ τ := by
  rw [List.set_append]
  simp [hi]
/-- slot i of the frame is set, the lists behind the slots are forgotten -/
theorem set_end {S : Addr → Prop} {env e1 e2 : JEnv} {as as1 : List (Option Addr)} {σ τ : L2.St} {H H1 : Hp} {v : V} {av : AV} (R : Rel S env as σ H) (R1 : Rel S e1 as1 (σ ++ τ) H1) (E1 : ExtS S as H as1 H1) (V1 : VA S as1 H1 (σ ++ τ) v av) (hi : i < σ.length)
    (h : setv env.length i av e1 = some e2) : ∃ as', Rel S (e2.take env.length) as' (σ.set i (some v)) H1 ∧ ExtS S as H as' H1 := by
  have hls := R.lenS
  obtain ⟨as2, R2, E2, _⟩ := setv_ok R1 V1 (by omega : i < env.length) h
  rw [set_app hi] at R2
  have E3 := E1.trans E2
  obtain ⟨R3, E4⟩ := R.cutTo E3 R2
  have ht : (σ.set i (some v) ++ τ).take env.length = σ.set i (some v) := by
    rw [← hls]
    have : (σ.set i (some v)).length = σ.length := by simp
    rw [← this, List.take_left]
  rw [ht] at R3
  exact ⟨_, R3, E3.trans E4⟩
theorem j_set (hN : X.N.Nodup) (hi : X.N[i]? = some x) (hx : Loc X.env.scope x) (he : JE X W e fe) (hs : swapsWith e (some (.Name x pos')) pos.line X.env = pure false := by rfl)
    (hf : X.fn x = true ∨ X.env.scope.names.lookup x = some .local := by first | exact .inl rfl | exact .inr rfl | assumption) : JS X W (.Assign [.Name x pos'] e pos) (sSet i fe) := by
  intro S env as σ H D R r hff hxx hk
  unfold wS
  intro pins s I
  have hil : i < σ.length := by
    rw [I.len]
    exact (List.getElem?_eq_some_iff.mp hi).1
  refine (ps_set hN hi hx pe_w hs hf).run pins s σ H D I (he.inS R hff hxx fun av e1 as1 H1 τ1 v hf1 R1 E1 V1 => ?_)
  cases h1 : setv env.length i av e1 with
  | none => simp only [h1] at hf1; cases hf1
  | some e2 =>
    simp only [h1] at hf1
    cases hf1
    obtain ⟨as', R2, E2⟩ := set_end R R1 E1 V1 hil h1
    exact hk.nx _ rfl as' _ H1 R2 E2
theorem cut_end {S : Addr → Prop} {env e1 : JEnv} {as as1 : List (Option Addr)} {σ τ : L2.St} {H H1 : Hp} (R : Rel S env as σ H) (R1 : Rel S e1 as1 (σ ++ τ) H1) (E1 : ExtS S as H as1 H1) : ∃ as', Rel S (e1.take env.length) as' σ H1 ∧ ExtS S as H as' H1 := by
  obtain ⟨R3, E4⟩ := R.cutTo E1 R1
  rw [← R.lenS, List.take_left, R.lenS] at R3
  exact ⟨_, R3, E1.trans E4⟩
theorem j_expr (he : JE X W e fe) (hs : swapsWith e none pos.line X.env = pure false := by rfl) : JS X W (.Expr e pos) (sExpr fe) := by
  intro S env as σ H D R r hff hxx hk
  refine PS.w (ps_expr pe_w hs) (he.inS R hff hxx fun av e1 as1 H1 τ1 v hf1 R1 E1 V1 => ?_)
  cases hf1
  obtain ⟨as', R2, E2⟩ := cut_end R R1 E1
  exact hk.nx _ rfl as' σ H1 R2 E2
theorem j_ret (he : JE X W e fe) : JS X W (.Return (some e) pos) (sRet fe) := by
  intro S env as σ H D R r hff hxx hk
  refine PS.w (ps_ret pe_w) (he.inS R hff hxx fun av e1 as1 H1 τ1 v hf1 R1 E1 V1 => ?_)
  cases hf1
  exact hk.rt av e1 rfl as1 _ H1 v R1 E1 V1
theorem j_retN : JS X W (.Return none pos) sRetN := by
  intro S env as σ H D R r hff hxx hk
  cases hff
  exact PS.w ps_retN (hk.rt _ env rfl as σ H .non R .refl (show Da _ H .non .none from .non))
theorem j_pass : JS X W (.Pass pos) sNil := by
  intro S env as σ H D R r hff hxx hk
  cases hff
  exact PS.w ps_pass (hk.nx env rfl as σ H R .refl)
def sBreak : Mo Fl := pur .bk
def sCont : Mo Fl := pur .ct
theorem j_break : JS X W (.Break pos) sBreak := by
  intro S env as σ H D R r hff hxx hk
  cases hff
  exact PS.w ps_break (hk.bk env rfl as σ H R .refl)
theorem j_cont : JS X W (.Continue pos) sCont := by
  intro S env as σ H D R r hff hxx hk
  cases hff
  exact PS.w ps_continue (hk.ct env rfl as σ H R .refl)
theorem j_sif {c : Expr} {a b : List Stmt} {ft : Mo Bool} {fa fb : Mo Fl} (hc : JT X W c ft) (ha : JSs X W a fa) (hb : JSs X W b fb) : JS X W (.If c a b pos) (sIf ft fa fb) := by
  intro S env as σ H D R r hff hxx hk
  refine PS.w (ps_if pt_w pss_w pss_w) (hc.inS R hff hxx fun k e1 as1 H1 τ1 v hf1 R1 E1 V1 => ?_)
  cases V1
  obtain ⟨as', R2, E2⟩ := cut_end R R1 E1
  cases k with
  | true =>
    rw [if_pos rfl] at hf1 ⊢
    exact ha S _ as' σ H1 D R2 r hf1 (hxx.step E2) (hk.step E2)
  | false =>
    rw [if_neg (by simp)] at hf1 ⊢
    exact hb S _ as' σ H1 D R2 r hf1 (hxx.step E2) (hk.step E2)
end
end Sl
set_option Elab.async false
set_option linter.all false
set_option maxRecDepth 100000
set_option maxHeartbeats 4000000
namespace Sl
open PySem PySem.Spec PyProof.Rows L2
/-! ### while -/
def whileN (t : Mo Bool) (b : Mo Fl) : Nat → Mo Fl
  | 0 => fun _ => none
  | n + 1 => stm t fun k c e1 => if c then (match b (e1.take k) with
      | some (.ok .nx e2) => whileN t b n e2
      | some (.ok .ct e2) => whileN t b n e2
      | some (.ok .bk e2) => some (.ok .nx e2)
      | r => r) else some (.ok .nx (e1.take k))
theorem whileN_succ {t : Mo Bool} {b : Mo Fl} : ∀ {n : Nat} {e : JEnv} {r : Rs Fl}, whileN t b n e = some r → whileN t b (n + 1) e = some r
  | 0, _, _, h => by cases h
  | n + 1, e, r, h => by
    unfold whileN at h ⊢
    unfold stm at h ⊢
    cases h1 : t e with
    | none => rw [h1] at h; cases h
    | some r1 =>
      rw [h1] at h
      cases r1 with
      | ex k e1 => exact h
      | ok c e1 =>
        cases c with
        | false => exact h
        | true =>
          simp only [if_true] at h ⊢
          cases h2 : b (e1.take e.length) with
          | none => rw [h2] at h; cases h
          | some r2 =>
            rw [h2] at h
            cases r2 with
            | ex k e2 => exact h
            | ok fl e2 =>
              cases fl with
              | nx => exact whileN_succ h
              | ct => exact whileN_succ h
              | bk => exact h
              | rt _ => exact h
theorem whileN_le {t : Mo Bool} {b : Mo Fl} {n m : Nat} {e : JEnv} {r : Rs Fl} (h : whileN t b n e = some r) (l : n ≤ m) : whileN t b m e = some r := by
  induction l with
  | refl => exact h
  | step _ ih => exact whileN_succ ih
open Classical in
/-- the loop, however long -/
noncomputable def sWhile (t : Mo Bool) (b : Mo Fl) : Mo Fl := fun e => if h : ∃ n r, whileN t b n e = some r then whileN t b (choose h) e else none
theorem sWhile_some {t : Mo Bool} {b : Mo Fl} {e : JEnv} {r : Rs Fl} : sWhile t b e = some r ↔ ∃ n, whileN t b n e = some r := by
  unfold sWhile
  constructor
  · intro h
    split at h
    · exact ⟨_, h⟩
    · cases h
  · rintro ⟨n, h⟩
    have hex : ∃ n r, whileN t b n e = some r := ⟨n, r, h⟩
    rw [dif_pos hex]
    obtain ⟨r', h'⟩ := Classical.choose_spec hex
    have h1 := whileN_le h (Nat.le_max_left n (Classical.choose hex))
    have h2 := whileN_le h' (Nat.le_max_right n (Classical.choose hex))
    rw [h1] at h2
    rw [h', h2]
/-- one turn -/
theorem sWhile_eq {t : Mo Bool} {b : Mo Fl} {e : JEnv} {r : Rs Fl} (h : stm t (fun k c e1 => if c then (match b (e1.take k) with
      | some (.ok .nx e2) => sWhile t b e2
      | some (.ok .ct e2) => sWhile t b e2
      | some (.ok .bk e2) => some (.ok .nx e2)
      | r => r) else some (.ok .nx (e1.take k))) e = some r) : sWhile t b e = some r := by
  rw [sWhile_some]
  unfold stm at h
  have go : ∀ n, whileN t b (n + 1) e = stm t (fun k c e1 => if c then (match b (e1.take k) with
      | some (.ok .nx e2) => whileN t b n e2
      | some (.ok .ct e2) => whileN t b n e2
      | some (.ok .bk e2) => some (.ok .nx e2)
      | r => r) else some (.ok .nx (e1.take k))) e := fun n => by rw [whileN]
  unfold stm at go
  cases h1 : t e with
  | none => rw [h1] at h; cases h
  | some r1 =>
    rw [h1] at h go
    cases r1 with
    | ex k e1 => exact ⟨1, (go 0).trans h⟩
    | ok c e1 =>
      cases c with
      | false => exact ⟨1, (go 0).trans h⟩
      | true =>
        simp only [if_true] at h go
        cases h2 : b (e1.take e.length) with
        | none => rw [h2] at h; cases h
        | some r2 =>
          rw [h2] at h go
          cases r2 with
          | ex k e2 => exact ⟨1, (go 0).trans h⟩
          | ok fl e2 =>
            cases fl with
            | nx => obtain ⟨n, hn⟩ := sWhile_some.mp h; exact ⟨n + 1, (go n).trans hn⟩
            | ct => obtain ⟨n, hn⟩ := sWhile_some.mp h; exact ⟨n + 1, (go n).trans hn⟩
            | bk => exact ⟨1, (go 0).trans h⟩
            | rt _ => exact ⟨1, (go 0).trans h⟩
section
variable {X : Cx} {W : L2.WX} {pos : Pos}
theorem j_while {c : Expr} {body : List Stmt} {ft : Mo Bool} {fb : Mo Fl} (hp : PassesOwn (model X.prog X.w) X.A X.env X.xe) (hc : JT X W c ft) (hb : JSs X W body fb) : JS X W (.While c body [] pos) (sWhile ft fb) := by
  intro S env as σ H D R r hf hx hk
  obtain ⟨n, hn⟩ := sWhile_some.mp hf
  refine PS.w (ps_while hp pt_w pss_w) ⟨fun m σ' H' => ∃ env' as', Rel S env' as' σ' H' ∧ ExtS S as H as' H' ∧ whileN ft fb m env' = some r, ⟨n, env, as, R, .refl, hn⟩, fun m σ1 H1 ⟨env1, as1, R1, E1, h1⟩ => ?_⟩
  cases m with
  | zero => cases h1
  | succ m =>
    unfold whileN at h1
    refine hc.inS R1 h1 (hx.step E1) fun k e2 as2 H2 τ2 v hf2 R2 E2 V2 => ?_
    cases V2
    obtain ⟨as3, R3, E3⟩ := cut_end R1 R2 E2
    have E13 := E1.trans E3
    cases k with
    | false =>
      rw [if_neg (by simp)] at hf2 ⊢
      cases hf2
      exact hk.nx _ rfl as3 σ1 H2 R3 E13
    | true =>
      rw [if_pos rfl] at hf2 ⊢
      refine ⟨fun σ' H' => ∃ env' as', Rel S env' as' σ' H' ∧ ExtS S as H as' H' ∧ whileN ft fb m env' = some r, fun σ' H' w => ⟨m, Nat.lt_succ_self m, w⟩, ?_⟩
      cases h2 : fb (e2.take env1.length) with
      | none => rw [h2] at hf2; cases hf2
      | some r2 =>
        rw [h2] at hf2
        refine hb S _ as3 σ1 H2 _ R3 r2 h2 ?_ ?_
        · cases r2 with
          | ex k e => cases hf2; exact (hx.step E13).ex
          | ok fl e => exact fun _ _ er => nomatch er
        · refine ⟨fun e' er as' σ' H' R' x => ?_, fun e' er as' σ' H' R' x => ?_, fun e' er as' σ' H' R' x => ?_, fun av e' er as' ς' H' v R' x V => ?_⟩
          · subst er; exact ⟨e', as', R', E13.trans x, hf2⟩
          · subst er; cases hf2; exact hk.nx _ rfl as' σ' H' R' (E13.trans x)
          · subst er; exact ⟨e', as', R', E13.trans x, hf2⟩
          · subst er; cases hf2; exact hk.rt av _ rfl as' ς' H' v R' (E13.trans x) V
end
/-! ### targets -/
abbrev Tg := D → JEnv → Option JEnv
def gNm (i : Nat) : Tg := fun d e => match e[i]? with
  | some (.mt _) => none
  | none => none
  | some _ => some (e.set i (.dat d))
def gAll : List Tg → List D → JEnv → Option JEnv
  | [], [], e => some e
  | g :: gs, d :: ds, e => match g d e with
    | some e1 => gAll gs ds e1
    | none => none
  | _, _, _ => none
def gTp (gs : List Tg) : Tg := fun d e => match d with
  | .tuple ds => gAll gs ds e
  | _ => none
def JG (X : Cx) (tg : Expr) (g : Tg) (vs : List Nat) : Prop :=
  ∀ (S : Addr → Prop) (env env' : JEnv) (as : List (Option Addr)) (σ τ : L2.St) (H : Hp) (v : V) (d : D) (Q : L2.St → Hp → Prop), Rel S env as (σ ++ τ) H → Da (So S as) H v d → g d env = some env' →
    (∀ as' σ', Rel S env' as' (σ' ++ τ) H → ExtS S as H as' H → σ'.length = σ.length → (∀ j, j ∉ vs → σ'[j]? = σ[j]?) → Q σ' H) → ∀ (pins : List (Addr × Obj)) (s : Shared) (u : Value), L2.Inv X pins σ H s → RelV v u →
      wpAny (model X.prog X.w) X.A (assign tg X.env u) (fun _ s' => ∃ σ' H', L2.Inv X pins σ' H' s' ∧ Q σ' H') X.xe s
def JGs (X : Cx) (tgs : List Expr) (gs : List Tg) (ns : List Nat) : Prop :=
  ∀ (S : Addr → Prop) (env env' : JEnv) (as : List (Option Addr)) (σ τ : L2.St) (H : Hp) (vs : List V) (ds : List D) (Q : L2.St → Hp → Prop), Rel S env as (σ ++ τ) H → DaAll (So S as) H vs ds → gAll gs ds env = some env' →
    (∀ as' σ', Rel S env' as' (σ' ++ τ) H → ExtS S as H as' H → σ'.length = σ.length → (∀ j, j ∉ ns → σ'[j]? = σ[j]?) → Q σ' H) → ∀ (pins : List (Addr × Obj)) (s : Shared) (us : List Value), L2.Inv X pins σ H s → Vals vs us →
      wpAny (model X.prog X.w) X.A (assignInOrder ((assignEach tgs X.env).map (·.2)) us) (fun _ s' => ∃ σ' H', L2.Inv X pins σ' H' s' ∧ Q σ' H') X.xe s
def wG (X : Cx) (tg : Expr) : TG := fun v σ H Q => ∀ (pins : List (Addr × Obj)) (s : Shared) (u : Value), L2.Inv X pins σ H s → RelV v u →
      wpAny (model X.prog X.w) X.A (assign tg X.env u) (fun _ s' => ∃ σ' H', L2.Inv X pins σ' H' s' ∧ Q σ' H') X.xe s
def wGs (X : Cx) (tgs : List Expr) : TGs := fun vs σ H Q => ∀ (pins : List (Addr × Obj)) (s : Shared) (us : List Value), L2.Inv X pins σ H s → Vals vs us →
      wpAny (model X.prog X.w) X.A (assignInOrder ((assignEach tgs X.env).map (·.2)) us) (fun _ s' => ∃ σ' H', L2.Inv X pins σ' H' s' ∧ Q σ' H') X.xe s
theorem pg_w {X : Cx} {tg : Expr} : PG X tg (wG X tg) := by exact ⟨fun pins s _ _ _ u _ I r h => h pins s u I r⟩
theorem pgs_w {X : Cx} {tgs : List Expr} : PGs X tgs (wGs X tgs) := by exact ⟨fun pins s _ _ _ us _ I r h => h pins s us I r⟩
section
variable {X : Cx} {x : Str} {pos : Pos} {i : Nat} {e : Expr} {es : List Expr}
theorem jg_name (hN : X.N.Nodup) (hi : X.N[i]? = some x) (hx : Loc X.env.scope x) (hf : X.fn x = true ∨ X.env.scope.names.lookup x = some .local := by first | exact .inl rfl | exact .inr rfl | assumption) : JG X (.Name x pos) (gNm i) [i] := by
  intro S env env' as σ τ H v d Q R hv hg hq pins s u I ru
  have hil : i < σ.length := by
    rw [I.len]
    exact (List.getElem?_eq_some_iff.mp hi).1
  have hset : setv env.length i (.dat d) env = some env' := by
    unfold gNm at hg
    unfold setv
    cases q : env[i]? with
    | none => simp only [q] at hg; cases hg
    | some y => cases y <;> (simp only [q] at hg ⊢; exact hg)
  obtain ⟨as', R', E', _⟩ := setv_ok (ς := σ ++ τ) R (av := .dat d) hv (by rw [← R.lenS, List.length_append]; omega) hset
  rw [set_app hil] at R'
  exact (pg_name hN hi hx hf).run pins s σ H v u Q I ru (hq as' _ R' E' (by simp) fun j hj => List.getElem?_set_ne fun z => hj (by simp [z]))
theorem jgs_nil : JGs X [] [] [] := by
  intro S env env' as σ τ H vs ds Q R hv hg hq pins s us I ru
  cases ds with
  | cons _ _ => cases hg
  | nil =>
    cases hv
    cases hg
    exact pgs_nil.run pins s σ H [] us Q I ru ⟨rfl, hq as σ R .refl rfl fun _ _ => rfl⟩
theorem jgs_cons {g : Tg} {gs : List Tg} {ns ms : List Nat} (h1 : JG X e g ns) (h2 : JGs X es gs ms) (hs : (assignEach (e :: es) X.env).map (·.2) = assign e X.env :: (assignEach es X.env).map (·.2) := by rfl) : JGs X (e :: es) (g :: gs) (ns ++ ms) := by
  intro S env env' as σ τ H vs ds Q R hv hg hq pins s us I ru
  cases hv with
  | nil => cases hg
  | cons a t =>
    unfold gAll at hg
    rename_i v vs d ds
    cases h : g d env with
    | none => simp only [h] at hg; cases hg
    | some e1 =>
      simp only [h] at hg
      refine (pgs_cons pg_w pgs_w hs).run pins s σ H _ us Q I ru ⟨v, vs, rfl, fun pins s u I r => ?_⟩
      exact h1 S env e1 as σ τ H v d _ R a h (fun as1 σ1 R1 E1 l1 o1 => fun pins s us I r => h2 S e1 env' as1 σ1 τ H vs ds Q R1 (E1.soAll t) hg (fun as2 σ2 R2 E2 l2 o2 => hq as2 σ2 R2 (E1.trans E2) (l2.trans l1) fun j hj => (o2 j fun z => hj (List.mem_append_right _ z)).trans (o1 j fun z => hj (List.mem_append_left _ z))) pins s us I r) pins s u I r
theorem jg_tup {gs : List Tg} {ns : List Nat} {k : Nat} {n : Nat} (hc : X.calm = true) (h : JGs X es gs ns) (hn : (assignEach es X.env).length = n := by rfl) (hl : gs.length = n := by rfl) (hst : (assignEach es X.env).findIdx? (·.1) = none := by rfl) : JG X (.Tuple es k pos) (gTp gs) ns := by
  intro S env env' as σ τ H v d Q R hv hg hq pins s u I ru
  cases d <;> try (cases hg; done)
  rename_i ds
  have hg' : gAll gs ds env = some env' := hg
  have lens : ∀ {gs : List Tg} {ds : List D} {env env' : JEnv}, gAll gs ds env = some env' → ds.length = gs.length := by
    intro gs
    induction gs with
    | nil =>
      intro ds env env' h
      cases ds with
      | nil => rfl
      | cons _ _ => cases h
    | cons g gs ih =>
      intro ds env env' h
      cases ds with
      | nil => cases h
      | cons d ds =>
        unfold gAll at h
        cases h1 : g d env with
        | none => simp only [h1] at h; cases h
        | some e1 => simp only [h1] at h; exact congrArg (· + 1) (ih h)
  cases hv with
  | tup no hH ha =>
    refine (pg_tup hc pgs_w hn hst).run pins s σ H _ u Q I ru ⟨_, _, rfl, SqT.of hH, ?_, fun pins s us I r => h S env env' as σ τ H _ ds Q R ha hg' hq pins s us I r⟩
    rw [ha.length, lens hg', hl]
end
/-! ### what is walked -/
def itv (e : JEnv) (av : AV) : Option (D × JEnv) := match av with
  | .nam i => match e[i]? with
    | some (.rd d) => some (d, e)
    | _ => fz e (.nam i)
  | _ => fz e av
def Walk (S : Addr → Prop) (as0 : List (Option Addr)) (H0 : Hp) (_ : L2.St) (J : It) (items : List D) : Prop :=
  ∀ as1 H1, ExtS S as0 H0 as1 H1 → (∀ a, So S as1 a → ∃ o, H1 a = some o ∧ isMO o) →
    (∀ (i : Nat) d, items[i]? = some d → J.go i H1 ∧ ∀ x H2, J.yld i H1 x H2 → Same H1 H2 ∧ Da (So S as1) H2 x d) ∧ J.stop items.length H1
@[irreducible] def wI (X : Cx) (tg iter : Expr) : L2.St → Hp → (It → Hp → Prop) → Prop := fun σ H R => ∀ (pins : List (Addr × Obj)) (s : Shared), L2.Inv X pins σ H s →
  wpAny (model X.prog X.w) X.A (eval iter X.env) (fun v s1 => wpAny (model X.prog X.w) X.A (pyIter v) (PIE X pins σ tg R) X.xe s1) X.xe s
abbrev JI (X : Cx) (W : L2.WX) (tg iter : Expr) (f : Mo (List D)) : Prop := Jw X W Walk (wI X tg iter) f
theorem pi_w {X : Cx} {tg iter : Expr} : PI X tg iter (wI X tg iter) := by unfold wI; exact ⟨fun pins s _ _ _ I h => h pins s I⟩
theorem PI.w {X : Cx} {tg iter : Expr} {t : TI} {σ : L2.St} {H : Hp} {R : It → Hp → Prop} (h : PI X tg iter t) (q : t σ H R) : wI X tg iter σ H R := by unfold wI; exact fun pins s I => h.run pins s σ H R I q
/-- a list or tuple, its items -/
def iSeq (f : Mo AV) : Mo (List D) := bnd f fun av => fun e => match itv e av with
  | some (.list ds, e1) => some (.ok ds e1)
  | some (.tuple ds, e1) => some (.ok ds e1)
  | _ => none
def iLst (f : Mo AV) : Mo (List D) := bnd f fun av => fun e => match itv e av with
  | some (.list ds, e1) => some (.ok ds e1)
  | _ => none
def iTpl (f : Mo AV) : Mo (List D) := bnd f fun av => fun e => match itv e av with
  | some (.tuple ds, e1) => some (.ok ds e1)
  | _ => none
section
variable {S : Addr → Prop} {env env' : JEnv} {as : List (Option Addr)} {ς : L2.St} {H : Hp} {v : V} {av : AV} {d : D}
/-- what is walked stays: its own object is not among those that are owned -/
theorem itv_ok (R : Rel S env as ς H) (h : VA S as H ς v av) (e : itv env av = some (d, env')) : ∃ as', Rel S env' as' ς H ∧ ExtS S as H as' H ∧ Dr (So S as') H v d ∧ ∀ a, v = .ref a → some a ∉ as' := by
  have fzc : ∀ {av : AV}, VA S as H ς v av → fz env av = some (d, env') → ∃ as', Rel S env' as' ς H ∧ ExtS S as H as' H ∧ Dr (So S as') H v d ∧ ∀ a, v = .ref a → some a ∉ as' := by
    intro av h e
    obtain ⟨as', R1, E1, g⟩ := fz_ok R h e
    exact ⟨as', R1, E1, g.dr, fun a ea m => by subst ea; exact g.off (.inr m)⟩
  cases av with
  | dat c => exact fzc h e
  | raw c => exact fzc h e
  | nam i =>
    unfold itv at e
    cases q : env[i]? with
    | none => simp only [q] at e; exact fzc h e
    | some y =>
      cases y with
      | rd c =>
        simp only [q] at e
        cases e
        have h' : vl ς i = some v := h
        obtain ⟨oa, _, _, a, w1, w2, w3, w4⟩ := R.slot i _ q
        rw [h'] at w1
        cases w1
        exact ⟨as, R, .refl, w4, fun b eb => by cases eb; exact w2⟩
      | _ => simp only [q] at e; exact fzc h e
theorem walk_list {K : PySem.W.Frag} {a : Addr} {xs : List V} {ds : List D} (hH : H a = some (.lst xs)) (ha : DaAll (So S as) H xs ds) (hn : some a ∉ as) : Walk S as H ς (Itl K a) ds := by
  intro as1 H1 x _
  have hH1 := x.kp a _ hn hH
  have ha1 := x.soAll ha
  have uniq : ∀ ys, SqL K H1 a ys → ys = xs ∨ True := fun _ _ => .inr trivial
  refine ⟨fun i d hd => ?_, ⟨xs, SqL.of hH1, by rw [← ha1.length]; exact Nat.le_refl _⟩⟩
  have hil : i < xs.length := by
    rw [ha1.length]
    exact (List.getElem?_eq_some_iff.mp hd).1
  have hxi := List.getElem?_eq_getElem hil
  refine ⟨⟨xs, xs[i], SqL.of hH1, hxi⟩, fun y H2 hy => ?_⟩
  obtain ⟨rfl, hy⟩ := hy
  have := hy xs (SqL.of hH1)
  rw [hxi] at this
  cases this
  obtain ⟨d', h1, h2⟩ := ha1.get hxi
  rw [hd] at h1
  cases h1
  exact ⟨Same.refl _, h2⟩
theorem walk_tup {K : PySem.W.Frag} {a : Addr} {xs : List V} {ds : List D} (hH : H a = some (.tup xs)) (ha : DaAll (So S as) H xs ds) (hn : some a ∉ as) : Walk S as H ς (Itt K a) ds := by
  intro as1 H1 x _
  have hH1 := x.kp a _ hn hH
  have ha1 := x.soAll ha
  refine ⟨fun i d hd => ?_, ⟨xs, SqT.of hH1, by rw [← ha1.length]; exact Nat.le_refl _⟩⟩
  have hil : i < xs.length := by
    rw [ha1.length]
    exact (List.getElem?_eq_some_iff.mp hd).1
  have hxi := List.getElem?_eq_getElem hil
  refine ⟨⟨xs, xs[i], SqT.of hH1, hxi⟩, fun y H2 hy => ?_⟩
  obtain ⟨rfl, hy⟩ := hy
  have := hy xs (SqT.of hH1)
  rw [hxi] at this
  cases this
  obtain ⟨d', h1, h2⟩ := ha1.get hxi
  rw [hd] at h1
  cases h1
  exact ⟨Same.refl _, h2⟩
def rngD (lo : Int) (n : Nat) : List D := (List.range n).map fun i => .int (lo + (i : Nat))
theorem walk_rng {lo : Int} {n : Nat} : Walk S as H ς (Itr lo n) (rngD lo n) := by
  intro as1 H1 x _
  refine ⟨fun i d hd => ?_, by show n ≤ (rngD lo n).length; unfold rngD; simp⟩
  unfold rngD at hd
  rw [List.getElem?_map] at hd
  have hi : i < n := by
    by_cases h : i < n
    · exact h
    · rw [List.getElem?_eq_none (by simp; omega)] at hd
      cases hd
  rw [List.getElem?_range hi] at hd
  cases hd
  refine ⟨hi, fun y H2 hy => ?_⟩
  obtain ⟨rfl, rfl⟩ := hy
  exact ⟨Same.refl _, .int _⟩
end
def iR1 (f : Mo (List AV)) : Mo (List D) := bnd f fun avs => fun e => match avs with
  | [.dat (.int j)] => if -(2 ^ 62) ≤ j ∧ j < 2 ^ 62 then some (.ok (rngD 0 j.toNat) e) else none
  | _ => none
def iR2 (f : Mo (List AV)) : Mo (List D) := bnd f fun avs => fun e => match avs with
  | [.dat (.int i), .dat (.int j)] => if -(2 ^ 62) ≤ i ∧ i < 2 ^ 62 ∧ -(2 ^ 62) ≤ j ∧ j < 2 ^ 62 then some (.ok (rngD i (j - i).toNat) e) else none
  | _ => none
section
variable {X : Cx} {W : L2.WX} {tg e : Expr} {es : List Expr} {fe : Mo AV} {fa : Mo (List AV)} {p pos : Pos}
theorem ji_list (he : JE X W e fe) : JI X W tg e (iLst fe) := by
  intro S env as σ τ H Q R r hf hx hk
  refine PI.w (pi_list pe_w) (he.use R hf hx fun av e1 as1 H1 τ1 v hf1 R1 E1 p1 V1 => ?_)
  cases h1 : itv e1 av with
  | none => simp only [h1] at hf1; cases hf1
  | some q =>
    obtain ⟨d, e2⟩ := q
    obtain ⟨as2, R2, E2, g, no⟩ := itv_ok R1 V1 h1
    cases d <;> simp only [h1] at hf1 <;> try (cases hf1; done)
    cases hf1
    obtain ⟨a, xs, rfl, hH, ha⟩ := g.getL
    exact ⟨a, rfl, ⟨xs, SqL.of hH⟩, hk _ _ rfl as2 H1 τ1 _ R2 (E1.trans E2) p1 (walk_list hH ha (no a rfl))⟩
theorem ji_tup (he : JE X W e fe) : JI X W tg e (iTpl fe) := by
  intro S env as σ τ H Q R r hf hx hk
  refine PI.w (pi_tup pe_w) (he.use R hf hx fun av e1 as1 H1 τ1 v hf1 R1 E1 p1 V1 => ?_)
  cases h1 : itv e1 av with
  | none => simp only [h1] at hf1; cases hf1
  | some q =>
    obtain ⟨d, e2⟩ := q
    obtain ⟨as2, R2, E2, g, no⟩ := itv_ok R1 V1 h1
    cases d <;> simp only [h1] at hf1 <;> try (cases hf1; done)
    cases hf1
    obtain ⟨a, xs, rfl, hH, ha⟩ := g.getT
    exact ⟨a, rfl, ⟨xs, SqT.of hH⟩, hk _ _ rfl as2 H1 τ1 _ R2 (E1.trans E2) p1 (walk_tup hH ha (no a rfl))⟩
/-- one of both, as it comes -/
theorem ji_seq (he : JE X W e fe) : JI X W tg e (iSeq fe) := by
  intro S env as σ τ H Q R r hf hx hk
  have hL : iLst fe env = some r → wI X tg e σ H Q := fun h => ji_list he S env as σ τ H Q R r h hx hk
  have hT : iTpl fe env = some r → wI X tg e σ H Q := fun h => ji_tup he S env as σ τ H Q R r h hx hk
  unfold iSeq bnd at hf
  unfold iLst bnd at hL
  unfold iTpl bnd at hT
  cases h1 : fe env with
  | none => simp only [h1] at hf; cases hf
  | some r1 =>
    cases r1 with
    | ex k e1 => simp only [h1] at hf hL; exact hL hf
    | ok av e1 =>
      simp only [h1] at hf hL hT
      cases h2 : itv e1 av with
      | none => simp only [h2] at hf; cases hf
      | some q =>
        obtain ⟨d, e2⟩ := q
        cases d <;> simp only [h2] at hf hL hT <;> first | exact hL hf | exact hT hf | (cases hf; done)
theorem ji_r1 (hg : Gl X "range") (hm : X.mg "range" = none) (ha : JA X W [e] fa) (hs : starEach [e] X.env = [(false, eval e X.env)] := by exact se_one rfl) : JI X W tg (.Call (.Name "range" p) [e] [] pos) (iR1 fa) := by
  intro S env as σ τ H Q R r hf hx hk
  refine PI.w (pi_range1 hg hm pa_w hs) (ha.use R hf hx fun avs e1 as1 H1 τ1 vs hf1 R1 E1 p1 V1 => ?_)
  match avs, hf1, V1 with
  | [.dat (.int j)], hf1, .cons V .nil =>
    simp only [Option.ite_none_right_eq_some] at hf1
    obtain ⟨hb, hf1⟩ := hf1
    cases hf1
    have V' : Da (So S as1) H1 _ (.int j) := V
    cases V'
    exact ⟨j, rfl, hb.1, hb.2, hk _ _ rfl as1 H1 τ1 _ R1 E1 p1 walk_rng⟩
theorem ji_r2 {e2 : Expr} (hg : Gl X "range") (hm : X.mg "range" = none) (ha : JA X W [e, e2] fa) (hs : starEach [e, e2] X.env = [(false, eval e X.env), (false, eval e2 X.env)] := by exact se_two rfl rfl) (hs2 : starEach [e2] X.env = [(false, eval e2 X.env)] := by rfl) :
    JI X W tg (.Call (.Name "range" p) [e, e2] [] pos) (iR2 fa) := by
  intro S env as σ τ H Q R r hf hx hk
  refine PI.w (pi_range2 hg hm pa_w hs hs2) (ha.use R hf hx fun avs e1 as1 H1 τ1 vs hf1 R1 E1 p1 V1 => ?_)
  match avs, hf1, V1 with
  | [.dat (.int i), .dat (.int j)], hf1, .cons V (.cons V2 .nil) =>
    simp only [Option.ite_none_right_eq_some] at hf1
    obtain ⟨hb, hf1⟩ := hf1
    cases hf1
    have V' : Da (So S as1) H1 _ (.int i) := V
    have V2' : Da (So S as1) H1 _ (.int j) := V2
    cases V'
    cases V2'
    exact ⟨i, j, rfl, hb, hk _ _ rfl as1 H1 τ1 _ R1 E1 p1 walk_rng⟩
end
/-! ### for -/
def forL (g : Tg) (b : Mo Fl) : List D → Mo Fl
  | [] => sNil
  | d :: ds => fun e => match g d e with
    | some e1 => (match b e1 with
      | some (.ok .nx e2) => forL g b ds e2
      | some (.ok .ct e2) => forL g b ds e2
      | some (.ok .bk e2) => some (.ok .nx e2)
      | r => r)
    | none => none
def sFor (f : Mo (List D)) (g : Tg) (b : Mo Fl) : Mo Fl := stm f fun n items e1 => forL g b items (e1.take n)
section
variable {X : Cx} {W : L2.WX} {pos : Pos}
theorem j_for {tg iter : Expr} {body : List Stmt} {fi : Mo (List D)} {g : Tg} {ns : List Nat} {fb : Mo Fl} (hp : PassesOwn (model X.prog X.w) X.A X.env X.xe) (hc : X.calm = true) (hi : JI X W tg iter fi) (hg : JG X tg g ns) (hb : JSs X W body fb)
    (hs : ∀ x, foldedSetIterable iter X.env x = pure x := by intro _; rfl) : JS X W (.For tg iter body [] pos) (sFor fi g fb) := by
  intro S env as σ H D R r hf hx hk
  refine PS.w (ps_for hp hc pi_w pg_w pss_w hs) (hi.inS R hf hx fun items e1 as1 H1 τ1 J hf1 R1 E1 V1 => ?_)
  obtain ⟨R3, Ec⟩ := R.cutTo E1 R1
  rw [← R.lenS, List.take_left, R.lenS] at R3
  refine ⟨fun i m σ' H' => m = items.length - i ∧ i ≤ items.length ∧ ∃ env' as', Rel S env' as' σ' H' ∧ ExtS S as1 H1 as' H' ∧ forL g fb (items.drop i) env' = some r, ⟨items.length, rfl, Nat.zero_le _, _, _, R3, Ec, hf1⟩, fun i m σ' H' w => ?_⟩
  obtain ⟨hm, hi', env', as', R', E', hL⟩ := w
  obtain ⟨gos, stops⟩ := V1 as' H' E' R'.mo
  by_cases hlast : i = items.length
  · subst hlast
    rw [List.drop_length] at hL
    cases hL
    exact .inl ⟨stops, hk.nx _ rfl as' σ' H' R' (E1.trans E')⟩
  · have hlt : i < items.length := by omega
    rw [List.drop_eq_getElem_cons hlt] at hL
    unfold forL at hL
    cases h1 : g items[i] env' with
    | none => simp only [h1] at hL; cases hL
    | some e2 =>
      simp only [h1] at hL
      obtain ⟨go, yld⟩ := gos i _ (List.getElem?_eq_getElem hlt)
      refine .inr ⟨go, fun σ2 H2 => ∃ env2 as2, Rel S env2 as2 σ2 H2 ∧ ExtS S as1 H1 as2 H2 ∧ forL g fb (items.drop (i + 1)) env2 = some r, fun σ2 H2 ⟨env2, as2, R2, E2, h2⟩ => ⟨items.length - (i + 1), by omega, rfl, hlt, env2, as2, R2, E2, h2⟩, fun x H2 hy => ?_⟩
      obtain ⟨k, hd⟩ := yld x H2 hy
      have R2 := R'.same k
      have E2 : ExtS S as1 H1 as' H2 := E'.trans (.grow k)
      have R2' : Rel S env' as' (σ' ++ []) H2 := by rw [List.append_nil]; exact R2
      intro pins s u I ru
      refine hg S env' e2 as' σ' [] H2 x _ _ R2' hd h1 (fun as3 σ3 R3 E3 _ _ => ?_) pins s u I ru
      rw [List.append_nil] at R3
      have E13 := E2.trans E3
      cases h2 : fb e2 with
      | none => simp only [h2] at hL; cases hL
      | some r2 =>
        simp only [h2] at hL
        refine hb S e2 as3 σ3 H2 _ R3 r2 h2 ?_ ?_
        · cases r2 with
          | ex k e => cases hL; exact ((hx.step E1).step E13).ex
          | ok fl e => exact fun _ _ er => nomatch er
        · refine ⟨fun e' er as4 σ4 H4 R4 x => ?_, fun e' er as4 σ4 H4 R4 x => ?_, fun e' er as4 σ4 H4 R4 x => ?_, fun av e' er as4 ς4 H4 v R4 x V => ?_⟩
          · subst er; exact ⟨e', as4, R4, E13.trans x, hL⟩
          · subst er; cases hL; exact hk.nx _ rfl as4 σ4 H4 R4 (E1.trans (E13.trans x))
          · subst er; exact ⟨e', as4, R4, E13.trans x, hL⟩
          · subst er; cases hL; exact hk.rt av _ rfl as4 ς4 H4 v R4 (E1.trans (E13.trans x)) V
end
/-! ### target = e, a, b = e1, e2, x op= e, xs[i] = e -/
def sAsg (f : Mo AV) (g : Tg) : Mo Fl := stm f fun n av e1 => match fz e1 av with
  | some (d, e2) => (match g d e2 with
    | some e3 => some (.ok .nx (e3.take n))
    | none => none)
  | none => none
def sPar (i j : Nat) (f : Mo (List AV)) : Mo Fl := stm f fun n avs e1 => match avs with
  | [a, b] => (match setv n i a e1 with
    | some e2 => (match b with
      | .nam k => if k = i then none else (match setv n j b e2 with
        | some e3 => some (.ok .nx (e3.take n))
        | none => none)
      | _ => (match setv n j b e2 with
        | some e3 => some (.ok .nx (e3.take n))
        | none => none))
    | none => none)
  | _ => none
section
variable {X : Cx} {W : L2.WX} {pos : Pos} {e tg : Expr} {fe : Mo AV} {g : Tg}
theorem j_asg {ns : List Nat} (he : JE X W e fe) (hg : JG X tg g ns) (hs : swapsWithSole [tg] e pos.line X.env = pure false := by rfl) (hw : swappedStores [tg] e X.env = pure none := by rfl)
    (h1 : (assignEach [tg] X.env).map (·.2) = [assign tg X.env] := by rfl) : JS X W (.Assign [tg] e pos) (sAsg fe g) := by
  intro S env as σ H D R r hf hx hk
  refine PS.w (ps_asg pe_w pg_w hs hw h1) (he.inS R hf hx fun av e1 as1 H1 τ1 v hf1 R1 E1 V1 => ?_)
  cases h2 : fz e1 av with
  | none => simp only [h2] at hf1; cases hf1
  | some q =>
    obtain ⟨d, e2⟩ := q
    simp only [h2] at hf1
    cases h3 : g d e2 with
    | none => simp only [h3] at hf1; cases hf1
    | some e3 =>
      simp only [h3] at hf1
      cases hf1
      obtain ⟨as2, R2, E2, hd⟩ := fz_ok R1 V1 h2
      intro pins s u I ru
      refine hg S e2 e3 as2 σ τ1 H1 v d _ R2 hd h3 (fun as3 σ3 R3 E3 l3 _ => ?_) pins s u I ru
      have E := (E1.trans E2).trans E3
      obtain ⟨R4, E4⟩ := R.cutTo E R3
      rw [← R.lenS, ← l3, List.take_left] at R4
      rw [l3, R.lenS] at R4
      exact hk.nx _ rfl _ σ3 H1 R4 (E.trans E4)
theorem j_par {i j : Nat} {x y : Str} {a b : Expr} {fa : Mo (List AV)} {px py pt : Pos} {kt k2 pt2} (hc : X.calm = true) (hN : X.N.Nodup) (hi : X.N[i]? = some x) (hj : X.N[j]? = some y) (hij : i ≠ j)
    (hx : X.env.scope.names.lookup x = some .local) (hy : X.env.scope.names.lookup y = some .local) (ha : JA X W [a, b] fa)
    (hw : swappedStores [.Tuple [.Name x px, .Name y py] kt pt] (.Tuple [a, b] k2 pt2) X.env = pure (some [x, y]))
    (hs : swapsWithSole [.Tuple [.Name x px, .Name y py] kt pt] (.Tuple [a, b] k2 pt2) pos.line X.env = pure false := by rfl) :
    JS X W (.Assign [.Tuple [.Name x px, .Name y py] kt pt] (.Tuple [a, b] k2 pt2) pos) (sPar i j fa) := by
  intro S env as σ H D R r hf hxx hk
  unfold wS
  intro pins s I
  have hil : i < σ.length := by
    rw [I.len]
    exact (List.getElem?_eq_some_iff.mp hi).1
  have hjl : j < σ.length := by
    rw [I.len]
    exact (List.getElem?_eq_some_iff.mp hj).1
  refine (ps_par hc hN hi hj hij hx hy pa_w hw hs).run pins s σ H D I (ha.inS R hf hxx fun avs e1 as1 H1 τ1 vs hf1 R1 E1 V1 => ?_)
  match avs, hf1, V1 with
  | [u, w], hf1, .cons V (.cons V2 .nil) =>
    rename_i v1 v2
    refine ⟨v1, v2, rfl, ?_⟩
    cases h1 : setv env.length i u e1 with
    | none => simp only [h1] at hf1; cases hf1
    | some e2 =>
      simp only [h1] at hf1
      have hf2 : (∀ k, w = .nam k → k ≠ i) ∧ ∃ e3, setv env.length j w e2 = some e3 ∧ some (Rs.ok Fl.nx (e3.take env.length)) = some r := by
        cases w with
        | nam k =>
          by_cases hki : k = i
          · simp [hki] at hf1
          · simp only [hki, if_false] at hf1
            cases h2 : setv env.length j (.nam k) e2 with
            | none => simp only [h2] at hf1; cases hf1
            | some e3 => simp only [h2] at hf1; exact ⟨fun k' e => by cases e; exact hki, e3, rfl, hf1⟩
        | dat d =>
          cases h2 : setv env.length j (.dat d) e2 with
          | none => simp only [h2] at hf1; cases hf1
          | some e3 => simp only [h2] at hf1; exact ⟨fun k' e => (nomatch e), e3, rfl, hf1⟩
        | raw d =>
          cases h2 : setv env.length j (.raw d) e2 with
          | none => simp only [h2] at hf1; cases hf1
          | some e3 => simp only [h2] at hf1; exact ⟨fun k' e => (nomatch e), e3, rfl, hf1⟩
      obtain ⟨hne, e3, h2, er⟩ := hf2
      obtain ⟨as2, R2, E2, l2⟩ := setv_ok R1 V (by rw [← R.lenS]; exact hil) h1
      have V2' : VA S as2 H1 ((σ ++ τ1).set i (some v1)) v2 w := by
        cases w with
        | dat d => exact E2.so V2
        | raw d => exact V2
        | nam k =>
          have V2k : vl (σ ++ τ1) k = some v2 := V2
          show vl ((σ ++ τ1).set i (some v1)) k = some v2
          unfold vl at V2k ⊢
          rw [List.getElem?_set_ne (Ne.symm (hne k rfl))]
          exact V2k
      obtain ⟨as3, R3, E3, _⟩ := setv_ok R2 V2' (by rw [← R.lenS]; exact hjl) h2
      rw [set_app hil, set_app (by simpa using hjl)] at R3
      have E := (E1.trans E2).trans E3
      obtain ⟨R4, E4⟩ := R.cutTo E R3
      have hlen : ((σ.set i (some v1)).set j (some v2)).length = env.length := by simp [R.lenS]
      rw [← hlen, List.take_left] at R4
      rw [hlen] at R4
      exact hk.nx _ (Option.some.inj er).symm _ _ H1 R4 (E.trans E4)
/-- x op= e -/
def sAug (i : Nat) (op : D → D → Option RV) (f : Mo AV) : Mo Fl := fun e => match e[i]? with
  | some (.dat c) => stm f (fun n av e1 => match lk e1 av with
    | some d => (match op c d with
      | some (.dat z) => (match setv n i (.dat z) e1 with
        | some e2 => some (.ok .nx (e2.take n))
        | none => none)
      | _ => none)
    | none => none) e
  | _ => none
/-- in place, over data that hold no list of their own -/
def IpJ (X : Cx) (op : Operator) (o : D → D → Option RV) : Prop :=
  ∀ (U : Addr → Prop) (H : Hp) (x y : V) (c d z : D) (Q : VK), (∀ a, U a → ∃ o, H a = some o ∧ isMO o) → Dr U H x c → Dr U H y d → o c d = some (.dat z) → (∀ v H', Same H H' → Da U H' v z → Q v H') →
    ∀ (pins : List (Addr × Obj)) (s : Shared) (σ : L2.St) (v u : Value), L2.Inv X pins σ H s → RelV x v → RelV y u → wpAny (model X.prog X.w) X.A (inplaceOp op v u) (EP X pins σ Q) X.xe s
def wIp (X : Cx) (op : Operator) : TIp := fun x y H Q => ∀ (pins : List (Addr × Obj)) (s : Shared) (σ : L2.St) (v u : Value), L2.Inv X pins σ H s → RelV x v → RelV y u → wpAny (model X.prog X.w) X.A (inplaceOp op v u) (EP X pins σ Q) X.xe s
theorem ip_w {X : Cx} {op : Operator} : PIp X op (wIp X op) := fun pins s σ _ _ _ v u _ I rx ry h => h pins s σ v u I rx ry
def oIAdd : D → D → Option RV
  | .int a, .int b => some (.dat (.int (a + b)))
  | .str a, .str b => if a.length + b.length ≤ sizeLine then some (.dat (.str (a ++ b))) else none
  | _, _ => none
theorem ipj_add {X : Cx} : IpJ X .Add oIAdd := by
  intro U H x y c d z Q hU hc hd ho q pins s σ v u I rx ry
  cases c <;> cases d <;> simp [oIAdd] at ho
  case int.int a b =>
    subst ho
    exact iop_add pins s σ H x y v u Q I rx ry ⟨a, b, hc.getI, hd.getI, q _ H (Same.refl H) (.int _)⟩
  case str.str a b =>
    obtain ⟨h, rfl⟩ := ho
    exact iop_add_str pins s σ H x y v u Q I rx ry ⟨a, b, hc.getS, hd.getS, h, q _ H (Same.refl H) (.str _)⟩
theorem ipj_sub {X : Cx} : IpJ X .Sub oSub := by
  intro U H x y c d z Q hU hc hd ho q pins s σ v u I rx ry
  cases c <;> cases d <;> simp [oSub] at ho
  subst ho
  exact ip_sub pins s σ H x y v u Q I rx ry ⟨_, _, hc.getI, hd.getI, q _ H (Same.refl H) (.int _)⟩
theorem j_aug {i : Nat} {x : Str} {pos' : Pos} {op : Operator} {o : D → D → Option RV} (hN : X.N.Nodup) (hi : X.N[i]? = some x) (hx : Loc X.env.scope x) (he : JE X W e fe) (ho : IpJ X op o)
    (hf : X.fn x = true ∨ X.env.scope.names.lookup x = some .local := by first | exact .inl rfl | exact .inr rfl | assumption) : JS X W (.AugAssign (.Name x pos') op e pos) (sAug i o fe) := by
  intro S env as σ H D R r hff hxx hk
  unfold wS
  intro pins s I
  have hil : i < σ.length := by
    rw [I.len]
    exact (List.getElem?_eq_some_iff.mp hi).1
  unfold sAug at hff
  cases q : env[i]? with
  | none => simp only [q] at hff; cases hff
  | some y =>
    cases y <;> simp only [q] at hff <;> try (cases hff; done)
    rename_i c
    obtain ⟨oa, _, _, v, h1, h2⟩ := R.slot i _ q
    have h1' : vl (σ ++ []) i = some v := by rw [List.append_nil]; exact h1
    refine (ps_aug hN hi hx pe_w ip_w hf).run pins s σ H D I ⟨v, vl_of h1' hil, he.inS R hff hxx fun av e1 as1 H1 τ1 w hf1 R1 E1 V1 => ?_⟩
    cases h3 : lk e1 av with
    | none => simp only [h3] at hf1; cases hf1
    | some d =>
      simp only [h3] at hf1
      cases h4 : o c d with
      | none => simp only [h4] at hf1; cases hf1
      | some rv =>
        simp only [h4] at hf1
        cases rv with
        | fre z => cases hf1
        | raw z => cases hf1
        | dat z =>
          cases h5 : setv env.length i (.dat z) e1 with
          | none => simp only [h5] at hf1; cases hf1
          | some e2 =>
            simp only [h5] at hf1
            cases hf1
            refine ho (So S as1) H1 v w c d z _ R1.mo (E1.so h2).dr (V1.lk R1 h3) h4 fun v' H' k hz => ?_
            obtain ⟨as', R2, E2⟩ := set_end R (R1.same k) (E1.trans (.grow k)) (show VA S as1 H' (σ ++ τ1) v' (.dat z) from hz) hil h5
            exact hk.nx _ rfl as' _ H' R2 E2
end
end Sl
set_option Elab.async false
set_option linter.all false
set_option maxRecDepth 100000
set_option maxHeartbeats 4000000
namespace Sl
open PySem PySem.Spec PyProof.Rows L2
/-! ### [e for x in xs if t] -/
abbrev W0 : L2.WX := fun _ _ _ _ => False
def wTs (X : Cx) (ifs : List Expr) : TT := fun σ H Q => ∀ (pins : List (Addr × Obj)) (s : Shared), L2.Inv X pins σ H s →
    wpAny (model X.prog X.w) X.A (forIn ifs true fun c r => if r = true then do let ok ← isTrue c X.env (eval c X.env); pure (ForInStep.yield ok) else pure (ForInStep.yield r)) (TP X pins σ Q) X.xe s
abbrev JTs (X : Cx) (W : L2.WX) (ifs : List Expr) (f : Mo Bool) : Prop := Jw X W VB (wTs X ifs) f
def tTrue : Mo Bool := pur true
theorem jts_nil {X : Cx} {W : L2.WX} : JTs X W [] tTrue := by
  intro S env as σ τ H Q R r hf hx hk
  cases hf
  exact fun pins s I => pts_nil.run pins s σ H Q I (hk _ _ rfl as H τ _ R .refl (List.prefix_refl _) rfl)
theorem jts_one {X : Cx} {W : L2.WX} {c : Expr} {f : Mo Bool} (h : JT X W c f) : JTs X W [c] f := by
  intro S env as σ τ H Q R r hf hx hk
  exact fun pins s I => (pts_one pt_w).run pins s σ H Q I (h S env as σ τ H Q R r hf hx hk)
def plainE (e : JEnv) (v : Nat) : Bool := match e[v]? with
  | some .no => true
  | some (.dat _) => true
  | some (.raw _) => true
  | _ => false
def wipeE : List Nat → JEnv → JEnv
  | [], e => e
  | v :: vs, e => (wipeE vs e).set v .no
/-- the slots of vs as they are in e0 -/
def backE (e0 : JEnv) : List Nat → JEnv → JEnv
  | [], e => e
  | v :: vs, e => match e0[v]? with
    | some x => (backE e0 vs e).set v x
    | none => backE e0 vs e
def lcL (k : Nat) (vs : List Nat) (g : Tg) (ft : Mo Bool) (fe : Mo AV) : List D → JEnv → Option JEnv
  | [], e => some e
  | d :: ds, e => match g d e with
    | none => none
    | some e1 => match ft e1 with
      | some (.ok true e2) => (match fe e2 with
        | some (.ok av e3) => (match fz e3 av with
          | some (dv, e4) => (match e4[k]? with
            | some (.own (.list acc)) => if acc.length < sizeLine then lcL k vs g ft fe ds (wipeE vs ((e4.set k (.own (.list (acc ++ [dv])))).take (k + 1))) else none
            | _ => none)
          | none => none)
        | _ => none)
      | some (.ok false e2) => lcL k vs g ft fe ds (wipeE vs (e2.take (k + 1)))
      | _ => none
def eLc (vs : List Nat) (fi : Mo (List D)) (g : Tg) (ft : Mo Bool) (fe : Mo AV) : Mo AV := bnd fi fun items => fun e =>
  if vs.all (plainE e) then (match lcL e.length vs g ft fe items (wipeE vs e ++ [.own (.list [])]) with
    | some e2 => some (.ok (.nam e.length) (backE e vs e2))
    | none => none) else none
section
variable {S : Addr → Prop} {env e0 : JEnv} {as : List (Option Addr)} {ς ς' σ τ : L2.St} {H : Hp}
theorem app_at {α : Type} {a b t : List α} {j : Nat} (hl : a.length = b.length) (h : j < a.length → a[j]? = b[j]?) : (a ++ t)[j]? = (b ++ t)[j]? := by
  by_cases hj : j < a.length
  · rw [List.getElem?_append_left hj, List.getElem?_append_left (hl ▸ hj)]
    exact h hj
  · rw [List.getElem?_append_right (by omega), List.getElem?_append_right (by omega), hl]
theorem wipe_get (σ : L2.St) : ∀ (vs : List Nat) (j : Nat), (wipe σ vs)[j]? = if j ∈ vs ∧ j < σ.length then some none else σ[j]?
  | [], j => by simp [wipe]
  | v :: vs, j => by
    unfold wipe
    by_cases hv : v = j
    · subst hv
      by_cases hl : v < σ.length
      · rw [List.getElem?_set_self (by rw [wipe_length]; exact hl)]
        simp [hl]
      · rw [List.getElem?_eq_none (by simp [wipe_length]; omega)]
        simp [hl]
    · rw [List.getElem?_set_ne hv, wipe_get σ vs j]
      have : (j ∈ v :: vs) ↔ j ∈ vs := by
        constructor
        · intro h
          rcases List.mem_cons.mp h with h | h
          · exact absurd h.symm hv
          · exact h
        · exact List.mem_cons_of_mem _
      simp only [this]
theorem wipe_eq {σ2 : L2.St} {vs : List Nat} (hl : σ2.length = σ.length) (h : ∀ j, j ∉ vs → σ2[j]? = σ[j]?) : wipe σ2 vs = wipe σ vs := by
  apply List.ext_getElem?
  intro j
  rw [wipe_get, wipe_get, hl]
  by_cases hj : j ∈ vs
  · by_cases hjl : j < σ.length
    · simp [hj, hjl]
    · simp only [hj, hjl, and_false, if_false]
      rw [List.getElem?_eq_none (by omega), List.getElem?_eq_none (by omega)]
  · simp only [hj, false_and, if_false]
    exact h j hj
theorem wipeE_len (e : JEnv) : ∀ vs : List Nat, (wipeE vs e).length = e.length
  | [] => rfl
  | v :: vs => by unfold wipeE; rw [List.length_set, wipeE_len e vs]
theorem wipeE_at (e : JEnv) {v : Nat} : ∀ {vs : List Nat}, v ∈ vs → v < e.length → (wipeE vs e)[v]? = some .no
  | w :: vs, h, hl => by
    unfold wipeE
    by_cases hw : w = v
    · subst hw
      rw [List.getElem?_set_self (by rw [wipeE_len]; exact hl)]
    · rw [List.getElem?_set_ne hw]
      rcases List.mem_cons.mp h with z | z
      · exact absurd z.symm hw
      · exact wipeE_at e z hl
theorem wipeE_ne (e : JEnv) {j : Nat} : ∀ {vs : List Nat}, j ∉ vs → (wipeE vs e)[j]? = e[j]?
  | [], _ => rfl
  | w :: vs, h => by
    unfold wipeE
    rw [List.getElem?_set_ne fun z => h (by simp [z])]
    exact wipeE_ne e fun z => h (List.mem_cons_of_mem _ z)
/-- slots that hold nothing may change -/
theorem Rel.resig (R : Rel S env as ς H) (hl : ς'.length = ς.length) (h : ∀ (j : Nat) x, env[j]? = some x → x ≠ .no → vl ς' j = vl ς j) : Rel S env as ς' H := by
  refine ⟨R.lenA, hl.trans R.lenS, fun j x e => ?_, R.inj, R.so⟩
  obtain ⟨oa, e1, ok⟩ := R.slot j x e
  refine ⟨oa, e1, ?_⟩
  have hv : x ≠ .no → ∀ v, vl ς j = some v → vl ς' j = some v := fun n v q => by rw [h j x e n]; exact q
  cases x with
  | no => exact ok
  | dat d =>
    obtain ⟨h1, v, h2, h3⟩ := ok
    exact ⟨h1, v, hv (fun z => nomatch z) v h2, h3⟩
  | raw u => exact ⟨ok.1, hv (fun z => nomatch z) _ ok.2⟩
  | xc a d fs => exact ⟨ok.1, hv (fun z => (nomatch z)) _ ok.2.1, ok.2.2⟩
  | rd d =>
    obtain ⟨h1, a, h2, h3⟩ := ok
    exact ⟨h1, a, hv (fun z => nomatch z) _ h2, h3⟩
  | own d =>
    obtain ⟨a, h1, h2, h3⟩ := ok
    exact ⟨a, h1, hv (fun z => nomatch z) _ h2, h3⟩
  | mt d =>
    obtain ⟨a, h1, h2, h3⟩ := ok
    exact ⟨a, h1, hv (fun z => nomatch z) _ h2, h3⟩
/-- slots are emptied (none of them is another's to change) -/
theorem Rel.wipeE (vs : List Nat) : ∀ {env : JEnv} {as : List (Option Addr)}, Rel S env as ς H → (∀ v, v ∈ vs → ∀ a, as[v]? = some (some a) → ¬ S a) → ∃ as', Rel S (Sl.wipeE vs env) as' ς H ∧ ExtS S as H as' H ∧ ∀ (j : Nat), as'[j]? = as[j]? ∨ as'[j]? = some none := by
  induction vs with
  | nil => intro env as R _; exact ⟨as, R, .refl, fun j => .inl rfl⟩
  | cons v vs ih =>
    intro env as R h
    obtain ⟨as1, R1, E1, g1⟩ := ih R fun w hw => h w (List.mem_cons_of_mem _ hw)
    have hn : ∀ a, as1[v]? = some (some a) → ¬ S a := fun a e => by
      rcases g1 v with z | z
      · rw [z] at e
        exact h v List.mem_cons_self a e
      · rw [z] at e
        cases e
    refine ⟨as1.set v none, R1.put .no hn fun _ => rfl, E1.trans (.drop hn), fun j => ?_⟩
    by_cases hj : v = j
    · subst hj
      by_cases hl : v < as1.length
      · exact .inr (List.getElem?_set_self hl)
      · have : (as1.set v none)[v]? = as1[v]? := by
          rw [List.getElem?_eq_none (by simp; omega), List.getElem?_eq_none (by omega)]
        rw [this]
        exact g1 v
    · rw [List.getElem?_set_ne hj]
      exact g1 j
theorem plain_own {v : Nat} (R : Rel S env as ς H) (h : plainE env v = true) : ∀ a, as[v]? ≠ some (some a) := by
  intro a e
  obtain ⟨d, z, _⟩ := R.own_at e
  unfold plainE at h
  rcases z with ⟨z, _⟩ | ⟨z, _⟩ <;> (rw [z] at h; cases h)
/-- the slots as they were -/
theorem Rel.backE (vs : List Nat) {as0 : List (Option Addr)} {ς0 : L2.St} {H0 : Hp} (R0 : Rel S e0 as0 ς0 H0) (hp : vs.all (plainE e0) = true) (hv : ∀ v, v ∈ vs → vl ς v = vl ς0 v) :
    ∀ {env : JEnv} {as : List (Option Addr)}, Rel S env as ς H → ExtS S as0 H0 as H → (∀ v, v ∈ vs → as[v]? = some none) → ∃ as', Rel S (Sl.backE e0 vs env) as' ς H ∧ ExtS S as H as' H ∧ as' = as := by
  induction vs with
  | nil => intro env as R _ _; exact ⟨as, R, .refl, rfl⟩
  | cons v vs ih =>
    intro env as R E hn
    have hp' := List.all_cons ▸ hp
    rw [Bool.and_eq_true] at hp'
    obtain ⟨as1, R1, E1, rfl⟩ := ih hp'.2 (fun w hw => hv w (List.mem_cons_of_mem _ hw)) R E fun w hw => hn w (List.mem_cons_of_mem _ hw)
    unfold Sl.backE
    cases q : e0[v]? with
    | none => exact ⟨as1, R1, E1, rfl⟩
    | some x =>
      have hnv := hn v List.mem_cons_self
      have hset : as1.set v none = as1 := by
        apply List.ext_getElem?
        intro j
        by_cases hj : v = j
        · subst hj
          rw [List.getElem?_set_self (List.getElem?_eq_some_iff.mp hnv).1, hnv]
        · rw [List.getElem?_set_ne hj]
      have hvv := hv v List.mem_cons_self
      have R2 := R1.put (i := v) x (fun a e => by rw [hnv] at e; cases e) fun _ => by
        rw [hset]
        obtain ⟨oa, _, ok⟩ := R0.slot v x q
        have hpl := hp'.1
        unfold plainE at hpl
        rw [q] at hpl
        cases x with
        | no => rfl
        | dat d =>
          obtain ⟨_, w, h2, h3⟩ := ok
          exact ⟨rfl, w, by rw [hvv]; exact h2, E.so h3⟩
        | raw u => exact ⟨rfl, by rw [hvv]; exact ok.2⟩
        | _ => cases hpl
      rw [hset] at R2
      exact ⟨as1, R2, E1, rfl⟩
end

/-- the weakest readings, over all the ways in which a block may start -/
def gAllB (X : Cx) (scope : Scope) (tg : Expr) : TG := fun v σ H Q => ∀ (s : Shared) (H0 : Hp) (C : Addr) (cl : List (Str × Addr)) (fp : List Addr), wG (X.blk s H0 scope (compEnvC scope cl C X.env) fp) tg v σ H Q
def tAllB (X : Cx) (scope : Scope) (ifs : List Expr) : TT := fun σ H Q => ∀ (s : Shared) (H0 : Hp) (C : Addr) (cl : List (Str × Addr)) (fp : List Addr), wTs (X.blk s H0 scope (compEnvC scope cl C X.env) fp) ifs σ H Q
def eAllB (X : Cx) (scope : Scope) (e : Expr) : TE := fun σ H Q => ∀ (s : Shared) (H0 : Hp) (C : Addr) (cl : List (Str × Addr)) (fp : List Addr), wE (X.blk s H0 scope (compEnvC scope cl C X.env) fp) e σ H Q
section
variable {X : Cx} {W : L2.WX} {S : Addr → Prop} {scope : Scope} {elt tg iter : Expr} {ifs : List Expr} {vs : List Nat} {fi : Mo (List D)} {g : Tg} {ft : Mo Bool} {fe : Mo AV}
theorem lc_go {env : JEnv} {as : List (Option Addr)} {σ τ : L2.St} {H : Hp} {Q : VK} {r : Rs AV} (hi : JI X W tg iter fi)
    (hg : ∀ (s : Shared) (H0 : Hp) (C : Addr) (cl : List (Str × Addr)) (fp : List Addr), JG (X.blk s H0 scope (compEnvC scope cl C X.env) fp) tg g vs)
    (ht : ∀ (s : Shared) (H0 : Hp) (C : Addr) (cl : List (Str × Addr)) (fp : List Addr), JTs (X.blk s H0 scope (compEnvC scope cl C X.env) fp) W0 ifs ft)
    (he : ∀ (s : Shared) (H0 : Hp) (C : Addr) (cl : List (Str × Addr)) (fp : List Addr), JE (X.blk s H0 scope (compEnvC scope cl C X.env) fp) W0 elt fe)
    (R : Rel S env as (σ ++ τ) H) (hvs : ∀ v, v ∈ vs → v < σ.length) (hf : eLc vs fi g ft fe env = some r) (hx : OkX X W S as σ τ H r) (hk : OkV S as σ τ H VA Q r) :
    tLc (wI X tg iter) (gAllB X scope tg) (tAllB X scope ifs) (eAllB X scope elt) vs σ H Q := by
  refine hi.use R hf hx fun items e1 as1 H1 τ1 J hf1 R1 E1 p1 V1 => ?_
  intro D hD
  by_cases hp : vs.all (plainE e1) = true
  · simp only [hp, if_true] at hf1
    cases hL : lcL e1.length vs g ft fe items (wipeE vs e1 ++ [.own (.list [])]) with
    | none => simp only [hL] at hf1; cases hf1
    | some efin =>
      simp only [hL] at hf1
      have hlen1 : (σ ++ τ1).length = e1.length := R1.lenS
      have hvlt : ∀ v, v ∈ vs → v < e1.length := fun v hv => by
        have := hvs v hv
        rw [← hlen1, List.length_append]
        omega
      -- the block's own names are forgotten
      obtain ⟨asw, Rw, Ew, gw⟩ := R1.wipeE vs fun v hv a e => absurd e (plain_own R1 (List.all_eq_true.mp hp v hv) a)
      have Rw2 : Rel S (wipeE vs e1) asw (wipe σ vs ++ τ1) H1 := Rw.resig (by simp [wipe_length]) fun j x ej nx => by
        by_cases hj : j ∈ vs
        · rw [wipeE_at e1 hj (hvlt j hj)] at ej
          cases ej
          exact absurd rfl nx
        · unfold vl
          rw [app_at (wipe_length σ vs) fun _ => by rw [wipe_get]; simp [hj]]
      have hk0 : Same H1 (upd H1 D (.lst [])) := same_upd hD
      have R2 := Rw2.push (d := .list []) hk0 hD rfl (.lst upd_same .nil)
      have E2 : ExtS S as1 H1 (asw ++ [some D]) (upd H1 D (.lst [])) := Ew.trans (.push hk0 hD)
      rw [List.append_assoc] at R2
      have hkk : ∀ v, v ∈ vs → v ≠ e1.length := fun v hv z => absurd (hvlt v hv) (by omega)
      refine ⟨fun i m H' => m = items.length - i ∧ i ≤ items.length ∧ ∃ env' as', Rel S env' as' (wipe σ vs ++ (τ1 ++ [some (.ref D)])) H' ∧ ExtS S as1 H1 as' H' ∧ lcL e1.length vs g ft fe (items.drop i) env' = some efin ∧
        (∀ v, v ∈ vs → env'[v]? = some .no), ⟨items.length, rfl, Nat.zero_le _, _, _, R2, E2, hL, fun v hv => ?_⟩, fun i m H' w => ?_⟩
      · rw [List.getElem?_append_left (by rw [wipeE_len]; exact hvlt v hv)]
        exact wipeE_at e1 hv (hvlt v hv)
      · obtain ⟨hm, hi', env', as', R', E', hL', hno⟩ := w
        obtain ⟨gos, stops⟩ := V1 as' H' E' R'.mo
        have hl' : env'.length = e1.length + 1 := by
          rw [← R'.lenS]
          simp only [List.length_append, wipe_length, List.length_singleton]
          have := hlen1
          rw [List.length_append] at this
          omega
        have asno : ∀ v, v ∈ vs → as'[v]? = some none := fun v hv => by
          obtain ⟨oa, q1, q2⟩ := R'.slot v _ (hno v hv)
          have q2' : oa = none := q2
          rw [q1, q2']
        by_cases hlast : i = items.length
        · subst hlast
          rw [List.drop_length] at hL'
          cases hL'
          refine .inl ⟨stops, ?_⟩
          have R3 : Rel S efin as' (σ ++ (τ1 ++ [some (.ref D)])) H' := R'.resig (by simp [wipe_length]) fun j x ej nx => by
            by_cases hj : j ∈ vs
            · rw [hno j hj] at ej
              cases ej
              exact absurd rfl nx
            · unfold vl
              rw [app_at (wipe_length σ vs).symm fun _ => by rw [wipe_get]; simp [hj]]
          obtain ⟨as4, R4, E4, _⟩ := Rel.backE vs R1 hp (fun v hv => by
            unfold vl
            rw [List.getElem?_append_left (hvs v hv), List.getElem?_append_left (hvs v hv)]) R3 E' asno
          have er := Option.some.inj hf1
          refine hk _ _ er.symm as4 H' (τ1 ++ [some (.ref D)]) (.ref D) R4 ((E1.trans E').trans E4) (p1.trans (List.prefix_append _ _)) ?_
          show vl (σ ++ (τ1 ++ [some (V.ref D)])) e1.length = some (.ref D)
          rw [← List.append_assoc, ← hlen1]
          unfold vl
          simp
        · have hlt : i < items.length := by omega
          rw [List.drop_eq_getElem_cons hlt] at hL'
          unfold lcL at hL'
          cases h1 : g items[i] env' with
          | none => simp only [h1] at hL'; cases hL'
          | some e2 =>
            simp only [h1] at hL'
            obtain ⟨go, yld⟩ := gos i _ (List.getElem?_eq_getElem hlt)
            refine .inr ⟨go, fun H2 => ∃ env2 as2, Rel S env2 as2 (wipe σ vs ++ (τ1 ++ [some (.ref D)])) H2 ∧ ExtS S as1 H1 as2 H2 ∧ lcL e1.length vs g ft fe (items.drop (i + 1)) env2 = some efin ∧ (∀ v, v ∈ vs → env2[v]? = some .no),
              fun H2 ⟨env2, as2, w⟩ => ⟨items.length - (i + 1), by omega, rfl, hlt, env2, as2, w⟩, fun x H2 hy => ?_⟩
            obtain ⟨k, hd⟩ := yld x H2 hy
            have R3 := R'.same k
            have E3 : ExtS S as1 H1 as' H2 := E'.trans (.grow k)
            -- the end of a turn
            have turn : ∀ (e4 : JEnv) (as4 : List (Option Addr)) (σ2 τ4 : L2.St) (H4 : Hp), Rel S e4 as4 (σ2 ++ τ4) H4 → ExtS S as' H2 as4 H4 → σ2.length = (wipe σ vs).length → (∀ j, j ∉ vs → σ2[j]? = (wipe σ vs)[j]?) → (τ1 ++ [some (.ref D)]) <+: τ4 →
                lcL e1.length vs g ft fe (items.drop (i + 1)) (wipeE vs (e4.take (e1.length + 1))) = some efin →
                ∃ env2 as2, Rel S env2 as2 (wipe σ vs ++ (τ1 ++ [some (.ref D)])) H4 ∧ ExtS S as1 H1 as2 H4 ∧ lcL e1.length vs g ft fe (items.drop (i + 1)) env2 = some efin ∧ (∀ v, v ∈ vs → env2[v]? = some .no) := by
              intro e4 as4 σ2 τ4 H4 R4 E4 l2 o2 pp hL4
              obtain ⟨R5, E5⟩ := R3.cutTo E4 R4
              rw [hl'] at R5 E5
              have E45 := E4.trans E5
              obtain ⟨asx, R6, E6, g6⟩ := R5.wipeE vs fun v hv a e s => by
                rcases E45.nw a (List.mem_of_getElem? e) with z | z
                · obtain ⟨j, ej⟩ := List.mem_iff_getElem?.mp z
                  have := R5.inj _ _ _ e (E45.st j a s ej)
                  subst this
                  rw [asno v hv] at ej
                  cases ej
                · obtain ⟨o, q, _⟩ := R3.so a s
                  rw [z] at q
                  cases q
              have hςl : (wipe σ vs ++ (τ1 ++ [some (V.ref D)])).length = e1.length + 1 := by rw [R'.lenS, hl']
              have htk : (σ2 ++ τ4).take (e1.length + 1) = σ2 ++ (τ1 ++ [some (.ref D)]) := by
                obtain ⟨t, rfl⟩ := pp
                have hln : e1.length + 1 = (σ2 ++ (τ1 ++ [some (V.ref D)])).length := by rw [List.length_append, l2, ← List.length_append, hςl]
                rw [hln, show σ2 ++ (τ1 ++ [some (V.ref D)] ++ t) = (σ2 ++ (τ1 ++ [some (V.ref D)])) ++ t from (List.append_assoc _ _ _).symm, List.take_left]
              rw [htk] at R6
              have elen : ∀ v, v ∈ vs → v < (e4.take (e1.length + 1)).length := fun v hv => by
                rw [← R5.lenS, htk, List.length_append, l2, ← List.length_append, hςl]
                have := hvlt v hv
                omega
              refine ⟨_, asx, R6.resig (by rw [List.length_append (as := wipe σ vs), List.length_append (as := σ2), l2]) fun j y ej nx => ?_, (E3.trans E45).trans E6, hL4, fun v hv => wipeE_at _ hv (elen v hv)⟩
              by_cases hj : j ∈ vs
              · rw [wipeE_at _ hj (elen j hj)] at ej
                cases ej
                exact absurd rfl nx
              · unfold vl
                rw [app_at l2.symm fun _ => (o2 j hj).symm]
            intro s H0 C cl fp pins s' u I ru
            refine hg s H0 C cl fp S env' e2 as' (wipe σ vs) (τ1 ++ [some (.ref D)]) H2 x _ _ R3 hd h1 (fun as3 σ3 R4 E4 l3 o3 => ?_) pins s' u I ru
            refine ⟨?_, ?_⟩
            · apply List.ext_getElem?
              intro j
              rw [wipe_get, wipe_get, l3, wipe_length]
              by_cases hj : j ∈ vs
              · by_cases hjl : j < σ.length
                · simp [hj, hjl]
                · simp only [hj, hjl, and_false, if_false]
                  rw [List.getElem?_eq_none (by rw [l3, wipe_length]; omega), List.getElem?_eq_none (by omega)]
              · simp only [hj, false_and, if_false]
                rw [o3 j hj, wipe_get]
                simp [hj]
            · cases h2 : ft e2 with
              | none => simp only [h2] at hL'; cases hL'
              | some rt =>
                cases rt with
                | ex kk ee => simp only [h2] at hL'; cases hL'
                | ok b e3 =>
                  intro s1 H01 C1 cl1 fp1
                  refine ht s1 H01 C1 cl1 fp1 S e2 as3 σ3 (τ1 ++ [some (.ref D)]) H2 _ R4 _ h2 (fun kk ee er => nomatch er) fun a ee er as5 H5 τ5 v R5 E5 p5 V5 => ?_
                  cases er
                  cases V5
                  -- the list that is made stands at its place still
                  have keepAcc : ∀ (e6 : JEnv) (as6 : List (Option Addr)) (H6 : Hp) (τ6 : L2.St), Rel S e6 as6 (σ3 ++ τ6) H6 → (τ1 ++ [some (.ref D)]) <+: τ6 → ∀ c, e6[e1.length]? = some (.own c) → as6[e1.length]? = some (some D) ∧ Dr (So S as6) H6 (.ref D) c := by
                    intro e6 as6 H6 τ6 R6 p6 c hc
                    obtain ⟨oa, q1, a, rfl, q2, q3, q4, q5⟩ := R6.slot _ _ hc
                    have : vl (σ3 ++ τ6) e1.length = some (.ref D) := by
                      obtain ⟨t, rfl⟩ := p6
                      have hln : e1.length = (σ3 ++ τ1).length := by rw [List.length_append, l3, wipe_length, ← List.length_append, hlen1]
                      rw [hln]
                      unfold vl
                      rw [← List.append_assoc, ← List.append_assoc, List.append_assoc (σ3 ++ τ1)]
                      rw [List.getElem?_append_right (Nat.le_refl _)]
                      simp
                    rw [this] at q2
                    cases q2
                    exact ⟨q1, q5⟩
                  cases b with
                  | false =>
                    simp only [h2] at hL'
                    rw [if_neg (by simp)]
                    -- nothing is added
                    exact turn e3 as5 σ3 τ5 H5 R5 (E4.trans E5) l3 o3 p5 hL'
                  | true =>
                    simp only [h2] at hL'
                    rw [if_pos rfl]
                    intro s2 H02 C2 cl2 fp2
                    cases h3 : fe e3 with
                    | none => simp only [h3] at hL'; cases hL'
                    | some re =>
                      cases re with
                      | ex kk ee => simp only [h3] at hL'; cases hL'
                      | ok av e6 =>
                        simp only [h3] at hL'
                        refine he s2 H02 C2 cl2 fp2 S e3 as5 σ3 τ5 H5 _ R5 _ h3 (fun kk ee er => nomatch er) fun a ee er as6 H6 τ6 y R6 E6 p6 V6 => ?_
                        cases er
                        cases h4 : fz e6 av with
                        | none => simp only [h4] at hL'; cases hL'
                        | some q =>
                          obtain ⟨dv, e7⟩ := q
                          simp only [h4] at hL'
                          obtain ⟨as7, R7, E7, hdv⟩ := fz_ok R6 V6 h4
                          have p56 := p5.trans p6
                          cases h5 : e7[e1.length]? with
                          | none => simp only [h5] at hL'; cases hL'
                          | some sv =>
                            cases sv with
                            | own c =>
                              cases c with
                              | list acc7 =>
                                simp only [h5] at hL'
                                by_cases hsz : acc7.length < sizeLine
                                · simp only [hsz, if_true] at hL'
                                  obtain ⟨q1, q2⟩ := keepAcc e7 as7 H6 τ6 R7 p56 _ h5
                                  obtain ⟨a, xs, ea, hxs, hal⟩ := q2.getL
                                  cases ea
                                  refine ⟨xs, hxs, by rw [hal.length]; exact hsz, ?_⟩
                                  have hDin : So S as7 D := .inr (List.mem_of_getElem? q1)
                                  have kp : Kp (So S as7) H6 (upd H6 D (.lst (xs ++ [y]))) := fun b o nb hb => by
                                    rw [upd_ne fun z => nb (by rw [z]; exact hDin)]
                                    exact hb
                                  obtain ⟨R8, E8⟩ := R7.change (d := .list acc7) (d' := .list (acc7 ++ [dv])) (o := .lst []) q1 (fun b o nb hb => by rw [upd_ne nb]; exact hb) rfl (.lst upd_same ((hal.append (.cons hdv .nil)).keep kp fun _ z => z)) (x := .own (.list (acc7 ++ [dv]))) (.inl ⟨h5, rfl⟩)
                                  exact turn _ as7 σ3 τ6 _ R8 ((((E4.trans E5).trans E6).trans E7).trans E8) l3 o3 p56 hL'
                                · simp only [hsz, if_false] at hL'; cases hL'
                              | _ => simp only [h5] at hL'; cases hL'
                            | _ => simp only [h5] at hL'; cases hL'
  · simp only [hp] at hf1
    cases hf1
end
end Sl
set_option Elab.async false
set_option linter.all false
set_option maxRecDepth 100000
set_option maxHeartbeats 4000000
namespace Sl
open PySem PySem.Spec PyProof.Rows L2
section
variable {X : Cx} {W : L2.WX} {scope : Scope} {elt tg iter : Expr} {ifs : List Expr} {own : List (Str × Nat)} {fi : Mo (List D)} {g : Tg} {ft : Mo Bool} {fe : Mo AV} {pos spos py : Pos} {i : Nat} {y : Str}
theorem blk_lt {σ : L2.St} {pins : List (Addr × Obj)} {H : Hp} {s : Shared} (I : L2.Inv X pins σ H s) (ok : BlkOk X.N X.env.scope scope own) : ∀ v, v ∈ own.map (·.2) → v < σ.length := fun v hv => by
  obtain ⟨p, hp, rfl⟩ := List.mem_map.mp hv
  have := ok.ix p hp
  rw [I.len]
  exact (List.getElem?_eq_some_iff.mp this).1
theorem j_lc (hc : X.calm = true) (hN : X.N.Nodup) (hi : JI X W tg iter fi) (ok : BlkOk X.N X.env.scope scope own)
    (hg : ∀ (s : Shared) (H0 : Hp) (C : Addr) (cl : List (Str × Addr)) (fp : List Addr), JG (X.blk s H0 scope (compEnvC scope cl C X.env) fp) tg g (own.map (·.2)))
    (ht : ∀ (s : Shared) (H0 : Hp) (C : Addr) (cl : List (Str × Addr)) (fp : List Addr), JTs (X.blk s H0 scope (compEnvC scope cl C X.env) fp) W0 ifs ft)
    (he : ∀ (s : Shared) (H0 : Hp) (C : Addr) (cl : List (Str × Addr)) (fp : List Addr), JE (X.blk s H0 scope (compEnvC scope cl C X.env) fp) W0 elt fe)
    (hs : ∀ x, foldedSetIterable iter X.env x = pure x := by intro _; rfl) : JE X W (.ListComp elt [⟨tg, iter, ifs, 0⟩] scope pos) (eLc (own.map (·.2)) fi g ft fe) := by
  intro S env as σ τ H Q R r hf hx hk
  unfold wE
  intro pins s I
  exact (pe_lc (wi := wI X tg iter) (g := gAllB X scope tg) (tt := tAllB X scope ifs) (te := eAllB X scope elt) hc hN pi_w ok (fun s H0 C cl fp => ⟨fun pins s' σ H v u Q I r h => h s H0 C cl fp pins s' u I r⟩) (fun s H0 C cl fp => ⟨fun pins s' σ H Q I h => h s H0 C cl fp pins s' I⟩)
    (fun s H0 C cl fp => ⟨fun pins s' σ H Q I h => pe_w.run pins s' σ H Q I (h s H0 C cl fp)⟩) hs).run pins s σ H Q I (lc_go hi hg ht he R (blk_lt I ok) hf hx hk)
theorem j_setLc (hc : X.calm = true) (hN : X.N.Nodup) (hy : X.N[i]? = some y) (hyl : X.env.scope.names.lookup y = some .local)
    (hsw : swapsWith (.ListComp elt [⟨tg, iter, ifs, 0⟩] scope pos) (some (.Name y py)) spos.line X.env = pure true) (hi : JI X W tg iter fi) (ok : BlkOk X.N X.env.scope scope own)
    (hg : ∀ (s : Shared) (H0 : Hp) (C : Addr) (cl : List (Str × Addr)) (fp : List Addr), JG (X.blk s H0 scope (compEnvC scope cl C X.env) fp) tg g (own.map (·.2)))
    (ht : ∀ (s : Shared) (H0 : Hp) (C : Addr) (cl : List (Str × Addr)) (fp : List Addr), JTs (X.blk s H0 scope (compEnvC scope cl C X.env) fp) W0 ifs ft)
    (he : ∀ (s : Shared) (H0 : Hp) (C : Addr) (cl : List (Str × Addr)) (fp : List Addr), JE (X.blk s H0 scope (compEnvC scope cl C X.env) fp) W0 elt fe)
    (hs : ∀ x, foldedSetIterable iter X.env x = pure x := by intro _; rfl) : JS X W (.Assign [.Name y py] (.ListComp elt [⟨tg, iter, ifs, 0⟩] scope pos) spos) (sSet i (eLc (own.map (·.2)) fi g ft fe)) := by
  intro S env as σ H D R r hf hx hk
  unfold wS
  intro pins s I
  have hil : i < σ.length := by
    rw [I.len]
    exact (List.getElem?_eq_some_iff.mp hy).1
  have R0 : Rel S env as (σ ++ []) H := by rw [List.append_nil]; exact R
  unfold sSet stm at hf
  refine (ps_setLc (wi := wI X tg iter) (g := gAllB X scope tg) (tt := tAllB X scope ifs) (te := eAllB X scope elt) hc hN hy hyl hsw pi_w ok (fun s H0 C cl fp => ⟨fun pins s' σ H v u Q I r h => h s H0 C cl fp pins s' u I r⟩) (fun s H0 C cl fp => ⟨fun pins s' σ H Q I h => h s H0 C cl fp pins s' I⟩)
    (fun s H0 C cl fp => ⟨fun pins s' σ H Q I h => pe_w.run pins s' σ H Q I (h s H0 C cl fp)⟩) hs).run pins s σ H D I ?_
  show tLc (wI X tg iter) (gAllB X scope tg) (tAllB X scope ifs) (eAllB X scope elt) (own.map (·.2)) σ H (fun x H1 => D.nx (σ.set i (some x)) H1)
  cases h1 : eLc (own.map (·.2)) fi g ft fe env with
  | none => rw [h1] at hf; cases hf
  | some r1 =>
    rw [h1] at hf
    refine lc_go hi hg ht he R0 (blk_lt I ok) h1 ?_ ?_
    · cases r1 with
      | ex k e => cases hf; exact hx.ex.ox
      | ok a e => exact fun _ _ er => nomatch er
    · intro av e1 er as1 H1 τ1 v R1 E1 p1 V1
      subst er
      have hf' : (match setv env.length i av e1 with | some e2 => some (.ok .nx (e2.take env.length)) | none => none) = some r := hf
      cases h2 : setv env.length i av e1 with
      | none => rw [h2] at hf'; cases hf'
      | some e2 =>
        rw [h2] at hf'
        cases hf'
        obtain ⟨as', R2, E2⟩ := set_end R R1 E1 V1 hil h2
        exact hk.nx _ rfl as' _ H1 R2 E2
end
/-! ### a def -/
def outsOf : List Md → JEnv → List D
  | [], _ => []
  | _, [] => []
  | .m :: ms, x :: e => (match x with | .mt d => d | _ => .none) :: outsOf ms e
  | .v :: ms, _ :: e => outsOf ms e
  | .r :: ms, _ :: e => outsOf ms e
def retv (e : JEnv) : AV → Option RV
  | .dat d => some (.dat d)
  | .raw v => some (.raw v)
  | .nam i => match e[i]? with
    | some (.own d) => some (.fre d)
    | some (.dat d) => some (.dat d)
    | _ => none
def env0 (n : Nat) (ms : List Md) (ds : List D) : JEnv := List.zipWith mkSV ms ds ++ List.replicate (n - ms.length) .no
def runB (n : Nat) (ms : List Md) (b : Mo Fl) : Fs := fun ds => match b (env0 n ms ds) with
  | some (.ok .nx e) => some (.ret (.dat .none) (outsOf ms e))
  | some (.ok (.rt av) e) => (match retv e av with
    | some rv => some (.ret rv (outsOf ms e))
    | none => none)
  | some (.ex k e) => some (.exc k (outsOf ms e))
  | _ => none
section
variable {S : Addr → Prop} {env : JEnv} {as : List (Option Addr)} {ς : L2.St} {H H' : Hp}
theorem Rel.pad (m : Nat) (R : Rel S env as ς H) : Rel S (env ++ List.replicate m .no) (as ++ List.replicate m none) (ς ++ List.replicate m none) H := by
  have hle := R.lenA
  have hls := R.lenS
  have low : ∀ a, some a ∈ as ++ List.replicate m none → some a ∈ as := fun a h => by
    rcases List.mem_append.mp h with h | h
    · exact h
    · have := List.eq_of_mem_replicate h
      cases this
  have hE : ExtS S as H (as ++ List.replicate m none) H := ⟨fun _ _ _ e => e, fun a h => .inl (low a h), fun _ h => h, fun j a _ e => by
    rw [List.getElem?_append_left (List.getElem?_eq_some_iff.mp e).1]
    exact e⟩
  refine ⟨by simp [hle], by simp [hls], fun i x e => ?_, fun i j a e1 e2 => ?_, R.so⟩
  · by_cases hi : i < env.length
    · rw [List.getElem?_append_left hi] at e
      obtain ⟨oa, e1, ok⟩ := R.slot i x e
      exact ⟨oa, by rw [List.getElem?_append_left (by omega)]; exact e1, ok.ext hE (List.prefix_append _ _) fun _ _ _ e => e⟩
    · rw [List.getElem?_append_right (by omega)] at e
      have hx := List.eq_of_mem_replicate (List.mem_of_getElem? e)
      subst hx
      refine ⟨none, ?_, rfl⟩
      rw [List.getElem?_append_right (by omega)]
      have := (List.getElem?_eq_some_iff.mp e).1
      rw [List.getElem?_replicate]
      simp at this
      rw [if_pos (by omega)]
  · have at' : ∀ {i : Nat}, (as ++ List.replicate m none)[i]? = some (some a) → as[i]? = some (some a) := by
      intro i e
      by_cases hi : i < as.length
      · rw [List.getElem?_append_left hi] at e
        exact e
      · rw [List.getElem?_append_right (by omega)] at e
        have := List.eq_of_mem_replicate (List.mem_of_getElem? e)
        cases this
    exact R.inj i j a (at' e1) (at' e2)
/-- what stands at the places that the callee may change -/
theorem outs_ok {T : Addr → Prop} {as' : List (Option Addr)} {e' : JEnv} (R' : Rel S e' as' ς H') (hT : ∀ a, T a → So S as' a) : ∀ {ms : List Md} {ds : List D} {as0 : List (Option Addr)} (n : Nat), ds.length = ms.length → as0.length = ms.length →
    (∀ (i : Nat) x, (List.zipWith mkSV ms ds)[i]? = some x → ∃ oa, as0[i]? = some oa ∧ ((∃ d, x = .mt d) → ∃ a, oa = some a ∧ S a) ∧ ((∀ d, x ≠ .mt d) → oa = none)) → (∀ (i : Nat) a, as0[i]? = some (some a) → as'[n + i]? = some (some a)) →
    Outs T H' ms as0 (outsOf ms (e'.drop n))
  | [], ds, as0, n, h1, h2, h3, h4 => by
    have : as0 = [] := List.eq_nil_of_length_eq_zero h2
    subst this
    exact .nil
  | m :: ms, [], as0, n, h1, _, _, _ => by cases h1
  | m :: ms, d :: ds, [], n, _, h2, _, _ => by cases h2
  | m :: ms, d :: ds, oa :: as0, n, h1, h2, h3, h4 => by
    have ih := outs_ok (T := T) R' hT (ms := ms) (ds := ds) (as0 := as0) (n + 1) (Nat.succ.inj h1) (Nat.succ.inj h2) (fun i x e => h3 (i + 1) x e) (fun i a e => by
      have := h4 (i + 1) a e
      rw [show n + 1 + i = n + (i + 1) by omega]
      exact this)
    have hM : m = .m → n < e'.length := fun z => by
      subst z
      obtain ⟨oa', q1, q2, q3⟩ := h3 0 (mkSV .m d) rfl
      have q1' : oa = oa' := Option.some.inj q1
      subst q1'
      obtain ⟨a, ea, hS⟩ := q2 ⟨d, rfl⟩
      subst ea
      have := (List.getElem?_eq_some_iff.mp (h4 0 a rfl)).1
      have hl := R'.lenA
      omega
    obtain ⟨oa', q1, q2, q3⟩ := h3 0 (mkSV m d) rfl
    have q1' : oa = oa' := Option.some.inj q1
    subst q1'
    have skp : m ≠ .m → outsOf (m :: ms) (e'.drop n) = outsOf ms (e'.drop (n + 1)) := fun nm => by
      by_cases hn : n < e'.length
      · rw [List.drop_eq_getElem_cons hn]
        cases m with
        | v => rfl
        | r => rfl
        | m => exact absurd rfl nm
      · rw [List.drop_eq_nil_of_le (by omega), List.drop_eq_nil_of_le (by omega)]
        cases ms <;> cases m <;> rfl
    cases m with
    | v =>
      rw [q3 (fun _ z => (nomatch z)), skp (fun z => (nomatch z))]
      exact .skip (fun z => nomatch z) ih
    | r =>
      have : ∀ c, mkSV .r d ≠ .mt c := fun c z => by
        have z' : (if isM d then SV.rd d else SV.dat d) = .mt c := z
        split at z' <;> cases z'
      rw [q3 this, skp (fun z => (nomatch z))]
      exact .skip (fun z => nomatch z) ih
    | m =>
      have hn := hM rfl
      rw [List.drop_eq_getElem_cons hn]
      obtain ⟨a, ea, hS⟩ := q2 ⟨d, rfl⟩
      subst ea
      have hat := h4 0 a rfl
      rw [Nat.add_zero] at hat
      obtain ⟨c, z, z1, z2, z3⟩ := R'.own_at hat
      rcases z with ⟨_, z⟩ | ⟨z, _⟩
      · exact absurd hS z
      · rw [List.getElem?_eq_getElem hn] at z
        have z' := Option.some.inj z
        show Outs T H' (.m :: ms) (some a :: as0) ((match e'[n] with | .mt d => d | _ => .none) :: outsOf ms (e'.drop (n + 1)))
        rw [z']
        exact .m z2 (z3.less hT) ih
end
section
variable {P : Program} {w : World} {K : PySem.W.Frag} {mg : Str → Option Value} {base : Heap}
theorem spJ_len {ms : List Md} {F : Fs} {ps : List Str} (hl : ms.length = ps.length) : ∀ vs H Q E, spJ mg ms F vs H Q E → vs.length = ps.length := fun vs H Q E ⟨S, ds, as, r, _, h, _⟩ => h.trans hl
theorem fnJ {x qual : Str} {st : Stmt} {f : Addr} {fd : FuncData} {N ps : List Str} {k : Nat} {ms : List Md} {b : Mo Fl} (F : Fun K x qual st f fd) (Sc : FnScope N ps (defScope st)) (hl : ms.length = ps.length) (hN : ps.length ≤ N.length)
    (body : ∀ (cdv : Value) (A : Around) (outer : List Env) (s : Shared) (H : Hp) (E : XK), A.guards = some [] → Room k (A.deeper (envOfC qual (defScope st) s.heap.objs.size f cdv)) →
      JSs (cxOf (L2.CX P w) P w K mg base N qual (defScope st) f cdv A outer s H E) (fun cls d _ H' => E cls d H') (defBody st) b) : FnX P w K mg base (k + 1) f fd ps (spJ mg ms (runB N.length ms b)) := by
  refine fnX_mk F Sc (spJ_len hl) fun cdv A outer s H vs Q E g hr hsp => ⟨_, pss_w, ?_⟩
  obtain ⟨S, ds, as, r, l1, l2, R, hF, post⟩ := hsp
  have hJ := body cdv A outer s H E g hr
  have hm : (List.zipWith mkSV ms ds).length = ms.length := by simp [l1]
  have R1 := R.pad (N.length - ms.length)
  have hst : vs.map some ++ List.replicate (N.length - ms.length) none = L2.start N vs := by
    unfold L2.start
    rw [l2]
  rw [hst] at R1
  have hal : as.length = ms.length := by rw [R.lenA, hm]
  -- of the addresses of the arguments
  have argS : ∀ (i : Nat) x, (List.zipWith mkSV ms ds)[i]? = some x → ∃ oa, as[i]? = some oa ∧ ((∃ d, x = .mt d) → ∃ a, oa = some a ∧ S a) ∧ ((∀ d, x ≠ .mt d) → oa = none) := fun i x e => by
    obtain ⟨oa, e1, ok⟩ := R.slot i x e
    refine ⟨oa, e1, fun ⟨d, hd⟩ => ?_, fun hn => ?_⟩
    · subst hd
      obtain ⟨a, rfl, _, hS, _⟩ := ok
      exact ⟨a, rfl, hS⟩
    · cases x with
      | no => exact ok
      | dat d => exact ok.1
      | raw u => exact ok.1
      | xc _ _ _ => exact ok.1
      | rd d => exact ok.1
      | mt d => exact absurd rfl (hn d)
      | own d =>
        rw [List.getElem?_zipWith] at e
        cases q1 : ms[i]? with
        | none => rw [q1] at e; cases e
        | some m =>
          cases q2 : ds[i]? with
          | none => rw [q1, q2] at e; cases e
          | some c =>
            rw [q1, q2] at e
            have e' : mkSV m c = .own d := Option.some.inj e
            cases m with
            | v => cases e'
            | m => cases e'
            | r =>
              have e2 : (if isM c then SV.rd c else SV.dat c) = .own d := e'
              split at e2 <;> cases e2
  have asS : ∀ a, some a ∈ as → S a := fun a m => by
    obtain ⟨i, ei⟩ := List.mem_iff_getElem?.mp m
    have hi : i < (List.zipWith mkSV ms ds).length := by rw [hm, ← hal]; exact (List.getElem?_eq_some_iff.mp ei).1
    obtain ⟨oa, q1, q2, q3⟩ := argS i _ (List.getElem?_eq_getElem hi)
    rw [ei] at q1
    cases q1
    by_cases hx : ∃ d, (List.zipWith mkSV ms ds)[i] = .mt d
    · obtain ⟨b, eb, hS⟩ := q2 hx
      cases eb
      exact hS
    · have := q3 fun d hd => hx ⟨d, hd⟩
      cases this
  have padM : ∀ a, some a ∈ as ++ List.replicate (N.length - ms.length) none → some a ∈ as := fun a h => by
    rcases List.mem_append.mp h with h | h
    · exact h
    · have := List.eq_of_mem_replicate h
      cases this
  have ret : ∀ {as' : List (Option Addr)} {H' : Hp}, ExtS S (as ++ List.replicate (N.length - ms.length) none) H as' H' → RetOk S ms as H H' := fun E => ⟨fun a o n e => E.kp a o (fun m => n (padM a m)) e, E.up⟩
  have outs : ∀ {T : Addr → Prop} {as' : List (Option Addr)} {H' : Hp} {ς' : L2.St} {e' : JEnv}, Rel S e' as' ς' H' → ExtS S (as ++ List.replicate (N.length - ms.length) none) H as' H' → (∀ a, T a → So S as' a) → Outs T H' ms as (outsOf ms e') := by
    intro T as' H' ς' e' R' E hT
    have := outs_ok (T := T) R' hT (ms := ms) (ds := ds) (as0 := as) 0 l1 hal argS (fun i a e => by
      rw [Nat.zero_add]
      exact E.st i a (asS a (List.mem_of_getElem? e)) (by rw [List.getElem?_append_left (List.getElem?_eq_some_iff.mp e).1]; exact e))
    rw [List.drop_zero] at this
    exact this
  unfold runB at hF
  cases h1 : b (env0 N.length ms ds) with
  | none => rw [h1] at hF; cases hF
  | some r1 =>
    rw [h1] at hF
    refine hJ S _ _ _ H _ R1 r1 h1 (fun kk e' er as' σ' τ' H' cls d R' E hX => ?_) ⟨fun e' er as' σ' H' R' E => ?_, fun e' er => ?_, fun e' er => ?_, fun av e' er as' ς' H' v R' E V => ?_⟩
    · subst er
      have er := Option.some.inj hF
      subst er
      refine post H' cls d (ret E) (outs R' E fun a s => .inl s) ?_
      cases kk with
      | mk cx fs =>
        obtain ⟨C, q1, q2, q3⟩ := hX
        exact ⟨C, q1, q2, q3.less fun a s => .inl s⟩
    · subst er
      have er := Option.some.inj hF
      subst er
      refine post .non H' (ret E) (outs R' E fun a s => s.elim .inl fun z => z.elim) ?_
      exact Da.non
    · subst er
      cases hF
    · subst er
      cases hF
    · subst er
      have hF' : (match retv e' av with | some rv => some (RO.ret rv (outsOf ms e')) | none => none) = some r := hF
      cases h2 : retv e' av with
      | none => rw [h2] at hF'; cases hF'
      | some rv =>
        rw [h2] at hF'
        have er := Option.some.inj hF'
        subst er
        have plain : ResV S H H' v rv → (∀ a, ¬ isNew H v rv a) → Q v H' := fun h hn => post v H' (ret E) (outs R' E fun a s => s.elim .inl fun z => absurd z (hn a)) h
        cases av with
        | dat d =>
          cases h2
          have V' : Da (So S as') H' v d := V
          exact plain (V'.less fun a s => .inl s) fun a z => z
        | raw u =>
          cases h2
          exact plain V fun a z => z
        | nam i =>
          have V' : vl ς' i = some v := V
          unfold retv at h2
          cases q : e'[i]? with
          | none => simp only [q] at h2; cases h2
          | some sv =>
            cases sv with
            | own d =>
              simp only [q] at h2
              cases h2
              obtain ⟨oa, e1, a, rfl, w1, w2, w3, w4⟩ := R'.slot i _ q
              rw [V'] at w1
              cases w1
              have hfr : H a = none := by
                rcases E.nw a (List.mem_of_getElem? e1) with z | z
                · exact absurd (asS a (padM a z)) w2
                · exact z
              have hT : ∀ b, (S b ∨ b = a) → So S as' b := fun b m => by
                rcases m with m | m
                · exact .inl m
                · subst m
                  exact .inr (List.mem_of_getElem? e1)
              refine post (.ref a) H' (ret E) (outs R' E fun b m => ?_) ⟨a, rfl, hfr, w3, w4.less hT⟩
              rcases m with m | m
              · exact .inl m
              · cases m
                exact hT a (.inr rfl)
            | dat d =>
              simp only [q] at h2
              cases h2
              obtain ⟨oa, _, _, u, u1, u2⟩ := R'.slot i _ q
              rw [V'] at u1
              cases u1
              exact plain (u2.less fun a s => .inl s) fun a z => z
            | _ => simp only [q] at h2; cases h2
end
end Sl
set_option Elab.async false
set_option linter.all false
set_option maxRecDepth 100000
set_option maxHeartbeats 4000000
namespace Sl
open PySem PySem.Spec PyProof.Rows L2
/-! ### methods that change a list of the frame's own -/
abbrev LOp := List D → List D → Option (List D × D)
def pAppend : LOp
  | xs, [d] => if xs.length < sizeLine then some (xs ++ [d], .none) else none
  | _, _ => none
def pExtend : LOp
  | xs, [.list ys] => if xs.length + ys.length ≤ sizeLine then some (xs ++ ys, .none) else none
  | xs, [.tuple ys] => if xs.length + ys.length ≤ sizeLine then some (xs ++ ys, .none) else none
  | _, _ => none
def pPop : LOp
  | xs, [] => match xs[xs.length - 1]? with
    | some y => some (xs.dropLast, y)
    | none => none
  | _, _ => none
def pPopAt : LOp
  | xs, [.int i] => if -(2 ^ 63) ≤ i ∧ i < 2 ^ 63 then (match seqIndex? i xs.length with
    | some k => match xs[k]? with
      | some y => some (xs.eraseIdx k, y)
      | none => none
    | none => none) else none
  | _, _ => none
def pInsert : LOp
  | xs, [.int i, y] => if xs.length < sizeLine ∧ 0 ≤ i ∧ i < 2 ^ 63 then some (xs.take i.toNat ++ [y] ++ xs.drop i.toNat, .none) else none
  | _, _ => none
/-- by data: the arguments (given away: DaAll; read: DrAll) -/
def MtJ (X : Cx) (id : String) (AR : (Addr → Prop) → Hp → List V → List D → Prop) (op : LOp) : Prop :=
  ∀ (U : Addr → Prop) (H : Hp) (a : Addr) (xs vs : List V) (cs ds zs : List D) (y : D) (Q : VK), U a → H a = some (.lst xs) → DaAll U H xs cs → AR U H vs ds → op cs ds = some (zs, y) →
    (∀ v xs', DaAll U (upd H a (.lst xs')) xs' zs → Da U (upd H a (.lst xs')) v y → Q v (upd H a (.lst xs'))) →
    ∀ (pins : List (Addr × Obj)) (s : Shared) (σ : L2.St) (u : Value) (us : List Value), L2.Inv X pins σ H s → RelV (.ref a) u → Vals vs us → wpAny (model X.prog X.w) X.A (call (.builtin id) (u :: us)) (EP X pins σ Q) X.xe s
def wMt (X : Cx) (id : String) : V → List V → Hp → VK → Prop := fun x vs H Q => ∀ (pins : List (Addr × Obj)) (s : Shared) (σ : L2.St) (u : Value) (us : List Value), L2.Inv X pins σ H s → RelV x u → Vals vs us → wpAny (model X.prog X.w) X.A (call (.builtin id) (u :: us)) (EP X pins σ Q) X.xe s
theorem mt_w {X : Cx} {id : String} : MtR X id (wMt X id) := fun pins s σ _ _ _ v us _ I rx rs h => h pins s σ v us I rx rs
theorem kp_upd {U : Addr → Prop} {H : Hp} {a : Addr} {o : HO} (h : U a) : Kp U H (upd H a o) := fun b o nb e => by
  rw [upd_ne fun z => nb (by rw [z]; exact h)]
  exact e
theorem DaAll.upd {U : Addr → Prop} {H : Hp} {a : Addr} {o : HO} {xs : List V} {ds : List D} (h : U a) (x : DaAll U H xs ds) : DaAll U (L2.upd H a o) xs ds := x.keep (kp_upd h) fun _ z => z
theorem Da.upd {U : Addr → Prop} {H : Hp} {a : Addr} {o : HO} {v : V} {d : D} (h : U a) (x : Da U H v d) : Da U (L2.upd H a o) v d := x.keep (kp_upd h) fun _ z => z
theorem DaAll.dropLast {U : Addr → Prop} {H : Hp} : ∀ {xs : List V} {ds : List D}, DaAll U H xs ds → DaAll U H xs.dropLast ds.dropLast
  | _, _, .nil => .nil
  | _, _, .cons h .nil => .nil
  | _, _, .cons h (.cons h2 t) => .cons h (DaAll.dropLast (.cons h2 t))
theorem DaAll.erase {U : Addr → Prop} {H : Hp} : ∀ {xs : List V} {ds : List D} (k : Nat), DaAll U H xs ds → DaAll U H (xs.eraseIdx k) (ds.eraseIdx k)
  | _, _, _, .nil => .nil
  | _, _, 0, .cons h t => t
  | _, _, k + 1, .cons h t => .cons h (DaAll.erase k t)
theorem DaAll.getD {U : Addr → Prop} {H : Hp} {xs : List V} {ds : List D} (h : DaAll U H xs ds) {k : Nat} {y : D} (e : ds[k]? = some y) : ∃ v, xs[k]? = some v ∧ Da U H v y := by
  have hl : k < xs.length := by
    rw [h.length]
    exact (List.getElem?_eq_some_iff.mp e).1
  obtain ⟨d, h1, h2⟩ := h.get (List.getElem?_eq_getElem hl)
  rw [e] at h1
  cases h1
  exact ⟨_, List.getElem?_eq_getElem hl, h2⟩
section
variable {X : Cx}
theorem mj_append : MtJ X "list.append" DaAll pAppend := by
  intro U H a xs vs cs ds zs y Q hU hH hc hd ho q pins s σ u us I ru rs
  match ds, ho, hd with
  | [d], ho, .cons hv .nil =>
    rename_i v
    simp only [pAppend, Option.ite_none_right_eq_some, Option.some.injEq, Prod.mk.injEq] at ho
    obtain ⟨hz, rfl, rfl⟩ := ho
    exact mt_append pins s σ H _ _ u us Q I ru rs ⟨a, xs, v, rfl, rfl, hH, by rw [hc.length]; exact hz, q _ _ ((hc.append (.cons hv .nil)).upd hU) .non⟩
theorem mj_insert : MtJ X "list.insert" DaAll pInsert := by
  intro U H a xs vs cs ds zs y Q hU hH hc hd ho q pins s σ u us I ru rs
  match ds, ho, hd with
  | [.int i, d], ho, .cons hi (.cons hv .nil) =>
    rename_i v
    cases hi
    simp only [pInsert, Option.ite_none_right_eq_some, Option.some.injEq, Prod.mk.injEq] at ho
    obtain ⟨⟨hz, h0, h1⟩, rfl, rfl⟩ := ho
    exact mt_insert pins s σ H _ _ u us Q I ru rs ⟨a, xs, i, v, rfl, rfl, hH, by rw [hc.length]; exact hz, h0, h1, q _ _ ((((hc.take _).append (.cons hv .nil)).append (hc.drop _)).upd hU) .non⟩
theorem mj_extend : MtJ X "list.extend" DrAll pExtend := by
  intro U H a xs vs cs ds zs y Q hU hH hc hd ho q pins s σ u us I ru rs
  match ds, ho with
  | [.list ys], ho =>
    obtain ⟨v, rfl, hv⟩ := hd.one
    obtain ⟨b, ws, rfl, hb, hw⟩ := hv.getL
    simp only [pExtend, Option.ite_none_right_eq_some, Option.some.injEq, Prod.mk.injEq] at ho
    obtain ⟨hz, rfl, rfl⟩ := ho
    exact mt_extend pins s σ H _ _ u us Q I ru rs ⟨a, b, xs, ws, rfl, rfl, hH, hb, by rw [hc.length, hw.length]; exact hz, q _ _ ((hc.append hw).upd hU) .non⟩
  | [.tuple ys], ho =>
    obtain ⟨v, rfl, hv⟩ := hd.one
    obtain ⟨b, ws, rfl, hb, hw⟩ := hv.getT
    simp only [pExtend, Option.ite_none_right_eq_some, Option.some.injEq, Prod.mk.injEq] at ho
    obtain ⟨hz, rfl, rfl⟩ := ho
    exact mt_extT pins s σ H _ _ u us Q I ru rs ⟨a, b, xs, ws, rfl, rfl, hH, hb, by rw [hc.length, hw.length]; exact hz, q _ _ ((hc.append hw).upd hU) .non⟩
theorem mj_pop : MtJ X "list.pop" DrAll pPop := by
  intro U H a xs vs cs ds zs y Q hU hH hc hd ho q pins s σ u us I ru rs
  match ds, ho, hd with
  | [], ho, .nil =>
    unfold pPop at ho
    cases e : cs[cs.length - 1]? with
    | none => simp only [e] at ho; cases ho
    | some z =>
      simp only [e] at ho
      cases ho
      obtain ⟨v, h1, h2⟩ := hc.getD e
      rw [← hc.length] at h1
      exact mt_pop pins s σ H _ _ u us Q I ru rs ⟨a, xs, v, rfl, rfl, hH, h1, q _ _ (hc.dropLast.upd hU) (h2.upd hU)⟩
theorem mj_popAt : MtJ X "list.pop" DrAll pPopAt := by
  intro U H a xs vs cs ds zs y Q hU hH hc hd ho q pins s σ u us I ru rs
  match ds, ho with
  | [.int i], ho =>
    obtain ⟨v, rfl, hv⟩ := hd.one
    have := hv.getI
    subst this
    simp only [pPopAt, Option.ite_none_right_eq_some] at ho
    obtain ⟨⟨h0, h1⟩, ho⟩ := ho
    cases e : seqIndex? i cs.length with
    | none => simp only [e] at ho; cases ho
    | some k =>
      simp only [e] at ho
      cases e2 : cs[k]? with
      | none => simp only [e2] at ho; cases ho
      | some z =>
        simp only [e2] at ho
        cases ho
        obtain ⟨w, g1, g2⟩ := hc.getD e2
        exact mt_popAt pins s σ H _ _ u us Q I ru rs ⟨a, xs, i, k, w, rfl, rfl, hH, h0, h1, by rw [hc.length]; exact e, g1, q _ _ ((hc.erase k).upd hU) (g2.upd hU)⟩
end
def isLstSV : SV → Bool
  | .own (.list _) => true
  | .mt (.list _) => true
  | _ => false
/-- the list at slot i, changed -/
def chg (i : Nat) (op : LOp) (ds : List D) : Mo AV := fun e => match e[i]? with
  | some (.own (.list cs)) => (match op cs ds with
    | some (zs, y) => some (.ok (.dat y) (e.set i (.own (.list zs))))
    | none => none)
  | some (.mt (.list cs)) => (match op cs ds with
    | some (zs, y) => some (.ok (.dat y) (e.set i (.mt (.list zs))))
    | none => none)
  | _ => none
def rcvL (i : Nat) (f : Mo α) : Mo α := fun e => match e[i]? with
  | some x => if isLstSV x then f e else none
  | none => none
def eMtF (i : Nat) (op : LOp) (f : Mo (List AV)) : Mo AV := rcvL i (bnd f fun avs => fun e => match fzs e avs with
  | some (ds, e1) => chg i op ds e1
  | none => none)
def eMtL (i : Nat) (op : LOp) (f : Mo (List AV)) : Mo AV := rcvL i (bnd f fun avs => fun e => match lks e avs with
  | some ds => chg i op ds e
  | none => none)
def eMt0 (i : Nat) (op : LOp) : Mo AV := rcvL i (chg i op [])
section
variable {X : Cx} {W : L2.WX} {S : Addr → Prop} {env : JEnv} {as : List (Option Addr)} {σ τ ς : L2.St} {H : Hp} {i : Nat} {x : Str} {p apos cpos : Pos} {e : Expr} {es : List Expr} {fa : Mo (List AV)} {name : Str} {id : String} {op : LOp}
theorem rcv_at (R : Rel S env as ς H) {sv : SV} (h : env[i]? = some sv) (hl : isLstSV sv = true) : ∃ a xs, as[i]? = some (some a) ∧ vl ς i = some (.ref a) ∧ H a = some (.lst xs) := by
  cases sv with
  | own c =>
    cases c <;> try (cases hl; done)
    obtain ⟨a, h1, h2, _, h3⟩ := R.own_of (.inl h)
    obtain ⟨b, xs, eb, hH, _⟩ := h3.getL
    cases eb
    exact ⟨a, xs, h1, h2, hH⟩
  | mt c =>
    cases c <;> try (cases hl; done)
    obtain ⟨a, h1, h2, _, h3⟩ := R.own_of (.inr h)
    obtain ⟨b, xs, eb, hH, _⟩ := h3.getL
    cases eb
    exact ⟨a, xs, h1, h2, hH⟩
  | _ => cases hl
/-- behind the arguments -/
theorem chg_ok {AR : (Addr → Prop) → Hp → List V → List D → Prop} {vs : List V} {ds : List D} {r : Rs AV} {Q : VK} {a : Addr} (hm : MtJ X id AR op) (R : Rel S env as (σ ++ τ) H) (hv : vl (σ ++ τ) i = some (.ref a)) (hd : AR (So S as) H vs ds) (hf : chg i op ds env = some r) (hk : OkV S as σ τ H VA Q r) : wMt X id (.ref a) vs H Q := by
  have go : ∀ (cs : List D) (mk : D → SV), (mk = .own ∨ mk = .mt) → env[i]? = some (mk (.list cs)) → (match op cs ds with | some (zs, y) => some (.ok (.dat y) (env.set i (mk (.list zs)))) | none => none) = some r → wMt X id (.ref a) vs H Q := by
    intro cs mk hmk he hf
    have ho : env[i]? = some (.own (.list cs)) ∨ env[i]? = some (.mt (.list cs)) := by
      rcases hmk with rfl | rfl
      · exact .inl he
      · exact .inr he
    obtain ⟨b, h1, h2, _, h3⟩ := R.own_of ho
    rw [hv] at h2
    cases h2
    obtain ⟨c, xs, ec, hH, hc⟩ := h3.getL
    cases ec
    cases e1 : op cs ds with
    | none => rw [e1] at hf; cases hf
    | some q =>
      obtain ⟨zs, y⟩ := q
      rw [e1] at hf
      have er := Option.some.inj hf
      have hU : So S as a := .inr (List.mem_of_getElem? h1)
      refine hm (So S as) H a xs vs cs ds zs y Q hU hH hc hd e1 fun v xs' hz hy => ?_
      obtain ⟨R2, E2⟩ := R.change (d := .list cs) (d' := .list zs) (o := .lst []) h1 (fun b o nb hb => by rw [upd_ne nb]; exact hb) rfl (.lst upd_same hz) (x := mk (.list zs)) (by
        rcases hmk with rfl | rfl
        · exact .inl ⟨he, rfl⟩
        · exact .inr ⟨he, rfl⟩)
      exact hk _ _ er.symm as _ τ v R2 E2 (List.prefix_refl _) hy
  unfold chg at hf
  cases q : env[i]? with
  | none => simp only [q] at hf; cases hf
  | some sv =>
    cases sv with
    | own c => cases c <;> simp only [q] at hf <;> first | exact go _ _ (.inl rfl) q hf | cases hf
    | mt c => cases c <;> simp only [q] at hf <;> first | exact go _ _ (.inr rfl) q hf | cases hf
    | _ => simp only [q] at hf; cases hf
theorem pe_recv (hN : X.N[i]? = some x) (hv : Vis X.env.scope x) (hd : (x == ("__debug__" : Str)) = false := by decide) (hcd : (x == ("__classdict__" : Str)) = false := by decide) : PE X (.Name x p) (tVar i) := pe_var hN hv hd hcd
theorem rcvL_eq {α : Type} {f : Mo α} {r : Rs α} (h : rcvL i f env = some r) : ∃ sv, env[i]? = some sv ∧ isLstSV sv = true ∧ f env = some r := by
  unfold rcvL at h
  cases q : env[i]? with
  | none => simp only [q] at h; cases h
  | some sv =>
    simp only [q] at h
    cases hl : isLstSV sv with
    | false => simp [hl] at h
    | true => simp only [hl, if_true] at h; exact ⟨sv, rfl, hl, h⟩
theorem j_mtF (pa : PlainAttrs "list") (slot : Slot "list" name id) (hty : typeOf (.builtin id) = pure (.type "method_descriptor")) (hm : MtJ X id DaAll op) (hN : X.N[i]? = some x) (hvis : Vis X.env.scope x) (ha : JA X W (e :: es) fa)
    (hd : (x == ("__debug__" : Str)) = false := by decide) (hcd : (x == ("__classdict__" : Str)) = false := by decide)
    (hbase : attributeBase (.Name x p) name X.env (eval (.Name x p) X.env) = eval (.Name x p) X.env := by rfl)
    (hfew : ((backTo cpos (starEach (e :: es) X.env)).all (fun x => !x.1) && (backToKw cpos (keywordEach [] X.env)).all (fun x => x.1.isSome)
      && decide ((e :: es).length + ([] : List Keyword).length + (if ([] : List Keyword).isEmpty then 0 else 1) < 30)) = true := by rfl)
    (hline : (apos.endLine == cpos.line) = true := by rfl) (hs : starEach (e :: es) X.env = (false, eval e X.env) :: starEach es X.env := by exact se_cons rfl) (hplain : (backTo cpos (starEach es X.env)).any (·.1) = false := by rfl) :
    JE X W (.Call (.Attribute (.Name x p) name apos) (e :: es) [] cpos) (eMtF i op fa) := by
  intro S env as σ τ H Q R r hf hx hk
  unfold wE
  intro pins s I
  obtain ⟨sv, q1, q2, hf⟩ := rcvL_eq hf
  obtain ⟨a, xs, g1, g2, g3⟩ := rcv_at R q1 q2
  have hi : i < σ.length := by
    rw [I.len]
    exact (List.getElem?_eq_some_iff.mp hN).1
  refine (pe_bm pa slot hty mt_w (pe_recv hN hvis hd hcd) pa_w hbase hfew hline hs hplain).run pins s σ H Q I ⟨.ref a, vl_of g2 hi, .inl ⟨rfl, xs, SqL.of g3⟩, ha.use R hf hx fun avs e1 as1 H1 τ1 vs hf1 R1 E1 p1 V1 => ?_⟩
  cases h1 : fzs e1 avs with
  | none => simp only [h1] at hf1; cases hf1
  | some q =>
    obtain ⟨ds, e2⟩ := q
    simp only [h1] at hf1
    obtain ⟨as2, R2, E2, hd2⟩ := fzs_ok R1 V1 h1
    exact chg_ok hm R2 (vl_pre ((List.prefix_append_right_inj _).mpr p1) g2) hd2 hf1 (hk.step (E1.trans E2) p1)
theorem j_mtL (pa : PlainAttrs "list") (slot : Slot "list" name id) (hty : typeOf (.builtin id) = pure (.type "method_descriptor")) (hm : MtJ X id DrAll op) (hN : X.N[i]? = some x) (hvis : Vis X.env.scope x) (ha : JA X W (e :: es) fa)
    (hd : (x == ("__debug__" : Str)) = false := by decide) (hcd : (x == ("__classdict__" : Str)) = false := by decide)
    (hbase : attributeBase (.Name x p) name X.env (eval (.Name x p) X.env) = eval (.Name x p) X.env := by rfl)
    (hfew : ((backTo cpos (starEach (e :: es) X.env)).all (fun x => !x.1) && (backToKw cpos (keywordEach [] X.env)).all (fun x => x.1.isSome)
      && decide ((e :: es).length + ([] : List Keyword).length + (if ([] : List Keyword).isEmpty then 0 else 1) < 30)) = true := by rfl)
    (hline : (apos.endLine == cpos.line) = true := by rfl) (hs : starEach (e :: es) X.env = (false, eval e X.env) :: starEach es X.env := by exact se_cons rfl) (hplain : (backTo cpos (starEach es X.env)).any (·.1) = false := by rfl) :
    JE X W (.Call (.Attribute (.Name x p) name apos) (e :: es) [] cpos) (eMtL i op fa) := by
  intro S env as σ τ H Q R r hf hx hk
  unfold wE
  intro pins s I
  obtain ⟨sv, q1, q2, hf⟩ := rcvL_eq hf
  obtain ⟨a, xs, g1, g2, g3⟩ := rcv_at R q1 q2
  have hi : i < σ.length := by
    rw [I.len]
    exact (List.getElem?_eq_some_iff.mp hN).1
  refine (pe_bm pa slot hty mt_w (pe_recv hN hvis hd hcd) pa_w hbase hfew hline hs hplain).run pins s σ H Q I ⟨.ref a, vl_of g2 hi, .inl ⟨rfl, xs, SqL.of g3⟩, ha.use R hf hx fun avs e1 as1 H1 τ1 vs hf1 R1 E1 p1 V1 => ?_⟩
  cases h1 : lks e1 avs with
  | none => simp only [h1] at hf1; cases hf1
  | some ds =>
    simp only [h1] at hf1
    exact chg_ok hm R1 (vl_pre ((List.prefix_append_right_inj _).mpr p1) g2) (lks_ok R1 V1 h1) hf1 (hk.step E1 p1)
theorem j_mt0 (pa : PlainAttrs "list") (slot : Slot "list" name id) (hty : typeOf (.builtin id) = pure (.type "method_descriptor")) (hm : MtJ X id DrAll op) (hN : X.N[i]? = some x) (hvis : Vis X.env.scope x)
    (hd : (x == ("__debug__" : Str)) = false := by decide) (hcd : (x == ("__classdict__" : Str)) = false := by decide)
    (hbase : attributeBase (.Name x p) name X.env (eval (.Name x p) X.env) = eval (.Name x p) X.env := by rfl) (hline : (apos.endLine == cpos.line) = true := by rfl) :
    JE X W (.Call (.Attribute (.Name x p) name apos) [] [] cpos) (eMt0 i op) := by
  intro S env as σ τ H Q R r hf hx hk
  unfold wE
  intro pins s I
  obtain ⟨sv, q1, q2, hf⟩ := rcvL_eq hf
  obtain ⟨a, xs, g1, g2, g3⟩ := rcv_at R q1 q2
  have hi : i < σ.length := by
    rw [I.len]
    exact (List.getElem?_eq_some_iff.mp hN).1
  exact (pe_bm0 pa slot hty mt_w (pe_recv hN hvis hd hcd) hbase hline).run pins s σ H Q I ⟨.ref a, vl_of g2 hi, .inl ⟨rfl, xs, SqL.of g3⟩, chg_ok hm R g2 .nil hf hk⟩
end
/-! ### xs[i] = e -/
def sPutL (j : Nat) (fi fv : Mo AV) : Mo Fl := stm fv fun n av e1 => match fz e1 av with
  | some (dv, e2) => (match e2[j]? with
    | some x => if isLstSV x then (match fi e2 with
      | some (.ok ai e3) => (match lk e3 ai with
        | some (.int k) => (match e3[j]? with
          | some (.own (.list cs)) => (match ixN cs.length k with
            | some m => some (.ok .nx ((e3.set j (.own (.list (cs.set m dv)))).take n))
            | none => none)
          | some (.mt (.list cs)) => (match ixN cs.length k with
            | some m => some (.ok .nx ((e3.set j (.mt (.list (cs.set m dv)))).take n))
            | none => none)
          | _ => none)
        | _ => none)
      | some (.ex k e3) => some (.ex k e3)
      | none => none) else none
    | none => none)
  | none => none
theorem DaAll.set {U : Addr → Prop} {H : Hp} {v : V} {d : D} (hv : Da U H v d) : ∀ {xs : List V} {ds : List D} (k : Nat), DaAll U H xs ds → DaAll U H (xs.set k v) (ds.set k d)
  | _, _, _, .nil => .nil
  | _, _, 0, .cons h t => .cons hv t
  | _, _, k + 1, .cons h t => .cons h (DaAll.set hv k t)
section
variable {X : Cx} {W : L2.WX} {j : Nat} {x : Str} {p pos' pos : Pos} {i value : Expr} {fi fv : Mo AV}
theorem j_putL (hN : X.N[j]? = some x) (hvis : Vis X.env.scope x) (hi : JE X W i fi) (hv : JE X W value fv)
    (hd : (x == ("__debug__" : Str)) = false := by decide) (hcd : (x == ("__classdict__" : Str)) = false := by decide)
    (hs : swapsWithSole [.Subscript (.Name x p) i pos'] value pos.line X.env = pure false := by rfl) (hw : swappedStores [.Subscript (.Name x p) i pos'] value X.env = pure none := by rfl)
    (h1 : (assignEach [.Subscript (.Name x p) i pos'] X.env).map (·.2) = [assign (.Subscript (.Name x p) i pos') X.env] := by rfl)
    (hsub : ∀ v, assign (.Subscript (.Name x p) i pos') X.env v = (do
      let ov ← holding [v] (eval (.Name x p) X.env)
      let iv ← holding [v, ov] (eval i X.env)
      standAt pos'
      holding [v, ov, iv] (setItem ov iv v)
      release [v, ov, iv] []) := by intro _; rfl) : JS X W (.Assign [.Subscript (.Name x p) i pos'] value pos) (sPutL j fi fv) := by
  intro S env as σ H D R r hf hx hk
  unfold wS
  intro pins s I
  have hjl : j < σ.length := by
    rw [I.len]
    exact (List.getElem?_eq_some_iff.mp hN).1
  refine (ps_asg pe_w (pg_sub (pe_recv hN hvis hd hcd) pe_w set_list hsub) hs hw h1).run pins s σ H D I (hv.inS R hf hx fun av e1 as1 H1 τ1 v hf1 R1 E1 V1 => ?_)
  cases h2 : fz e1 av with
  | none => simp only [h2] at hf1; cases hf1
  | some q =>
    obtain ⟨dv, e2⟩ := q
    simp only [h2] at hf1
    obtain ⟨as2, R2, E2, hdv⟩ := fz_ok R1 V1 h2
    cases h3 : e2[j]? with
    | none => simp only [h3] at hf1; cases hf1
    | some sv =>
      simp only [h3] at hf1
      cases hl : isLstSV sv with
      | false => simp [hl] at hf1
      | true =>
        simp only [hl, if_true] at hf1
        obtain ⟨a, xs, g1, g2, g3⟩ := rcv_at R2 h3 hl
        have hx2 := hx.step (E1.trans E2)
        refine ⟨.ref a, vl_of g2 hjl, ?_⟩
        cases h4 : fi e2 with
        | none => simp only [h4] at hf1; cases hf1
        | some r4 =>
          refine hi S e2 as2 σ τ1 H1 _ R2 r4 h4 ?_ ?_
          · cases r4 with
            | ex k e => simp only [h4] at hf1; cases hf1; exact (hx2.ex).ox
            | ok _ _ => exact fun _ _ er => nomatch er
          · intro ai e3 er as3 H3 τ3 iv R3 E3 p3 V3
            subst er
            simp only [h4] at hf1
            cases h5 : lk e3 ai with
            | none => simp only [h5] at hf1; cases hf1
            | some di =>
              cases di <;> simp only [h5] at hf1 <;> try (cases hf1; done)
              rename_i k
              have hiv := (V3.lk R3 h5).getI
              have g2' := vl_pre ((List.prefix_append_right_inj σ).mpr p3) g2
              have go : ∀ (cs : List PyData) (mk : PyData → SV), (mk = .own ∨ mk = .mt) → e3[j]? = some (mk (.list cs)) → (match ixN cs.length k with | some m => some (Rs.ok Fl.nx ((e3.set j (mk (.list (cs.set m dv)))).take env.length)) | none => none) = some r →
                  rSetL (.ref a) iv v H3 fun H4 => D.nx σ H4 := by
                intro cs mk hmk he hf
                have ho : e3[j]? = some (.own (.list cs)) ∨ e3[j]? = some (.mt (.list cs)) := by
                  rcases hmk with rfl | rfl
                  · exact .inl he
                  · exact .inr he
                obtain ⟨b, k1, k2, _, k3⟩ := R3.own_of ho
                rw [g2'] at k2
                cases k2
                obtain ⟨c, ys, ec, hH, hc⟩ := k3.getL
                cases ec
                cases e6 : ixN cs.length k with
                | none => rw [e6] at hf; cases hf
                | some m =>
                  rw [e6] at hf
                  have er := Option.some.inj hf
                  have hU : So S as3 a := .inr (List.mem_of_getElem? k1)
                  refine ⟨a, ys, k, m, rfl, hiv, hH, by rw [hc.length]; exact e6, ?_⟩
                  obtain ⟨R4, E4⟩ := R3.change (d := .list cs) (d' := .list (cs.set m dv)) (H1 := upd H3 a (.lst (ys.set m v))) (o := .lst []) k1 (fun b o nb hb => by rw [upd_ne nb]; exact hb) rfl (.lst upd_same ((DaAll.set (E3.so hdv) m hc).upd hU)) (x := mk (.list (cs.set m dv))) (by
                    rcases hmk with rfl | rfl
                    · exact .inl ⟨he, rfl⟩
                    · exact .inr ⟨he, rfl⟩)
                  have EE := ((E1.trans E2).trans E3).trans E4
                  obtain ⟨as5, R5, E5⟩ := cut_end R R4 EE
                  exact hk.nx _ er.symm as5 σ _ R5 E5
              cases q : e3[j]? with
              | none => simp only [q] at hf1; cases hf1
              | some sv3 =>
                cases sv3 with
                | own c => cases c <;> simp only [q] at hf1 <;> first | exact go _ _ (.inl rfl) q hf1 | cases hf1
                | mt c => cases c <;> simp only [q] at hf1 <;> first | exact go _ _ (.inr rfl) q hf1 | cases hf1
                | _ => simp only [q] at hf1; cases hf1
end
end Sl
set_option Elab.async false
set_option linter.all false
set_option maxRecDepth 100000
set_option maxHeartbeats 4000000
namespace Sl
open PySem PySem.Spec PyProof.Rows L2
/-! ### a < b < c -/
def eChain (o1 o2 : D → D → Option RV) (a b c : Mo AV) : Mo AV := bnd a fun x => bnd b fun y => fun e => match fin2 o1 x y e with
  | some (.ok (.dat (.bool true)) e1) => bnd c (fun z => fin2 o2 y z) e1
  | some (.ok (.dat (.bool false)) e1) => some (.ok (.dat (.bool false)) e1)
  | _ => none
section
variable {X : Cx} {W : L2.WX} {a b c : Expr} {fa fb fc : Mo AV} {pos : Pos}
theorem j_chain {op op' : CmpOp} {o1 o2 : D → D → Option RV} (h1 : OpJ X (compareOp op) o1) (h2 : OpJ X (compareOp op') o2) (ha : JE X W a fa) (hb : JE X W b fb) (hc : JE X W c fc)
    (hm : lastMarks [op, op'] [b, c] = false := by with_unfolding_all rfl) : JE X W (.Compare a [op, op'] [b, c] pos) (eChain o1 o2 fa fb fc) := by
  intro S env as σ τ H Q R r hf hx hk
  refine PE.w (pe_chain op_w op_w pe_w pe_w pe_w hm) (ha.use R hf hx fun u e1 as1 H1 τ1 x hf1 R1 E1 p1 V1 => ?_)
  refine hb.use R1 hf1 (hx.step E1 p1) fun v e2 as2 H2 τ2 y hf2 R2 E2 p2 V2 => ?_
  have V1' := V1.ext E2 ((List.prefix_append_right_inj σ).mpr p2)
  have hx2 := (hx.step E1 p1).step E2 p2
  have hk2 := (hk.step E1 p1).step E2 p2
  cases q : fin2 o1 u v e2 with
  | none => simp only [q] at hf2; cases hf2
  | some r3 =>
    refine fin2_ok (r := r3) h1 R2 V1' V2 q ?_
    intro av e' er as3 H3 τ3 z R3 E3 p3 V3
    subst er
    cases av with
    | raw _ => simp only [q] at hf2; cases hf2
    | nam _ => simp only [q] at hf2; cases hf2
    | dat d =>
      cases d <;> try (simp only [q] at hf2; cases hf2; done)
      rename_i k
      have V3' : Da _ H3 z (.bool k) := V3
      cases V3'
      refine ⟨k, rfl, ?_⟩
      cases k with
      | false =>
        rw [if_neg (by simp)]
        simp only [q] at hf2
        cases hf2
        exact hk2 _ _ rfl as3 H3 τ3 _ R3 E3 p3 (show Da _ H3 _ _ from .bl false)
      | true =>
        rw [if_pos rfl]
        simp only [q] at hf2
        refine hc.use R3 hf2 (hx2.step E3 p3) fun w e4 as4 H4 τ4 y4 hf4 R4 E4 p4 V4 => ?_
        exact fin2_ok h2 R4 ((V2.ext E3 ((List.prefix_append_right_inj σ).mpr p3)).ext E4 ((List.prefix_append_right_inj σ).mpr p4)) V4 hf4 ((hk2.step E3 p3).step E4 p4)
end
/-- a test by its value, a bool -/
theorem j_tval {X : Cx} {W : L2.WX} {a : Expr} {fa : Mo AV} (ha : JE X W a fa) (he : ∀ whole, isTrue a X.env whole = (do let v ← whole; standAt a.pos; holding [v] (truthy v)) := by intro _; rfl) : JT X W a (tBl fa) := by
  intro S env as σ τ H Q R r hf hx hk
  refine PT.w (pt_val pe_w he) (ha.use R hf hx fun av e1 as1 H1 τ1 v hf1 R1 E1 p1 V1 => ?_)
  cases av with
  | raw _ => cases hf1
  | nam _ => cases hf1
  | dat d =>
    cases d <;> try (cases hf1; done)
    rename_i k
    have V1' : Da _ H1 v (.bool k) := V1
    cases V1'
    cases hf1
    exact ⟨k, rfl, hk _ _ rfl as1 H1 τ1 _ R1 E1 p1 rfl⟩
theorem j_tchain {X : Cx} {W : L2.WX} {a b c : Expr} {fa fb fc : Mo AV} {pos : Pos} {op op' : CmpOp} {o1 o2 : D → D → Option RV} (h1 : OpJ X (compareOp op) o1) (h2 : OpJ X (compareOp op') o2) (ha : JE X W a fa) (hb : JE X W b fb) (hc : JE X W c fc)
    (hm : lastMarks [op, op'] [b, c] = false := by with_unfolding_all rfl) : JT X W (.Compare a [op, op'] [b, c] pos) (tBl (eChain o1 o2 fa fb fc)) := by
  intro S env as σ τ H Q R r hf hx hk
  have hf' : bnd fa (fun x => bnd fb fun y => fun e => match fin2 o1 x y e with
      | some (.ok (.dat (.bool true)) e1) => bnd fc (fun z => fun e => match fin2 o2 y z e with | some (.ok (.dat (.bool k)) e1) => some (.ok k e1) | _ => none) e1
      | some (.ok (.dat (.bool false)) e1) => some (.ok false e1)
      | _ => none) env = some r := by
    unfold tBl eChain at hf
    unfold bnd at hf ⊢
    cases q1 : fa env with
    | none => simp only [q1] at hf; cases hf
    | some r1 =>
      cases r1 with
      | ex k e1 => simp only [q1] at hf ⊢; exact hf
      | ok x e1 =>
        simp only [q1] at hf ⊢
        cases q2 : fb e1 with
        | none => simp only [q2] at hf; cases hf
        | some r2 =>
          cases r2 with
          | ex k e2 => simp only [q2] at hf ⊢; exact hf
          | ok y e2 =>
            simp only [q2] at hf ⊢
            cases q3 : fin2 o1 x y e2 with
            | none => simp only [q3] at hf; cases hf
            | some r3 =>
              cases r3 with
              | ex k e3 => simp only [q3] at hf; cases hf
              | ok z e3 =>
                cases z with
                | raw _ => simp only [q3] at hf; cases hf
                | nam _ => simp only [q3] at hf; cases hf
                | dat d =>
                  cases d <;> try (simp only [q3] at hf; cases hf; done)
                  rename_i k
                  cases k with
                  | false => simp only [q3] at hf ⊢; exact hf
                  | true =>
                    simp only [q3] at hf ⊢
                    cases q4 : fc e3 with
                    | none => simp only [q4] at hf; cases hf
                    | some r4 =>
                      cases r4 with
                      | ex k e4 => simp only [q4] at hf ⊢; exact hf
                      | ok w e4 =>
                        simp only [q4] at hf ⊢
                        cases q5 : fin2 o2 y w e4 with
                        | none => simp only [q5] at hf; cases hf
                        | some r5 =>
                          cases r5 with
                          | ex k e5 =>
                            exfalso
                            obtain ⟨c, d, rv, _, _, _, h4⟩ := fin2_eq q5
                            cases rv <;> cases h4
                          | ok z e5 =>
                            simp only [q5] at hf ⊢
                            cases z with
                            | raw _ => exact hf
                            | nam _ => exact hf
                            | dat d => cases d <;> exact hf
  refine PT.w (pt_chain op_w op_w pe_w pe_w pe_w hm) (ha.use R hf' hx fun u e1 as1 H1 τ1 x hf1 R1 E1 p1 V1 => ?_)
  refine hb.use R1 hf1 (hx.step E1 p1) fun v e2 as2 H2 τ2 y hf2 R2 E2 p2 V2 => ?_
  have V1' := V1.ext E2 ((List.prefix_append_right_inj σ).mpr p2)
  have hx2 := (hx.step E1 p1).step E2 p2
  have hk2 := (hk.step E1 p1).step E2 p2
  cases q : fin2 o1 u v e2 with
  | none => simp only [q] at hf2; cases hf2
  | some r3 =>
    refine fin2_ok (r := r3) h1 R2 V1' V2 q ?_
    intro av e' er as3 H3 τ3 z R3 E3 p3 V3
    subst er
    cases av with
    | raw _ => simp only [q] at hf2; cases hf2
    | nam _ => simp only [q] at hf2; cases hf2
    | dat d =>
      cases d <;> try (simp only [q] at hf2; cases hf2; done)
      rename_i k
      have V3' : Da _ H3 z (.bool k) := V3
      cases V3'
      refine ⟨k, rfl, ?_⟩
      cases k with
      | false =>
        rw [if_neg (by simp)]
        simp only [q] at hf2
        cases hf2
        exact ⟨false, rfl, hk2 _ _ rfl as3 H3 τ3 _ R3 E3 p3 rfl⟩
      | true =>
        rw [if_pos rfl]
        simp only [q] at hf2
        refine hc.use R3 hf2 (hx2.step E3 p3) fun w e4 as4 H4 τ4 y4 hf4 R4 E4 p4 V4 => ?_
        cases q5 : fin2 o2 v w e4 with
        | none => simp only [q5] at hf4; cases hf4
        | some r5 =>
          refine fin2_ok (r := r5) h2 R4 ((V2.ext E3 ((List.prefix_append_right_inj σ).mpr p3)).ext E4 ((List.prefix_append_right_inj σ).mpr p4)) V4 q5 ?_
          intro av e' er as5 H5 τ5 z R5 E5 p5 V5
          subst er
          simp only [q5] at hf4
          cases av with
          | raw _ => cases hf4
          | nam _ => cases hf4
          | dat d =>
            cases d <;> try (cases hf4; done)
            rename_i k
            have V5' : Da _ H5 z (.bool k) := V5
            cases V5'
            cases hf4
            exact ⟨k, rfl, hk2 _ _ rfl as5 H5 τ5 _ R5 (E3.trans (E4.trans E5)) (p3.trans (p4.trans p5)) rfl⟩
/-! ### xs[a:b] -/
def cutD (ds : List D) (lo hi : Option Int) : List D := (ds.drop (HT.sIx ds.length 0 lo)).take (HT.sIx ds.length ds.length hi - HT.sIx ds.length 0 lo)
def oSl (d : D) (lo hi : Option Int) : Option RV := match d with
  | .list ds => some (.fre (.list (cutD ds lo hi)))
  | .tuple ds => some (.dat (.tuple (cutD ds lo hi)))
  | .str z => if z.length ≤ sizeLine then some (.dat (.str (cutS z lo hi))) else none
  | _ => none
def pNo : Mo (Option Int) := pur none
def pSo (f : Mo AV) : Mo (Option Int) := bnd f fun a => fun e => match lk e a with
  | some (.int i) => some (.ok (some i) e)
  | _ => none
def eSl (f : Mo AV) (lo hi : Mo (Option Int)) : Mo AV := bnd f fun a => bnd lo fun l => bnd hi fun u => fun e => match lk e a with
  | some d => mkO (oSl d l u) e
  | none => none
def VO (_ : Addr → Prop) (_ : List (Option Addr)) (_ : Hp) (_ : L2.St) (v b : Option Int) : Prop := v = b
def wSl (X : Cx) : V → Option Int → Option Int → Hp → VK → Prop := fun x lo hi H Q => ∀ (pins : List (Addr × Obj)) (s : Shared) (σ : L2.St) (v vl vu : Value) (sl : Addr), L2.Inv X pins σ H s → RelV x v → s.heap.IsSliceOf sl vl vu .none → IsPart vl lo → IsPart vu hi →
    ∃ T id, typeLookup (.type T) "__getitem__" = pure (some (.builtin id)) ∧ s.TypeIs v T ∧ wpAny (model X.prog X.w) X.A (getItem v (.ref sl)) (EP X pins σ Q) X.xe s
theorem sl_w {X : Cx} : SlR X (wSl X) := fun pins s σ _ _ v vl vu _ _ sl _ I rx hs pl pu h => h pins s σ v vl vu sl I rx hs pl pu
theorem DaAll.cut {U : Addr → Prop} {H : Hp} {xs : List V} {ds : List D} (h : DaAll U H xs ds) (lo hi : Option Int) : DaAll U H (cutV xs lo hi) (cutD ds lo hi) := by
  unfold cutV cutD
  rw [h.length]
  exact (h.drop _).take _
section
variable {X : Cx} {W : L2.WX} {e : Expr} {fe fl fu : Mo AV} {pos p2 : Pos} {S : Addr → Prop} {env : JEnv} {as : List (Option Addr)} {σ τ : L2.St} {H : Hp} {Q : VK} {r : Rs AV} {v : V} {a : AV}
theorem sl_fin {l u : Option Int} (R : Rel S env as (σ ++ τ) H) (V : VA S as H (σ ++ τ) v a) (hf : (match lk env a with | some d => mkO (oSl d l u) env | none => none) = some r) (hk : OkV S as σ τ H VA Q r) : wSl X v l u H Q := by
  cases h1 : lk env a with
  | none => rw [h1] at hf; cases hf
  | some d =>
    rw [h1] at hf
    have hf' : mkO (oSl d l u) env = some r := hf
    cases h2 : oSl d l u with
    | none => rw [h2] at hf'; cases hf'
    | some rv =>
      rw [h2] at hf'
      have hf2 : mkR rv env = some r := hf'
      have hD := V.lk R h1
      intro pins s σ' w vl vu sl I rx hs pl pu
      cases d <;> simp only [oSl] at h2 <;> try (cases h2; done)
      case list ds =>
        cases h2
        obtain ⟨a, xs, rfl, hH, ha⟩ := hD.getL
        exact sl_list pins s σ' H _ w vl vu l u sl Q I rx hs pl pu ⟨a, xs, rfl, SqL.of hH, fun p hp => fin_res R hf2 hk (same_upd hp) (res_lst hp (ha.cut l u))⟩
      case tuple ds =>
        cases h2
        have hDa := hD.daN rfl R.mo
        obtain ⟨a, xs, rfl, hH, ha⟩ := hD.getT
        refine sl_tupA pins s σ' H _ w vl vu l u sl Q I rx hs pl pu ⟨a, xs, rfl, SqT.of hH, fun ⟨w1, w2⟩ => ?_, fun _ p hp => fin_res R hf2 hk (same_upd hp) (res_tup R.mo hp (ha.cut l u))⟩
        have : cutD ds l u = ds := by
          unfold cutD
          rw [← ha.length, w1, w2]
          simp [ha.length]
        rw [this] at hf2
        exact fin_res R hf2 hk (Same.refl H) hDa
      case str z =>
        simp only [Option.ite_none_right_eq_some] at h2
        obtain ⟨hz, h2⟩ := h2
        cases h2
        exact sl_str pins s σ' H _ w vl vu l u sl Q I rx hs pl pu ⟨z, hD.getS, hz, fin_res R hf2 hk (Same.refl H) (.str _)⟩
theorem j_sl00 (he : JE X W e fe) : JE X W (.Subscript e (.Slice none none none p2) pos) (eSl fe pNo pNo) := by
  intro S env as σ τ H Q R r hf hx hk
  refine PE.w (pe_slice sl_w pe_w po_none po_none) (he.use R hf hx fun a e1 as1 H1 τ1 v hf1 R1 E1 p1 V1 => ?_)
  exact sl_fin R1 V1 hf1 (hk.step E1 p1)
theorem pso_use {k : Option Int → Mo AV} {f : Mo AV} {le : Expr} {Q' : Option Int → Hp → Prop} (hl : JE X W le f) (R : Rel S env as (σ ++ τ) H) (hf : bnd (pSo f) k env = some r) (hx : OkX X W S as σ τ H r)
    (go : ∀ i e1 as1 H1 τ1, k (some i) e1 = some r → Rel S e1 as1 (σ ++ τ1) H1 → ExtS S as H as1 H1 → τ <+: τ1 → Q' (some i) H1) : tPart (wE X le) σ H Q' := by
  have hf' : bnd f (fun a => fun e => match lk e a with | some (.int i) => k (some i) e | _ => none) env = some r := by
    unfold pSo at hf
    unfold bnd at hf ⊢
    cases q1 : f env with
    | none => simp only [q1] at hf; cases hf
    | some r1 =>
      cases r1 with
      | ex kk e1 => simp only [q1] at hf ⊢; exact hf
      | ok a e1 =>
        simp only [q1] at hf ⊢
        cases q2 : lk e1 a with
        | none => simp only [q2] at hf; cases hf
        | some d => cases d <;> simp only [q2] at hf ⊢ <;> exact hf
  refine hl.use R hf' hx fun a e1 as1 H1 τ1 v hf1 R1 E1 p1 V1 => ?_
  cases q : lk e1 a with
  | none => simp only [q] at hf1; cases hf1
  | some d =>
    cases d <;> simp only [q] at hf1 <;> try (cases hf1; done)
    exact ⟨_, (V1.lk R1 q).getI, go _ e1 as1 H1 τ1 hf1 R1 E1 p1⟩
theorem j_sl10 {lo : Expr} (he : JE X W e fe) (hl : JE X W lo fl) : JE X W (.Subscript e (.Slice (some lo) none none p2) pos) (eSl fe (pSo fl) pNo) := by
  intro S env as σ τ H Q R r hf hx hk
  refine PE.w (pe_slice sl_w pe_w (po_some pe_w) po_none) (he.use R hf hx fun a e1 as1 H1 τ1 v hf1 R1 E1 p1 V1 => ?_)
  refine pso_use hl R1 hf1 (hx.step E1 p1) fun i e2 as2 H2 τ2 hf2 R2 E2 p2 => ?_
  exact sl_fin R2 (V1.ext E2 ((List.prefix_append_right_inj σ).mpr p2)) hf2 ((hk.step E1 p1).step E2 p2)
theorem j_sl01 {hi : Expr} (he : JE X W e fe) (hu : JE X W hi fu) : JE X W (.Subscript e (.Slice none (some hi) none p2) pos) (eSl fe pNo (pSo fu)) := by
  intro S env as σ τ H Q R r hf hx hk
  refine PE.w (pe_slice sl_w pe_w po_none (po_some pe_w)) (he.use R hf hx fun a e1 as1 H1 τ1 v hf1 R1 E1 p1 V1 => ?_)
  have hf2 : bnd (pSo fu) (fun u => fun e => match lk e a with | some d => mkO (oSl d none u) e | none => none) e1 = some r := hf1
  show tPart (wE X hi) σ H1 fun u H3 => wSl X v none u H3 Q
  refine pso_use hu R1 hf2 (hx.step E1 p1) fun i e2 as2 H2 τ2 hf3 R2 E2 p2 => ?_
  exact sl_fin R2 (V1.ext E2 ((List.prefix_append_right_inj σ).mpr p2)) hf3 ((hk.step E1 p1).step E2 p2)
theorem j_sl11 {lo hi : Expr} (he : JE X W e fe) (hl : JE X W lo fl) (hu : JE X W hi fu) : JE X W (.Subscript e (.Slice (some lo) (some hi) none p2) pos) (eSl fe (pSo fl) (pSo fu)) := by
  intro S env as σ τ H Q R r hf hx hk
  refine PE.w (pe_slice sl_w pe_w (po_some pe_w) (po_some pe_w)) (he.use R hf hx fun a e1 as1 H1 τ1 v hf1 R1 E1 p1 V1 => ?_)
  refine pso_use hl R1 hf1 (hx.step E1 p1) fun i e2 as2 H2 τ2 hf2 R2 E2 p2 => ?_
  refine pso_use hu R2 hf2 ((hx.step E1 p1).step E2 p2) fun j e3 as3 H3 τ3 hf3 R3 E3 p3 => ?_
  exact sl_fin R3 ((V1.ext E2 ((List.prefix_append_right_inj σ).mpr p2)).ext E3 ((List.prefix_append_right_inj σ).mpr p3)) hf3 (((hk.step E1 p1).step E2 p2).step E3 p3)
end
/-! ### *xs in a display, or a call -/
def aStar (f : Mo AV) (g : Mo (List AV)) : Mo (List AV) := bnd f fun a => fun e => match lk e a with
  | some (.list ds) => bnd g (fun as => pur (ds.map AV.dat ++ as)) e
  | some (.tuple ds) => bnd g (fun as => pur (ds.map AV.dat ++ as)) e
  | _ => none
theorem VAs.star {S : Addr → Prop} {as : List (Option Addr)} {H : Hp} {ς : L2.St} {xs vs : List V} {ds : List D} {avs : List AV} (h : DaAll (So S as) H xs ds) (t : VAs S as H ς vs avs) : VAs S as H ς (xs ++ vs) (ds.map AV.dat ++ avs) := by
  induction ds generalizing xs with
  | nil => cases h; exact t
  | cons d ds ih => cases h with | cons a b => exact .cons a (ih b)
theorem j_star {X : Cx} {W : L2.WX} {e : Expr} {es : List Expr} {fe : Mo AV} {fa : Mo (List AV)} {p : Pos} (he : JE X W e fe) (hr : JA X W es fa) (hs : starEach (.Starred e p :: es) X.env = (true, eval e X.env) :: starEach es X.env := by rfl) : JA X W (.Starred e p :: es) (aStar fe fa) := by
  intro S env as σ τ H Q R r hf hx hk
  refine PA.w (StX.pa_star pe_w pa_w hs) (he.use R hf hx fun av e1 as1 H1 τ1 v hf1 R1 E1 p1 V1 => ?_)
  have go : ∀ (ds : List D) (xs : List V), DaAll (So S as1) H1 xs ds → bnd fa (fun as => pur (ds.map AV.dat ++ as)) e1 = some r → wA X es σ H1 fun ys H2 => Q (xs ++ ys) H2 := fun ds xs hd h => by
    refine hr.use R1 h (hx.step E1 p1) fun avs e2 as2 H2 τ2 vs hf2 R2 E2 p2 V2 => ?_
    cases hf2
    exact hk _ _ rfl as2 H2 τ2 _ R2 (E1.trans E2) (p1.trans p2) (.star (E2.soAll hd) V2)
  cases q : lk e1 av with
  | none => simp only [q] at hf1; cases hf1
  | some d =>
    cases d <;> simp only [q] at hf1 <;> try (cases hf1; done)
    · obtain ⟨a, xs, rfl, hH, ha⟩ := (V1.lk R1 q).getL
      exact ⟨a, xs, rfl, .inr (SqL.of hH), go _ xs ha hf1⟩
    · obtain ⟨a, xs, rfl, hH, ha⟩ := (V1.lk R1 q).getT
      exact ⟨a, xs, rfl, .inl (SqT.of hH), go _ xs ha hf1⟩
/-! ### sums and the like, of lists -/
def allI : List D → Option (List Int)
  | [] => some []
  | .int i :: r => match allI r with
    | some is => some (i :: is)
    | none => none
  | _ :: _ => none
def allB : List D → Option (List Bool)
  | [] => some []
  | .bool i :: r => match allB r with
    | some is => some (i :: is)
    | none => none
  | _ :: _ => none
theorem allI_v {U : Addr → Prop} {H : Hp} : ∀ {ds : List D} {xs : List V} {is : List Int}, DaAll U H xs ds → allI ds = some is → xs = is.map V.int
  | [], _, _, .nil, e => by cases e; rfl
  | d :: ds, _, is, .cons h t, e => by
    cases d <;> try (cases e; done)
    rename_i i
    unfold allI at e
    cases q : allI ds with
    | none => simp only [q] at e; cases e
    | some js =>
      simp only [q] at e
      cases e
      cases h
      rw [allI_v t q]
      rfl
theorem allB_v {U : Addr → Prop} {H : Hp} : ∀ {ds : List D} {xs : List V} {is : List Bool}, DaAll U H xs ds → allB ds = some is → xs = is.map V.bl
  | [], _, _, .nil, e => by cases e; rfl
  | d :: ds, _, is, .cons h t, e => by
    cases d <;> try (cases e; done)
    rename_i i
    unfold allB at e
    cases q : allB ds with
    | none => simp only [q] at e; cases e
    | some js =>
      simp only [q] at e
      cases e
      cases h
      rw [allB_v t q]
      rfl
def maxI : List Int → Int
  | [] => 0
  | [a] => a
  | a :: r => if maxI r ≤ a then a else maxI r
def minI : List Int → Int
  | [] => 0
  | [a] => a
  | a :: r => if a ≤ minI r then a else minI r
theorem maxI_ok : ∀ {is : List Int}, is ≠ [] → maxI is ∈ is ∧ ∀ y, y ∈ is → y ≤ maxI is
  | [a], _ => by simp [maxI]
  | a :: b :: r, _ => by
    have ih := maxI_ok (is := b :: r) (by simp)
    unfold maxI
    split
    · rename_i h
      refine ⟨List.mem_cons_self, fun y hy => ?_⟩
      rcases List.mem_cons.mp hy with rfl | hy
      · exact Int.le_refl _
      · exact Int.le_trans (ih.2 y hy) h
    · rename_i h
      refine ⟨List.mem_cons_of_mem _ ih.1, fun y hy => ?_⟩
      rcases List.mem_cons.mp hy with rfl | hy
      · omega
      · exact ih.2 y hy
theorem minI_ok : ∀ {is : List Int}, is ≠ [] → minI is ∈ is ∧ ∀ y, y ∈ is → minI is ≤ y
  | [a], _ => by simp [minI]
  | a :: b :: r, _ => by
    have ih := minI_ok (is := b :: r) (by simp)
    unfold minI
    split
    · rename_i h
      refine ⟨List.mem_cons_self, fun y hy => ?_⟩
      rcases List.mem_cons.mp hy with rfl | hy
      · exact Int.le_refl _
      · exact Int.le_trans h (ih.2 y hy)
    · rename_i h
      refine ⟨List.mem_cons_of_mem _ ih.1, fun y hy => ?_⟩
      rcases List.mem_cons.mp hy with rfl | hy
      · omega
      · exact ih.2 y hy
def kSum : List D → Option RV
  | [.list ds] => (allI ds).map fun is => iI is.sum
  | _ => none
def kAll : List D → Option RV
  | [.list ds] => (allB ds).map fun bs => iB (bs.all id)
  | _ => none
def kAny : List D → Option RV
  | [.list ds] => (allB ds).map fun bs => iB (bs.any id)
  | _ => none
def kMax : List D → Option RV
  | [.list ds] => match allI ds with
    | some (i :: is) => some (iI (maxI (i :: is)))
    | _ => none
  | [.int i, .int j] => some (iI (if j > i then j else i))
  | _ => none
def kMin : List D → Option RV
  | [.list ds] => match allI ds with
    | some (i :: is) => some (iI (minI (i :: is)))
    | _ => none
  | [.int i, .int j] => some (iI (if j < i then j else i))
  | _ => none
def kStr : List D → Option RV
  | [.int i] => if i.natAbs.log2 < 1920 then some (.dat (.str (toString i))) else none
  | [.str z] => some (.dat (.str z))
  | _ => none
section
variable {X : Cx}
theorem cj_sum (hc : X.calm = true) : CallJ X (.builtin "sum") kSum := by
  intro U H xs ds rv Q hU hd ho q pins s σ us I rx
  match ds, ho with
  | [.list ds], ho =>
    obtain ⟨is, e, rfl⟩ := Option.map_eq_some_iff.mp ho
    obtain ⟨v, rfl, h⟩ := hd.one
    obtain ⟨a, ys, rfl, hH, hA⟩ := h.getL
    have := allI_v hA e
    subst this
    exact cr_sum hc pins s σ H _ us Q I rx ⟨a, is, rfl, SqL.of hH, q _ H (Same.refl H) (.int _)⟩
theorem cj_all (hc : X.calm = true) : CallJ X (.builtin "all") kAll := by
  intro U H xs ds rv Q hU hd ho q pins s σ us I rx
  match ds, ho with
  | [.list ds], ho =>
    obtain ⟨is, e, rfl⟩ := Option.map_eq_some_iff.mp ho
    obtain ⟨v, rfl, h⟩ := hd.one
    obtain ⟨a, ys, rfl, hH, hA⟩ := h.getL
    have := allB_v hA e
    subst this
    exact cr_all hc pins s σ H _ us Q I rx ⟨a, is, rfl, SqL.of hH, q _ H (Same.refl H) (.bl _)⟩
theorem cj_any (hc : X.calm = true) : CallJ X (.builtin "any") kAny := by
  intro U H xs ds rv Q hU hd ho q pins s σ us I rx
  match ds, ho with
  | [.list ds], ho =>
    obtain ⟨is, e, rfl⟩ := Option.map_eq_some_iff.mp ho
    obtain ⟨v, rfl, h⟩ := hd.one
    obtain ⟨a, ys, rfl, hH, hA⟩ := h.getL
    have := allB_v hA e
    subst this
    exact cr_any hc pins s σ H _ us Q I rx ⟨a, is, rfl, SqL.of hH, q _ H (Same.refl H) (.bl _)⟩
theorem cj_max (hc : X.calm = true) : CallJ X (.builtin "max") kMax := by
  intro U H xs ds rv Q hU hd ho q pins s σ us I rx
  match ds, ho with
  | [.list ds], ho =>
    unfold kMax at ho
    cases e : allI ds with
    | none => simp only [e] at ho; cases ho
    | some js =>
      cases js with
      | nil => simp only [e] at ho; cases ho
      | cons i is =>
        simp only [e] at ho
        cases ho
        obtain ⟨v, rfl, h⟩ := hd.one
        obtain ⟨a, ys, rfl, hH, hA⟩ := h.getL
        have := allI_v hA e
        subst this
        refine cr_max hc pins s σ H _ us Q I rx ⟨a, i :: is, rfl, SqL.of hH, by simp, fun m hm hmm => ?_⟩
        obtain ⟨g1, g2⟩ := maxI_ok (is := i :: is) (by simp)
        have : m = maxI (i :: is) := Int.le_antisymm (g2 m hm) (hmm _ g1)
        subst this
        exact q _ H (Same.refl H) (.int _)
  | [.int i, .int j], ho =>
    cases ho
    obtain ⟨u, v, rfl, hu, hv⟩ := hd.two
    exact call_max2 hc pins s σ H _ us Q I rx ⟨i, j, by rw [hu.getI, hv.getI], q _ H (Same.refl H) (.int _)⟩
theorem cj_min (hc : X.calm = true) : CallJ X (.builtin "min") kMin := by
  intro U H xs ds rv Q hU hd ho q pins s σ us I rx
  match ds, ho with
  | [.list ds], ho =>
    unfold kMin at ho
    cases e : allI ds with
    | none => simp only [e] at ho; cases ho
    | some js =>
      cases js with
      | nil => simp only [e] at ho; cases ho
      | cons i is =>
        simp only [e] at ho
        cases ho
        obtain ⟨v, rfl, h⟩ := hd.one
        obtain ⟨a, ys, rfl, hH, hA⟩ := h.getL
        have := allI_v hA e
        subst this
        refine cr_min hc pins s σ H _ us Q I rx ⟨a, i :: is, rfl, SqL.of hH, by simp, fun m hm hmm => ?_⟩
        obtain ⟨g1, g2⟩ := minI_ok (is := i :: is) (by simp)
        have : m = minI (i :: is) := Int.le_antisymm (hmm _ g1) (g2 m hm)
        subst this
        exact q _ H (Same.refl H) (.int _)
  | [.int i, .int j], ho =>
    cases ho
    obtain ⟨u, v, rfl, hu, hv⟩ := hd.two
    exact call_min2 hc pins s σ H _ us Q I rx ⟨i, j, by rw [hu.getI, hv.getI], q _ H (Same.refl H) (.int _)⟩
theorem cj_str : CallJ X (.type "str") kStr := by
  intro U H xs ds rv Q hU hd ho q pins s σ us I rx
  match ds, ho with
  | [.int i], ho =>
    simp only [kStr, Option.ite_none_right_eq_some] at ho
    obtain ⟨hz, ho⟩ := ho
    cases ho
    obtain ⟨v, rfl, h⟩ := hd.one
    exact call_str_int pins s σ H _ us Q I rx ⟨i, by rw [h.getI], hz, q _ H (Same.refl H) (.str _)⟩
  | [.str z], ho =>
    cases ho
    obtain ⟨v, rfl, h⟩ := hd.one
    exact SkE.call_str_str pins s σ H _ us Q I rx ⟨z, by rw [h.getS], q _ H (Same.refl H) (.str _)⟩
end
theorem tk0 {X : Cx} : Takes X W0 := fun u s' ⟨_, _, _, _, _, _, _, _, _, _, _, _, _, _, _, _, w⟩ => w.elim
end Sl
set_option Elab.async false
set_option linter.all false
set_option maxRecDepth 100000
set_option maxHeartbeats 4000000
namespace Sl
open PySem PySem.Spec PyProof.Rows L2
theorem hu70 {A : Around} {k : Nat} (hr : Room k A) : A.units + 70 < cLine := by
  have := hr.un
  omega
theorem fnX_none {P : Program} {w : World} {K : PySem.W.Frag} {mg : Str → Option Value} {base : Heap} {k : Nat} {f : Addr} {fd : FuncData} {ps : List Str} {ms : List Md} (hl : ms.length = ps.length) : FnX P w K mg base k f fd ps (spJ mg ms fun _ => none) :=
  ⟨spJ_len hl, fun A o s H as us vs Q E g r e0 b v ⟨S, ds, as', r', _, _, _, h, _⟩ => nomatch h⟩
def oIsO (c d : D) : Option RV := match d with | .none => oIs c d | _ => none
def oIsNotO (c d : D) : Option RV := match d with | .none => oIsNot c d | _ => none
end Sl
set_option Elab.async false
set_option linter.all false
set_option maxRecDepth 100000
set_option maxHeartbeats 4000000
namespace Sl
open PySem PySem.Spec PyProof.Rows L2
/-! ### exceptions of own classes with one field -/
/-- what __init__ does: self.f = y -/
def spInit (K : PySem.W.Frag) (f : Str) : Sp := fun vs H Q _ => ∃ (a C : Addr) (y : V), vs = [.ref a, y] ∧ OexC K C ∧ PySem.W.findIn K (.ref C) f = some none ∧ H a = some (exo a C none) ∧
  ∀ dx, H dx = none → dx ≠ a → Q .non (upd (upd H dx (exd dx [(f, y)])) a (exo a C (some dx)))
/-- a class X of errors: class X(..): def __init__(self, f): self.f = f -/
structure Ec (K : PySem.W.Frag) (mg : Str → Option Value) (x f : Str) (st : Stmt) where
  C : Addr
  fI : Addr
  fd : FuncData
  q : Str
  g : mg x = some (.ref C)
  ox : OexC K C
  iC : PySem.W.findIn K (.ref C) "__init__" = some (some (.ref fI))
  tI : PySem.W.typeIn K (.ref fI) = some (.type "function")
  F : Fun K "__init__" q st fI fd
  nf : PySem.W.findIn K (.ref C) f = some none
  b : Binds K fd ["self", f] []
  xf : XfC K C
section
variable {P : Program} {w : World} {K : PySem.W.Frag} {mg : Str → Option Value} {base : Heap}
theorem init_ok {x f : Str} {st : Stmt} (T : Ec K mg x f st) (S : FnScope ["self", f] ["self", f] (defScope st)) {p1 p2 p3 p4 : Pos} (hb : defBody st = [.Assign [.Attribute (.Name "self" p1) f p2] (.Name f p3) p4])
    (h1 : Vis (defScope st) "self") (h2 : Vis (defScope st) f) (hd : (f == ("__debug__" : Str)) = false) (hcd : (f == ("__classdict__" : Str)) = false) : FnOk P w K mg base CX0 1 T.fI T.fd ["self", f] (spInit K f) := by
  refine T.F.ok S (fun vs H Q E ⟨a, C, y, e, _⟩ => by rw [e]; rfl) (fun cdv A outer s H vs Q E hr h => ?_)
  obtain ⟨a, C, y, rfl, ox, nf, ha, q⟩ := h
  rw [hb]
  refine ⟨_, pss_one (ps_ost (pe_var (i := 0) rfl h1) (pe_var (i := 1) rfl h2 hd hcd)), ?_⟩
  exact ⟨y, rfl, .ref a, rfl, a, C, rfl, ox, nf, .inl ⟨ha, fun dx hn ne => q dx hn ne⟩⟩
end
def sRaise1 (x f : Str) (fe : Mo AV) : Mo Fl := stm fe fun _ av e1 => match fz e1 av with
  | some (d, e2) => some (.ex (.mk x [(f, d)]) e2)
  | none => none
section
variable {X : Cx} {W : L2.WX} {x f : Str} {st : Stmt} {e : Expr} {fe : Mo AV} {p pos pos' : Pos}
theorem j_raise1 (T : Ec X.K X.mg x f st) (F1 : FnOk X.prog X.w X.K X.mg X.base CX0 1 T.fI T.fd ["self", f] (spInit X.K f)) (hc : X.calm = true) (tk : Takes X W) (hr : Room 2 X.A) (hg : Gl X x) (he : JE X W e fe)
    (hdb : (x == ("__debug__" : Str)) = false := by decide) (hs : starEach (e :: []) X.env = (false, eval e X.env) :: starEach [] X.env := by rfl) (hpl : (backTo pos (starEach [] X.env)).any (·.1) = false := by rfl) :
    JS X W (.Raise (some (.Call (.Name x p) [e] [] pos)) none pos') (sRaise1 x f fe) := by
  intro S env as σ H D R r hf hx hk
  refine PS.w (ps_raise hc tk (pmk_oex T.ox T.iC T.tI F1 hr T.b .nil pass0 hg T.g (pa_cons pe_w pa_nil hs) hdb hs hpl)) (he.inS R hf hx fun av e1 as1 H1 τ1 v hf1 R1 E1 V1 => ?_)
  cases h1 : fz e1 av with
  | none => simp only [h1] at hf1; cases hf1
  | some q =>
    obtain ⟨d, e2⟩ := q
    simp only [h1] at hf1
    have er := Option.some.inj hf1
    obtain ⟨as2, R2, E2, hd⟩ := fz_ok R1 V1 h1
    refine ⟨by show 1 ≤ 1000; decide, fun a ha => ⟨a, T.C, v, rfl, T.ox, T.nf, upd_same, fun dx hdx ne => ?_⟩⟩
    have hdx1 : H1 dx = none := by rw [upd_ne ne] at hdx; exact hdx
    have hH : upd (del (upd (upd (upd H1 a (exo a T.C none)) dx (exd dx [(f, v)])) a (exo a T.C (some dx))) a) dx (.xd [(f, v)]) = upd H1 dx (.xd [(f, v)]) := by
      funext b
      by_cases h1 : b = dx
      · subst h1
        rw [upd_same, upd_same]
      · rw [upd_ne h1, upd_ne h1]
        by_cases h2 : b = a
        · subst h2
          rw [del_same, ha]
        · rw [del_ne h2, upd_ne h2, upd_ne h1, upd_ne h2]
    refine ⟨rfl, dx, [(f, v)], upd_same, ?_, hdx1, ?_⟩
    · rw [upd_ne ne, upd_same]
    · rw [hH]
      have k := same_upd (o := .xd [(f, v)]) hdx1
      exact hx _ e2 er.symm as2 σ τ1 _ _ _ (R2.same k) ((E1.trans E2).trans (.grow k)) ⟨T.C, T.g, rfl, .cons upd_same rfl (.cons (hd.same k) .nil)⟩
end
/-! ### try: .. except X as n: .. -/
def ekC : EK → Str
  | .mk x _ => x
def ekF : EK → List (Str × D)
  | .mk _ fs => fs
open Classical in
/-- an answer that does not depend on where the exception stands -/
noncomputable def uni {α : Type} (g : Addr → Option Addr → Option α) : Option α := if h : ∃ r, ∀ a d, g a d = some r then some (choose h) else none
theorem uni_eq {α : Type} {g : Addr → Option Addr → Option α} {r : α} (h : ∀ a d, g a d = some r) : uni g = some r := by
  have hex : ∃ r, ∀ a d, g a d = some r := ⟨r, h⟩
  unfold uni
  rw [dif_pos hex]
  have := Classical.choose_spec hex 0 none
  rw [h] at this
  exact this.symm
theorem uni_some {α : Type} {g : Addr → Option Addr → Option α} {r : α} (h : uni g = some r) : ∀ a d, g a d = some r := by
  unfold uni at h
  split at h
  · rename_i hex
    cases h
    exact Classical.choose_spec hex
  · cases h
/-- behind a suite its name is gone -/
def gone (i : Nat) : Option (Rs Fl) → Option (Rs Fl)
  | some (.ok fl e) => some (.ok fl (e.set i .no))
  | _ => none
noncomputable def sTry (i : Nat) (tbl : Str → Option Bool) (fb : Mo Fl) (h : EK → Mo Fl) : Mo Fl := fun e => match fb e with
  | some (.ex k e1) => (match tbl (ekC k) with
    | some true => (match (e1.take e.length)[i]? with
      | some (.mt _) => none
      | none => none
      | some _ => uni fun a d => gone i (h k ((e1.take e.length).set i (.xc a d (ekF k)))))
    | some false => some (.ex k e1)
    | none => none)
  | r => r
def tAllT (X : Cx) (body : List Stmt) (W : L2.WX) : TS := fun D σ H => ∀ (pn : List (Addr × Obj)) (xe : Value → Shared → Prop), Takes (X.tr pn xe) W → PassesOwn (model X.prog X.w) X.A X.env xe → wSs (X.tr pn xe) body D σ H
def tAllS (X : Cx) (suite : List Stmt) (a : Addr) (cls : Value) (d : Option Addr) : TS := fun D σ H => ∀ (oe : Obj) (pn : List (Addr × Obj)), Zc cls d oe → (∃ vs, oe.data = .fields vs) → wSs (X.suite a ((a, oe) :: pn)) suite D σ H
section
variable {X : Cx} {W : L2.WX} {x n : Str} {c : Value} {i : Nat} {body suite : List Stmt} {b₀ : Stmt} {np pos pos' : Pos} {fb : Mo Fl} {fh : EK → Mo Fl} {tbl : Str → Option Bool}
theorem j_try (hs : X.stack = X.env :: X.outer) (hf : X.env.frame = some X.env.locals) (hN : X.N.Nodup) (hi : X.N[i]? = some n) (hln : X.env.kindOf n = some .local) (hc : Names X x c) (tk : Takes X W)
    (htb : ∀ (y : Str) (b : Bool) (C : Addr), tbl y = some b → X.mg y = some (.ref C) → PySem.W.exmOne X.K (.ref C) c = some b)
    (hb : ∀ (W' : L2.WX) (pn : List (Addr × Obj)) (xe : Value → Shared → Prop), Takes (X.tr pn xe) W' → PassesOwn (model X.prog X.w) X.A X.env xe → JSs (X.tr pn xe) W' body fb)
    (hh : ∀ (k : EK) (a : Addr) (oe : Obj) (C : Addr) (d : Option Addr) (pn : List (Addr × Obj)), X.mg (ekC k) = some (.ref C) → Zc (.ref C) d oe → (∃ vs, oe.data = .fields vs) → JSs (X.suite a ((a, oe) :: pn)) W0 (b₀ :: suite) (fh k)) :
    JS X W (.Try body [.ExceptHandler (some (.Name x np)) (some n) (b₀ :: suite) pos'] [] [] pos) (sTry i tbl fb fh) := by
  intro S env as σ H D R r hff hxx hk
  unfold wS
  intro pins s I
  have hil : i < σ.length := by
    rw [I.len]
    exact (List.getElem?_eq_some_iff.mp hi).1
  refine (ps_try_as (tb := tAllT X body) (ts := tAllS X (b₀ :: suite)) hs hf hN hi hln hc tk (fun W' pn xe tk' hp => ⟨fun pins s σ H D I h => pss_w.run pins s σ H D I (h pn xe tk' hp)⟩) (fun a oe cls d pn hz hv => ⟨fun pins s σ H D I h => pss_w.run pins s σ H D I (h oe pn hz hv)⟩)).run pins s σ H D I ?_
  intro pn xe tk' hp
  unfold sTry at hff
  cases h1 : fb env with
  | none => rw [h1] at hff; cases hff
  | some r1 =>
    rw [h1] at hff
    refine hb _ pn xe tk' hp S env as σ H D R r1 h1 (fun k e' er as' σ' τ' H' cls d R' E hX => ?_) ?_
    · subst er
      obtain ⟨C, g1, rfl, g3⟩ : ∃ C : Addr, X.mg (ekC k) = some (.ref C) ∧ cls = .ref C ∧ Fld (So S as') H' d (ekF k) := by
        cases k with
        | mk y fs => exact hX
      have hff' : (match tbl (ekC k) with
        | some true => (match (e'.take env.length)[i]? with
          | some (.mt _) => none
          | none => none
          | some _ => uni fun a d => gone i (fh k ((e'.take env.length).set i (.xc a d (ekF k)))))
        | some false => some (.ex k e')
        | none => none) = some r := hff
      cases h2 : tbl (ekC k) with
      | none => rw [h2] at hff'; cases hff'
      | some b =>
        rw [h2] at hff'
        refine ⟨b, htb _ b C h2 g1, fun hb1 a ha => ?_, fun hb0 => ?_⟩
        · subst hb1
          intro oe pn' hz hv
          unfold wSs
          intro pins' s' I'
          have hσl : σ'.length = env.length := by
            have h1 := I'.len
            have h2 := I.len
            rw [← R.lenS, h2]
            simpa using h1
          obtain ⟨R2, E2⟩ := R.cutTo E R'
          rw [← hσl, List.take_left, hσl] at R2
          have hil' : i < (e'.take env.length).length := by
            rw [← R2.lenS, hσl, ← R.lenS]
            exact hil
          cases q : (e'.take env.length)[i]? with
          | none =>
            rw [List.getElem?_eq_getElem hil'] at q
            cases q
          | some y =>
            by_cases hm : ∃ c, y = .mt c
            · obtain ⟨c, rfl⟩ := hm
              simp only [q] at hff'
              cases hff'
            · have hff2 : uni (fun a d => gone i (fh k ((e'.take env.length).set i (.xc a d (ekF k))))) = some r := by
                cases y <;> first | exact absurd ⟨_, rfl⟩ hm | (simp only [q] at hff'; exact hff')
              have hff3 := uni_some hff2 a d
              have hn : ∀ b, (as'.take env.length)[i]? = some (some b) → ¬ S b := fun b eb => by
                obtain ⟨c, z, _⟩ := R2.own_at eb
                rcases z with ⟨_, ns⟩ | ⟨z, _⟩
                · exact ns
                · rw [q] at z
                  cases z
                  exact absurd ⟨c, rfl⟩ hm
              have hlow : ∀ b, some b ∈ (as'.take env.length).set i none → some b ∈ as' := fun b m => by
                rcases mem_set m with z | z
                · exact List.mem_of_mem_take z
                · cases z
              have R3 : Rel S ((e'.take env.length).set i (.xc a d (ekF k))) ((as'.take env.length).set i none) (σ'.set i (some (.ref a))) H' := R2.store hil' hn ⟨rfl, vl_set_self (by rw [R2.lenS]; exact hil'), g3.less (fun b m => m.elim .inl fun m => .inr (hlow b m)), fun b eb m => by
                subst eb
                have hb := hlow b m
                obtain ⟨o, ho, mo⟩ := R'.mo b (.inr hb)
                cases g3 with
                | cons z _ _ =>
                  rw [z] at ho
                  cases ho
                  exact mo⟩
              have E3 : ExtS S as H ((as'.take env.length).set i none) H' := (E.trans E2).trans (.drop hn)
              cases h5 : fh k ((e'.take env.length).set i (.xc a d (ekF k))) with
              | none => rw [h5] at hff3; cases hff3
              | some r5 =>
                rw [h5] at hff3
                cases r5 with
                | ex kk ee => cases hff3
                | ok fl e4 =>
                  have er : Rs.ok fl (e4.set i .no) = r := Option.some.inj hff3
                  -- behind the suite the slot is empty
                  have fin : ∀ {as4 : List (Option Addr)} {ς4 : L2.St} {H4 : Hp}, Rel S e4 as4 ς4 H4 → ExtS S ((as'.take env.length).set i none) H' as4 H4 → Rel S (e4.set i .no) (as4.set i none) ς4 H4 ∧ ExtS S as4 H4 (as4.set i none) H4 := by
                    intro as4 ς4 H4 R4 E4
                    have hn4 : ∀ b, as4[i]? = some (some b) → ¬ S b := fun b eb hSb => by
                      rcases E4.nw b (List.mem_of_getElem? eb) with z | z
                      · obtain ⟨j, ej⟩ := List.mem_iff_getElem?.mp z
                        have := R4.inj _ _ _ eb (E4.st j b hSb ej)
                        subst this
                        rw [List.getElem?_set_self (by rw [R2.lenA]; exact hil')] at ej
                        cases ej
                      · obtain ⟨o, ho, _⟩ := R3.so b hSb
                        rw [z] at ho
                        cases ho
                    exact ⟨R4.put .no hn4 fun _ => rfl, .drop hn4⟩
                  have resg : ∀ {as4 : List (Option Addr)} {σ4 : L2.St} {H4 : Hp}, Rel S (e4.set i .no) as4 σ4 H4 → Rel S (e4.set i .no) as4 (σ4.set i none) H4 := by
                    intro as4 σ4 H4 R4
                    refine R4.resig (by simp) fun j y ej ny => ?_
                    by_cases hij : i = j
                    · subst hij
                      by_cases hl : i < e4.length
                      · rw [List.getElem?_set_self hl] at ej
                        cases ej
                        exact absurd rfl ny
                      · rw [List.getElem?_eq_none (by simp; omega)] at ej
                        cases ej
                    · unfold vl
                      rw [List.getElem?_set_ne hij]
                  refine pss_w.run pins' s' _ _ _ I' (hh k a oe C d pn' g1 hz hv S _ _ _ H' _ R3 _ h5 (fun kk ee er => (nomatch er)) ⟨fun ee er5 as4 σ4 H4 R4 E4 => ?_, fun ee er5 as4 σ4 H4 R4 E4 => ?_, fun ee er5 as4 σ4 H4 R4 E4 => ?_, fun av ee er5 as4 ς4 H4 v R4 E4 V4 => ?_⟩)
                  · cases er5
                    obtain ⟨R5, E5⟩ := fin R4 E4
                    exact hk.nx _ er.symm _ _ H4 (resg R5) ((E3.trans E4).trans E5)
                  · cases er5
                    obtain ⟨R5, E5⟩ := fin R4 E4
                    exact hk.bk _ er.symm _ _ H4 (resg R5) ((E3.trans E4).trans E5)
                  · cases er5
                    obtain ⟨R5, E5⟩ := fin R4 E4
                    exact hk.ct _ er.symm _ _ H4 (resg R5) ((E3.trans E4).trans E5)
                  · cases er5
                    obtain ⟨R5, E5⟩ := fin R4 E4
                    exact hk.rt av _ er.symm _ _ H4 v R5 ((E3.trans E4).trans E5) (V4.ext E5 (List.prefix_refl _))
        · subst hb0
          have er := Option.some.inj hff'
          exact hxx k e' er.symm as' σ' τ' H' _ d R' E hX
    · cases r1 with
      | ex k e => exact ⟨fun _ er => (nomatch er), fun _ er => (nomatch er), fun _ er => (nomatch er), fun _ _ er => (nomatch er)⟩
      | ok fl e => cases hff; exact hk
end
end Sl
set_option Elab.async false
set_option linter.all false
set_option maxRecDepth 100000
set_option maxHeartbeats 4000000
namespace Sl
open PySem PySem.Spec PyProof.Rows L2
/-! ### dicts: {} -/
def eDct0 : Mo AV := mkR (.fre (.dict []))
section
variable {X : Cx} {W : L2.WX} {pos : Pos}
theorem j_dct0 : JE X W (.Dict [] [] pos) eDct0 := by
  intro S env as σ τ H Q R r hf hx hk
  exact PE.w pe_dnewK fun p hp => fin_res R hf hk (same_upd hp) ⟨p, rfl, hp, rfl, .dct (kvs := []) (ds := []) upd_same .nil⟩
end
/-! ### isinstance(x, (A, B)) of two built-in classes -/
def oIsi2 (T U : String) (c : D) : Option RV := match isiD T c, isiD U c with
  | some a, some b => some (iB (a || b))
  | _, _ => none
section
variable {X : Cx} {W : L2.WX} {e : Expr} {fe : Mo AV} {pos p p2 p3 tpos : Pos} {x y z : Str} {T U : String} {kk : Nat}
theorem j_isi2 (hg : Gl X x) (hm : X.mg x = none) (hv : bootBuiltins x = some (.builtin "isinstance")) (hgT : Gl X y) (hmT : X.mg y = none) (hvT : bootBuiltins y = some (.type T)) (hgU : Gl X z) (hmU : X.mg z = none) (hvU : bootBuiltins z = some (.type U)) (ha : JE X W e fe)
    (hn : x ≠ "__name__" := by decide) (hdb : (x == ("__debug__" : Str)) = false := by decide) (hnT : y ≠ "__name__" := by decide) (hdbT : (y == ("__debug__" : Str)) = false := by decide) (hnU : z ≠ "__name__" := by decide) (hdbU : (z == ("__debug__" : Str)) = false := by decide)
    (ht1 : starEach [.Name z p3] X.env = (false, eval (.Name z p3) X.env) :: starEach [] X.env := by rfl) (ht : starEach [.Name y p2, .Name z p3] X.env = (false, eval (.Name y p2) X.env) :: starEach [.Name z p3] X.env := by rfl)
    (he1 : starEach [.Tuple [.Name y p2, .Name z p3] kk tpos] X.env = (false, eval (.Tuple [.Name y p2, .Name z p3] kk tpos) X.env) :: starEach [] X.env := by rfl)
    (he : starEach (e :: [.Tuple [.Name y p2, .Name z p3] kk tpos]) X.env = (false, eval e X.env) :: starEach [.Tuple [.Name y p2, .Name z p3] kk tpos] X.env := by rfl) (hpl : (backTo pos (starEach [.Tuple [.Name y p2, .Name z p3] kk tpos] X.env)).any (·.1) = false := by rfl) :
    JE X W (.Call (.Name x p) [e, .Tuple [.Name y p2, .Name z p3] kk tpos] [] pos) (eUn (oIsi2 T U) fe) := by
  intro S env as σ τ H Q R r hf hx hk
  refine PE.w (pe_callB call_isiT hg hm hv (pa_cons pe_w (pa_cons (pe_tup (pa_cons (pe_bltn (v := .ty T) hgT hmT hvT rfl hnT hdbT) (pa_cons (pe_bltn (v := .ty U) hgU hmU hvU rfl hnU hdbU) pa_nil ht1) ht)) pa_nil he1) he) hn hdb he hpl) (ha.use R hf hx fun av e1 as1 H1 τ1 v hf1 R1 E1 p1 V1 => ?_)
  obtain ⟨c, rv, h1, h2, h3⟩ := fin1_eq hf1
  unfold oIsi2 at h2
  cases hi : isiD T c with
  | none => simp only [hi] at h2; cases h2
  | some b =>
    cases hj : isiD U c with
    | none => simp only [hi, hj] at h2; cases h2
    | some b2 =>
      simp only [hi, hj] at h2
      cases h2
      refine ⟨by show 2 ≤ sizeLine; rw [sizeLine_eq]; decide, fun q hq => ?_⟩
      have k1 := same_upd (o := .tup [.ty T, .ty U]) hq
      refine ⟨v, q, [.ty T, .ty U], .type (tyD c), [.type T, .type U], b || b2, rfl, upd_same, .cons (.ty T) (.cons (.ty U) .nil), tyX_da ((V1.lk R1 h1).read.same k1), ?_, fin_res R1 h3 (hk.step E1 p1) k1 (.bl _)⟩
      exact kitAny_cons (kit_ty (isiD_kit hi)) (fun e => by
        rw [e]
        exact kitAny_cons (kit_ty (isiD_kit hj)) (fun e2 => by rw [e2]; exact kitAny_nil) fun e2 => by rw [e2]; rfl) fun e => by rw [e]; rfl
end
end Sl
set_option Elab.async false
set_option linter.all false
set_option maxRecDepth 100000
set_option maxHeartbeats 4000000
namespace Sl
open PySem PySem.Spec PyProof.Rows L2
open Builtin Builtin.ObjectAttr
/-! ### own classes of errors, over ValueError or LookupError, whose objects are values -/
structure ExG (K : PySem.W.Frag) (C : Addr) : Prop where
  ex : ∃ (B newId initId : String) (bmB : List Value), ExcBaseFacts B newId initId bmB ∧ StoreFacts B bmB "object.__setattr__" "object" ∧ PySem.W.excInitIn K C bmB newId = true ∧ PySem.W.excOver K C bmB = true
  sa : PySem.W.findIn K (.ref C) "__setattr__" = some (some (.builtin "object.__setattr__"))
  hd : PySem.W.hasDictIn K C = true
  kC : PySem.W.keepIn K (.ref C) = true
section
variable {prog : Program} {w : World} {A : Around} {E : Value → Shared → Prop} {R : Result → Shared → Prop} {hp : Heap} {g : Array GenState} {d : Drawn} {t : Nat} {os : OsState}
theorem exg_new {K : PySem.W.Frag} {name : Str} {tk : Tok} {v : Value} {x C : Addr} {fv : Array Value} (T : ExG K C) (X : K.In hp) (hx : hp.get? x = some { cls := .ref C, data := .fields fv }) (ha : PySem.W.findIn K (.ref C) name = some none)
    (hq : ∀ h' tk' dx, (∀ b o, b ≠ x → hp.get? b = some o → h'.get? b = some o) → hp.objs.size ≤ dx → dx ≠ x → h'.get? x = some { cls := .ref C, dict := some dx, data := .fields fv } →
      h'.Ns1 dx (fun y => if y = name then some v else none) → R (.ok (.ret .none)) ⟨h', g, d, tk', os⟩) :
    codeAny (model prog w) A (.call (.builtin "object.__setattr__") ⟨[.ref x, .str name tk, v], []⟩) R ⟨hp, g, d, t, os⟩ := by
  obtain ⟨B, newId, initId, bmB, FB, SF, qi, qo⟩ := T.ex
  have I : PySem.W.InstAt hp x { cls := .ref C, data := .fields fv } C none := ⟨hx, rfl, rfl, trivial⟩
  have hxs : x ≠ hp.objs.size := Nat.ne_of_lt (Heap.lt_size hx)
  refine PySem.W.osa_openX (s := ⟨hp, g, d, t, os⟩) SF X I qo (r := none) (by unfold PySem.W.takerIn; rw [ha]; rfl) fun b => ?_
  obtain ⟨cd, hcd, hh⟩ := PySem.W.any_some T.hd
  have hcls : PySem.W.Looks (model prog w) hp (classData C) cd := PySem.W.looks_clsIn X hcd
  obtain ⟨nm, bs, mro, ns, qn, hd, sn, sb, ab, col, del⟩ := cd
  dsimp only at hh
  subst hh
  show wpAny _ _ (storeInOwnDict (.ref x) (.ref C) (.str name tk) name v b) _ _ _
  unfold storeInOwnDict ownDictForStores
  repeat (first | with_reducible refine PySem.HandSPX.store_in_new ?_ ?_ | with_reducible refine wpAny_loadPart_at hx ?_ | with_reducible refine hcls.at ?_ | wp_step)
  · exact ⟨_, #[], _, (Heap.get?_update_ne _ _ _ _ hxs.symm).trans (Heap.get?_push_at rfl rfl), rfl, fun e he => absurd he (by simp), fun _ => rfl⟩
  · intro h' tk' hn' hs
    have hx₁ : (hp.push { cls := .type "dict", data := .dict #[] }).get? x = some { cls := .ref C, data := .fields fv } := Heap.get?_push_of_some _ hx
    refine hq h' tk' hp.objs.size (fun b o hb ho => ?_) (Nat.le_refl _) hxs.symm ?_ hn'
    · exact (hs.2 b (Nat.ne_of_lt (Heap.lt_size ho))).trans ((Heap.get?_update_ne _ _ _ _ hb).trans (Heap.get?_push_of_some _ ho))
    · exact (hs.2 x hxs).trans (Heap.get?_update_self _ hx₁ rfl)
theorem exg_old {K : PySem.W.Frag} {name : Str} {tk : Tok} {v : Value} {x C dx : Addr} {fv : Array Value} {m0 : Str → Option Value} {nl : List Str} (T : ExG K C)
    (X : K.In hp) (hx : hp.get? x = some { cls := .ref C, dict := some dx, data := .fields fv }) (hns : hp.Ns1 dx m0) (hw : Within m0 nl) (hz : nl.length ≤ 1000) (ha : PySem.W.findIn K (.ref C) name = some none)
    (hq : ∀ h' tk', (∀ b o, b ≠ dx → hp.get? b = some o → h'.get? b = some o) → h'.Ns1 dx (fun y => if y = name then some v else m0 y) → R (.ok (.ret .none)) ⟨h', g, d, tk', os⟩) :
    codeAny (model prog w) A (.call (.builtin "object.__setattr__") ⟨[.ref x, .str name tk, v], []⟩) R ⟨hp, g, d, t, os⟩ := by
  obtain ⟨B, newId, initId, bmB, FB, SF, qi, qo⟩ := T.ex
  obtain ⟨oD, esD, epD, hoD, hdD, _⟩ := hns.count hw
  have I : PySem.W.InstAt hp x { cls := .ref C, dict := some dx, data := .fields fv } C (some oD) := ⟨hx, rfl, rfl, hoD⟩
  refine PySem.W.osa_openX (s := ⟨hp, g, d, t, os⟩) SF X I qo (r := none) (by unfold PySem.W.takerIn; rw [ha]; rfl) fun b => ?_
  obtain ⟨cd, hcd, hh⟩ := PySem.W.any_some T.hd
  have hcls : PySem.W.Looks (model prog w) hp (classData C) cd := PySem.W.looks_clsIn X hcd
  obtain ⟨nm, bs, mro, ns, qn, hd, sn, sb, ab, col, del⟩ := cd
  dsimp only at hh
  subst hh
  show wpAny _ _ (storeInOwnDict (.ref x) (.ref C) (.str name tk) name v b) _ _ _
  unfold storeInOwnDict ownDictForStores
  repeat (first | with_reducible refine PySem.OEX.store_in_old hns hw hz ?_ | with_reducible refine wpAny_loadPart_at hx ?_ | with_reducible refine hcls.at ?_ | wp_step)
  intro h' tk' hn' hs
  exact hq h' tk' (fun b o hb ho => (hs.2 b hb).trans ho) hn'
end
section
variable {X : Cx} {pins : List (Addr × Obj)} {σ : L2.St} {H : Hp} {s : Shared} {a C dx : Addr} {f : Str} {y : V} {u : Value} {fs : List (Str × V)} {Q : Unit → Shared → Prop} {E : Value → Shared → Prop} {A : Around}
/-- self.f = y, the first one -/
theorem gst_new (T : ExG X.K C) (I : Inv X pins σ H s) (e : H a = some (exo a C none)) (hno : PySem.W.findIn X.K (.ref C) f = some none) (ry : RelV y u)
    (h : ∀ dx s', H dx = none → dx ≠ a → Inv X pins σ (upd (upd H dx (exd dx [(f, y)])) a (exo a C (some dx))) s' → Q () s') : wpAny (model X.prog X.w) A (setAttr (.ref a) f u) Q E s := by
  obtain ⟨t1, ho⟩ := exo_at I.hok e
  obtain ⟨hp, g, d, t, os⟩ := s
  refine PySem.W.set_plain I.kIn (ox := { cls := .ref C, dict := none, data := .fields #[.ref t1, .none, .none, .none, .bool false, .none] }) (od := none) ⟨ho, rfl, rfl, trivial⟩ T.sa ?_
  refine exg_new T I.kIn ho hno (fun h' tk' dx k dn dne hx hn => ?_)
  have hnd : H dx = none := I.hok.fresh dn
  have nd : ∀ {b : Addr} {o : Obj}, hp.get? b = some o → b ≠ dx := fun {b o} q => Nat.ne_of_lt (Nat.lt_of_lt_of_le (Heap.lt_size q) dn)
  have na : ∀ {b : Addr}, H b = none → b ≠ a := fun {b} n z => by
    rw [z, e] at n
    cases n
  have Un1 : Un X.fs [] H (upd (upd H dx (exd dx [(f, y)])) a (exo a C (some dx))) hp h' := {
    keep := fun b o q n _ _ => k b o (na n) q
    slot := fun b o q n _ _ => ⟨o.slots, k b o (na n) q⟩
    free := fun b o q n _ => by rw [upd_ne (na n), upd_ne (nd q)]; exact n
    there := fun b o q _ => by
      by_cases hb : b = a
      · exact ⟨_, by rw [hb]; exact hx⟩
      · exact ⟨o, k b o hb q⟩
    tups := fun b xs q => by rw [upd_ne (at_ne e q exo_tup), upd_ne (ne_of_none q hnd)]; exact q
    frzs := fun b o v q => by rw [upd_ne (at_ne e q exo_frz), upd_ne (ne_of_none q hnd)]; exact q
    tbls := fun b ps q => ⟨#[], by rw [upd_ne (at_ne e q exo_tbl), upd_ne (ne_of_none q hnd), q]; simp⟩ }
  refine h dx _ hnd dne (I.un (t' := tk') Un1 fun b o q => ?_)
  by_cases hb : b = a
  · subst hb
    rw [upd_same] at q
    cases q
    exact exo_ok hx
  · rw [upd_ne hb] at q
    by_cases hd : b = dx
    · subst hd
      rw [upd_same] at q
      cases q
      exact exd_ok hn (relO_put (fs := []) ry fun g => True.intro)
    · rw [upd_ne hd] at q
      exact (I.hok b o q).stay (fun c v hc z => k c v (by
          rcases hc with hc | hc
          · rw [hc]
            exact hb
          · exact at_ne e hc exo_own) z)
        (fun c hc => by rw [upd_ne (at_ne e hc exo_own), upd_ne (ne_of_none hc hnd)]; exact hc) (fun c xs hc => by rw [upd_ne (at_ne e hc exo_tup), upd_ne (ne_of_none hc hnd)]; exact hc)
theorem gst_old (T : ExG X.K C) (I : Inv X pins σ H s) (e : H a = some (exo a C (some dx))) (ed : H dx = some (exd dx fs)) (hl : fs.length ≤ 900) (hno : PySem.W.findIn X.K (.ref C) f = some none) (ry : RelV y u)
    (h : ∀ s', Inv X pins σ (upd H dx (exd dx ((f, y) :: fs))) s' → Q () s') : wpAny (model X.prog X.w) A (setAttr (.ref a) f u) Q E s := by
  obtain ⟨t1, ho⟩ := exo_at I.hok e
  obtain ⟨mA, hns, rel⟩ := exd_at I.hok ed
  have hw := within_of rel
  obtain ⟨hp, g, d, t, os⟩ := s
  obtain ⟨oD, _, _, hoD, _, _⟩ := hns.count hw
  refine PySem.W.set_plain I.kIn (ox := { cls := .ref C, dict := some dx, data := .fields #[.ref t1, .none, .none, .none, .bool false, .none] }) (od := some oD) ⟨ho, rfl, rfl, hoD⟩ T.sa ?_
  refine exg_old T I.kIn ho hns hw (by rw [List.length_map]; omega) hno (fun h' tk' k hn => ?_)
  have hd : ∃ o, h'.get? dx = some o := by
    obtain ⟨o, _, _, e', _⟩ := hn
    exact ⟨o, e'⟩
  exact h _ (I.write (t' := tk') (x := dx) (e := dx) (o := exd dx ((f, y) :: fs)) (by rw [ed]; exact True.intro) (.inl rfl) k hd (exd_ok hn (relO_put ry rel)))
end
/-- self.f = e -/
def tGst (K : PySem.W.Frag) (f : Str) (to te : TE) : TS := fun D σ H => te σ H fun y H1 => to σ H1 fun x H2 => ∃ a C : Addr, x = .ref a ∧ ExG K C ∧ PySem.W.findIn K (.ref C) f = some none ∧
  ((H2 a = some (exo a C none) ∧ ∀ dx, H2 dx = none → dx ≠ a → D.nx σ (upd (upd H2 dx (exd dx [(f, y)])) a (exo a C (some dx)))) ∨
    ∃ (dx : Addr) (fs : List (Str × V)), H2 a = some (exo a C (some dx)) ∧ H2 dx = some (exd dx fs) ∧ fs.length ≤ 900 ∧ D.nx σ (upd H2 dx (exd dx ((f, y) :: fs))))
/-- C(e, ..), C's own __init__ keeping sp -/
def tMkG (C : Addr) (sp : Sp) (ta : TA) : TE := fun σ H Q => ta σ H fun vs H1 => vs.length ≤ 1000 ∧ ∀ a, H1 a = none → sp (.ref a :: vs) (upd H1 a (exo a C none)) (fun v H2 => v = .non ∧ Q (.ref a) H2) (fun _ _ _ => False)
section
variable {X : Cx} {o e : Expr} {es : List Expr} {to te : TE} {ta : TA} {f : Str} {p p' p1 p2 pos : Pos}
theorem ps_gst (ho : PE X o to) (he : PE X e te) (hs : swapsWith e (some (.Attribute o f p')) pos.line X.env = pure false := by rfl) : PS X (.Assign [.Attribute o f p'] e pos) (tGst X.K f to te) := by
  refine ⟨fun pins s σ H D I h => ?_⟩
  refine plainObj_wpAny_Assign_Attribute (thn (he.run pins s σ H _ I h) fun v s1 ⟨y, H1, I1, r1, q1⟩ => thn (ho.run pins s1 σ H1 _ I1 q1) fun u s2 ⟨x, H2, I2, r2, a, C, ex, T, hno, q⟩ => ?_) hs
  subst ex
  obtain rfl : u = Value.ref a := r2
  rcases q with ⟨ea, q⟩ | ⟨dx, fs, ea, ed, hl, q⟩
  · exact gst_new T I2 ea hno r1 fun dx s' n ne J => ⟨σ, _, J, q dx n ne⟩
  · exact gst_old T I2 ea ed hl hno r1 fun s' J => ⟨σ, _, J, q⟩
theorem pe_mkG {CX : CXT} {x : Str} {C fI : Addr} {k : Nat} {fd : FuncData} {ps : List Str} {sp : Sp} (T : ExG X.K C) (iC : PySem.W.findIn X.K (.ref C) "__init__" = some (some (.ref fI))) (tI : PySem.W.typeIn X.K (.ref fI) = some (.type "function"))
    (F1 : FnOk X.prog X.w X.K X.mg X.base CX k fI fd ps sp) (hr : Room (k + 1) X.A) (hb : Binds X.K fd ps []) (hx : Passes CX X (fun _ _ _ => False)) (hg : Gl X x) (hm : X.mg x = some (.ref C)) (ha : PA X (e :: es) ta)
    (hdb : (x == ("__debug__" : Str)) = false := by decide) (he : starEach (e :: es) X.env = (false, eval e X.env) :: starEach es X.env := by rfl) (hpl : (backTo pos (starEach es X.env)).any (·.1) = false := by rfl) :
    PE X (.Call (.Name x p) (e :: es) [] pos) (tMkG C sp ta) := by
  refine ⟨fun pins s σ H Q I h => ?_⟩
  obtain ⟨B, newId, initId, bmB, FB, SF, qi, qo⟩ := T.ex
  refine wpAny_Call_Name_kw (ld_glob I hg hm ?_ hdb)
  refine PySem.W.callWith_K (h₀ := X.base) I.ok.mod.kin T.kC (thn (ha.run pos pins s σ H _ I h) fun us s1 ⟨vs, H1, I1, r1, hz, q1⟩ => ⟨I1.kIn, ?_⟩) he hpl
  show wpAny _ _ (call (.ref C) us) _ _ _
  obtain ⟨hp, g, dr, tk, os⟩ := s1
  obtain ⟨nm, N', qn, bs, bm, hdct, sn, sub, ab, col, dd, k0, k1, k2, k3, k5, hC, hT⟩ := PySem.W.excInit_of I1.kIn qi
  have hsz : hp.objs.size ≤ hp.objs.size + 1 := Nat.le_succ _
  have hn : H1 (hp.objs.size + 1) = none := I1.hok.fresh hsz
  have hq := q1 (hp.objs.size + 1) hn
  have kk : ∀ b o, hp.get? b = some o → ((hp.push (PySem.W.kdv_tup us)).push (PySem.HandSPX.excO C hp.objs.size)).get? b = some o := fun b o e => Heap.get?_push_of_some _ (Heap.get?_push_of_some _ e)
  have hget : ((hp.push (PySem.W.kdv_tup us)).push (PySem.HandSPX.excO C hp.objs.size)).get? (hp.objs.size + 1) = some (PySem.HandSPX.excO C hp.objs.size) := by heap_get
  have I2 : Inv X pins σ (upd H1 (hp.objs.size + 1) (exo (hp.objs.size + 1) C none)) ⟨(hp.push (PySem.W.kdv_tup us)).push (PySem.HandSPX.excO C hp.objs.size), g, dr, tk, os⟩ :=
    I1.laid (t' := tk) (a := hp.objs.size + 1) (o := exo (hp.objs.size + 1) C none) (h' := (hp.push (PySem.W.kdv_tup us)).push (PySem.HandSPX.excO C hp.objs.size)) kk hsz (exo_ok hget)
  have r2 : Vals (V.ref (hp.objs.size + 1) :: vs) (Value.ref (hp.objs.size + 1) :: us) := .cons rfl r1
  have hl : (Value.ref (hp.objs.size + 1) :: us ++ []).length = ps.length := by
    have e := r2.length
    rw [F1.len _ _ _ _ hq] at e
    rw [List.append_nil]
    exact e.symm
  have hb' := hb _ (Value.ref (hp.objs.size + 1) :: us) I2.kIn hl
  rw [List.append_nil] at hb'
  have hus : us.length ≤ sizeLine := by
    rw [← Paired.length r1, sizeLine_eq]
    omega
  refine wpAny_call (PySem.HandSPX.call_own FB hT hC (PySem.W.looks_findIn I1.kIn iC) (fun self => PySem.W.bind_fn I1.kIn self tI) hus
    (codeAny_mono (F1.run _ X.stack _ _ ⟨Value.ref (hp.objs.size + 1) :: us, []⟩ (Value.ref (hp.objs.size + 1) :: us) _ _ (fun _ _ _ => False) (hr.make C us []) (I2.env0.make C us []) hb' r2 hq) fun r s' hq' => ?_))
  cases r with
  | error er => exact hx pins σ _ _ er s' I2 hq'
  | ok fl =>
    cases fl with
    | ret u =>
      obtain ⟨v, H', I3, rv, ev, q3⟩ := I2.after hq'
      subst ev
      exact ⟨rv, ⟨V.ref (hp.objs.size + 1), H', I3, rfl, q3⟩⟩
    | next => exact False.elim hq'
    | brk => exact False.elim hq'
    | cont => exact False.elim hq'
end

/-! ### an own class of errors without an own __init__: C() -/
structure ExN (K : PySem.W.Frag) (C : Addr) : Prop where
  ex : ∃ (B newId initId : String) (bmB : List Value), ExcBaseFacts B newId initId bmB ∧ PySem.W.excIn K C bmB newId = true
  kC : PySem.W.keepIn K (.ref C) = true
section
variable {X : Cx} {e : Expr} {te : TE} {f x : Str} {p p2 pos : Pos}
theorem pe_mkN {C : Addr} (T : ExN X.K C) (gC : X.mg x = some (.ref C)) (hg : Gl X x) (hdb : (x == ("__debug__" : Str)) = false := by decide) :
    PE X (.Call (.Name x p) [] [] pos) (fun σ H Q => ∀ a, H a = none → Q (.ref a) (upd H a (exo a C none))) := by
  refine ⟨fun pins s σ H Q I h => ?_⟩
  obtain ⟨B, newId, initId, bmB, FB, q⟩ := T.ex
  refine wpAny_Call_Name_kw (ld_glob I hg gC ?_ hdb)
  refine PySem.W.callWith_K0 I.kIn T.kC ?_
  show wpAny _ _ (call (.ref C) []) _ _ _
  obtain ⟨bm, N, nm, qn, bs, hdct, sn, sub, ab, col, dd, k0, k1, k2, k3, k5, mN, hC, hN, hni, T⟩ := exc_obj I.kIn q
  refine wpAny_call_exc_subT FB T hC hN hni (fun h' a hm => ?_) (Nat.zero_le _)
  have hn : H a = none := I.hok.gone hm.new
  obtain ⟨t, ht, _, _⟩ := hm.there
  exact ⟨.ref a, upd H a (exo a C none), I.laidN hm.keeps hm.new hn (exo_ok ht), rfl, h a hn⟩
/-! ### e.f -/
def tGf (K : PySem.W.Frag) (f : Str) (te : TE) : TE := fun σ H Q => te σ H fun x H1 => ∃ (a C dx : Addr) (fs : List (Str × V)) (v : V), x = .ref a ∧ XfC K C ∧ PySem.W.findIn K (.ref C) f = some none ∧ H1 a = some (exo a C (some dx)) ∧ H1 dx = some (exd dx fs) ∧ fs.lookup f = some v ∧ Q v H1
theorem pe_gf (he : PE X e te) (hb : attributeBase e f X.env (eval e X.env) = eval e X.env := by rfl) : PE X (.Attribute e f pos) (tGf X.K f te) := by
  refine ⟨fun pins s σ H Q I h => ?_⟩
  refine attr_of hb (thn (he.run pins s σ H _ I h) fun u s1 hh => ?_)
  obtain ⟨x, H1, I1, rx, a, C, dx, fs, v, ex, T, hno, ha, ed, l, q⟩ := hh
  subst ex
  obtain rfl : u = Value.ref a := rx
  obtain ⟨t1, ho⟩ := exo_at I1.hok ha
  obtain ⟨mA, hns, hr⟩ := exd_at I1.hok ed
  obtain ⟨od, hod, hl⟩ := lookIn_ns hns
  obtain ⟨u, hu, ru⟩ := RelO.some_of (v := v) (o := mA f) (by rw [← l]; exact hr f)
  have J : PySem.W.InstAt s1.heap a { cls := .ref C, dict := some dx, data := .fields #[.ref t1, .none, .none, .none, .bool false, .none] } C (some od) := ⟨ho, rfl, rfl, hod⟩
  exact HandSPX.exc_get I1.kIn J T.ga T.gg T.exC (PySem.W.findObj_own T.hdC hno rfl (by rw [hl, hu])) (handed_of ru) ⟨v, H1, I1.tok _, ru, q⟩
end
/-! ### isinstance(e, D) -/
structure IsG (K : PySem.W.Frag) (C : Addr) : Prop where
  cl : (PySem.W.clsIn K C).isSome = true
  ga : PySem.W.findIn K (.ref C) "__getattribute__" = some (some (.builtin "BaseException.__getattribute__"))
  gg : PySem.W.findIn K (.ref C) "__getattr__" = some none
  exC : PySem.W.subIn K (.ref C) (.type "BaseException") = some true
  kl : PySem.W.findIn K (.ref C) "__class__" = some (some (.builtin "object.__class__"))
  gn : PySem.W.specialIn K (.builtin "object.__class__") "__get__" = some (some (.builtin "getset_descriptor.__get__"))
  tk : PySem.W.takesIn K (.builtin "object.__class__") = some true
  mo : PySem.W.mroIn K C (.type "object") = some true
/-- an object of the class at C, with its dict or without -/
def ErrAt (H : Hp) (a C : Addr) : Prop := H a = some (exo a C none) ∨ ∃ (dx : Addr) (fs : List (Str × V)), H a = some (exo a C (some dx)) ∧ H dx = some (exd dx fs)
def rIsG (K : PySem.W.Frag) : List V → Hp → VK → Prop := fun xs H Q => ∃ (a C : Addr) (c : V) (u : Value) (b : Bool), xs = [.ref a, c] ∧ ClsV c u ∧ ErrAt H a C ∧ IsG K C ∧ PySem.W.kitOne K (.ref C) u = some b ∧ Q (.bl b) H
section
variable {X : Cx}
theorem call_isG : CallR X (.builtin "isinstance") (rIsG X.K) := by
  intro pins s σ H xs us Q I r h
  obtain ⟨a, C, c, u, b, rfl, k, ea, T, e, q⟩ := h
  obtain ⟨u1, u2, rfl, r1, r2⟩ := vals2 r
  have e2 := k.eq r2
  subst e2
  obtain rfl : u1 = Value.ref a := r1
  rcases ea with ea | ⟨dx, fs, ea, ed⟩
  · obtain ⟨t1, ho⟩ := exo_at I.hok ea
    exact PySem.W.kia_one (PySem.W.kitx_exc T.cl T.ga T.gg T.exC T.kl T.gn T.tk T.mo (x := a) (ox := { cls := .ref C, dict := none, data := .fields #[.ref t1, .none, .none, .none, .bool false, .none] }) (od := none)) I.kIn ⟨ho, rfl, rfl, trivial⟩ e (fun z => nomatch z) fun tk => ⟨.bl b, H, I.tok tk, rfl, q⟩
  · obtain ⟨t1, ho⟩ := exo_at I.hok ea
    obtain ⟨mA, hns, hr⟩ := exd_at I.hok ed
    obtain ⟨od, hod, hl⟩ := lookIn_ns hns
    exact PySem.W.kia_one (PySem.W.kitx_exc T.cl T.ga T.gg T.exC T.kl T.gn T.tk T.mo (x := a) (ox := { cls := .ref C, dict := some dx, data := .fields #[.ref t1, .none, .none, .none, .bool false, .none] }) (od := some od)) I.kIn ⟨ho, rfl, rfl, hod⟩ e (fun z => nomatch z) fun tk => ⟨.bl b, H, I.tok tk, rfl, q⟩
end
end Sl
namespace Sl
open PySem PySem.Spec PyProof.Rows L2
/-! ### classes with an own __init__(self, f, ..): self.f = f; .. -/
structure Ek (K : PySem.W.Frag) (mg : Str → Option Value) (x : Str) (fs : List Str) (st : Stmt) where
  C : Addr
  fI : Addr
  fd : FuncData
  q : Str
  g : mg x = some (.ref C)
  ox : ExG K C
  iC : PySem.W.findIn K (.ref C) "__init__" = some (some (.ref fI))
  tI : PySem.W.typeIn K (.ref fI) = some (.type "function")
  F : Fun K "__init__" q st fI fd
  nf : ∀ f ∈ fs, PySem.W.findIn K (.ref C) f = some none
  b : Binds K fd ("self" :: fs) []
  xf : XfC K C
  is : IsG K C
structure En (K : PySem.W.Frag) (mg : Str → Option Value) (x : Str) where
  C : Addr
  g : mg x = some (.ref C)
  ox : ExN K C
  is : IsG K C
def spK (K : PySem.W.Frag) (fs : List Str) : Sp := fun vs H Q _ => ∃ (a C : Addr) (ys : List V), vs = .ref a :: ys ∧ ys.length = fs.length ∧ ExG K C ∧ (∀ f ∈ fs, PySem.W.findIn K (.ref C) f = some none) ∧ H a = some (exo a C none) ∧
  ∀ dx, H dx = none → dx ≠ a → Q .non (upd (upd H dx (exd dx (fs.zip ys).reverse)) a (exo a C (some dx)))
theorem upd_mid {H : Hp} {dx a : Addr} {o u v : HO} (ne : dx ≠ a) : upd (upd (upd H dx o) a u) dx v = upd (upd H dx v) a u := by
  funext b
  by_cases h1 : b = dx
  · subst h1
    rw [upd_same, upd_ne ne, upd_same]
  · rw [upd_ne h1]
    by_cases h2 : b = a
    · subst h2
      rw [upd_same, upd_same]
    · rw [upd_ne h2, upd_ne h1, upd_ne h2, upd_ne h1]
section
variable {P : Program} {w : World} {K : PySem.W.Frag} {mg : Str → Option Value} {base : Heap} {x f g h : Str} {st : Stmt} {p1 p2 p3 p4 q1 q2 q3 q4 r1 r2 r3 r4 : Pos}
theorem spK_len {fs : List Str} : ∀ (vs : List V) (H : Hp) (Q : VK) (E : XK), spK K fs vs H Q E → vs.length = (("self" : Str) :: fs).length := fun vs H Q E ⟨a, C, ys, e, l, _⟩ => by
  rw [e, List.length_cons, List.length_cons, l]
theorem ek1 (T : Ek K mg x [f] st) (S : FnScope ["self", f] ["self", f] (defScope st)) (hb : defBody st = [.Assign [.Attribute (.Name "self" p1) f p2] (.Name f p3) p4])
    (h1 : Vis (defScope st) "self") (h2 : Vis (defScope st) f) (hd : (f == ("__debug__" : Str)) = false) (hcd : (f == ("__classdict__" : Str)) = false) : FnOk P w K mg base CX0 1 T.fI T.fd ["self", f] (spK K [f]) := by
  refine T.F.ok S spK_len (fun cdv A outer s H vs Q E hr h => ?_)
  obtain ⟨a, C, ys, rfl, l, ox, nf, ha, q⟩ := h
  match ys, l with
  | [y], _ =>
    rw [hb]
    refine ⟨_, pss_one (ps_gst (pe_var (i := 0) rfl h1) (pe_var (i := 1) rfl h2 hd hcd)), ?_⟩
    exact ⟨y, rfl, .ref a, rfl, a, C, rfl, ox, nf f List.mem_cons_self, .inl ⟨ha, fun dx hn ne => q dx hn ne⟩⟩
theorem ek2 (T : Ek K mg x [f, g] st) (S : FnScope ["self", f, g] ["self", f, g] (defScope st)) (hb : defBody st = [.Assign [.Attribute (.Name "self" p1) f p2] (.Name f p3) p4, .Assign [.Attribute (.Name "self" q1) g q2] (.Name g q3) q4])
    (h1 : Vis (defScope st) "self") (h2 : Vis (defScope st) f) (h3 : Vis (defScope st) g) (hd : (f == ("__debug__" : Str)) = false) (hcd : (f == ("__classdict__" : Str)) = false) (hd2 : (g == ("__debug__" : Str)) = false) (hcd2 : (g == ("__classdict__" : Str)) = false) : FnOk P w K mg base CX0 1 T.fI T.fd ["self", f, g] (spK K [f, g]) := by
  refine T.F.ok S spK_len (fun cdv A outer s H vs Q E hr h => ?_)
  obtain ⟨a, C, ys, rfl, l, ox, nf, ha, q⟩ := h
  match ys, l with
  | [y, z], _ =>
    rw [hb]
    refine ⟨_, pss_cons (ps_gst (pe_var (i := 0) rfl h1) (pe_var (i := 1) rfl h2 hd hcd)) (pss_one (ps_gst (pe_var (i := 0) rfl h1) (pe_var (i := 2) rfl h3 hd2 hcd2))), ?_⟩
    refine ⟨y, rfl, .ref a, rfl, a, C, rfl, ox, nf f List.mem_cons_self, .inl ⟨ha, fun dx hn ne => ?_⟩⟩
    refine ⟨z, rfl, .ref a, rfl, a, C, rfl, ox, nf g (List.mem_cons_of_mem _ List.mem_cons_self), .inr ⟨dx, [(f, y)], upd_same, ?_, Nat.le_of_ble_eq_true rfl, ?_⟩⟩
    · rw [upd_ne ne, upd_same]
    · show Q .non _
      rw [upd_mid ne]
      exact q dx hn ne
theorem ek3 (T : Ek K mg x [f, g, h] st) (S : FnScope ["self", f, g, h] ["self", f, g, h] (defScope st)) (hb : defBody st = [.Assign [.Attribute (.Name "self" p1) f p2] (.Name f p3) p4, .Assign [.Attribute (.Name "self" q1) g q2] (.Name g q3) q4, .Assign [.Attribute (.Name "self" r1) h r2] (.Name h r3) r4])
    (h1 : Vis (defScope st) "self") (h2 : Vis (defScope st) f) (h3 : Vis (defScope st) g) (h4 : Vis (defScope st) h) (hd : (f == ("__debug__" : Str)) = false) (hcd : (f == ("__classdict__" : Str)) = false) (hd2 : (g == ("__debug__" : Str)) = false) (hcd2 : (g == ("__classdict__" : Str)) = false) (hd3 : (h == ("__debug__" : Str)) = false) (hcd3 : (h == ("__classdict__" : Str)) = false) : FnOk P w K mg base CX0 1 T.fI T.fd ["self", f, g, h] (spK K [f, g, h]) := by
  refine T.F.ok S spK_len (fun cdv A outer s H vs Q E hr h' => ?_)
  obtain ⟨a, C, ys, rfl, l, ox, nf, ha, q⟩ := h'
  match ys, l with
  | [y, z, u], _ =>
    rw [hb]
    refine ⟨_, pss_cons (ps_gst (pe_var (i := 0) rfl h1) (pe_var (i := 1) rfl h2 hd hcd)) (pss_cons (ps_gst (pe_var (i := 0) rfl h1) (pe_var (i := 2) rfl h3 hd2 hcd2)) (pss_one (ps_gst (pe_var (i := 0) rfl h1) (pe_var (i := 3) rfl h4 hd3 hcd3)))), ?_⟩
    refine ⟨y, rfl, .ref a, rfl, a, C, rfl, ox, nf f List.mem_cons_self, .inl ⟨ha, fun dx hn ne => ?_⟩⟩
    refine ⟨z, rfl, .ref a, rfl, a, C, rfl, ox, nf g (List.mem_cons_of_mem _ List.mem_cons_self), .inr ⟨dx, [(f, y)], upd_same, ?_, Nat.le_of_ble_eq_true rfl, ?_⟩⟩
    · rw [upd_ne ne, upd_same]
    · refine ⟨u, rfl, .ref a, rfl, a, C, rfl, ox, nf h (List.mem_cons_of_mem _ (List.mem_cons_of_mem _ List.mem_cons_self)), .inr ⟨dx, [(g, z), (f, y)], ?_, upd_same, Nat.le_of_ble_eq_true rfl, ?_⟩⟩
      · rw [upd_ne (Ne.symm ne), upd_same]
      · show Q .non _
        rw [upd_mid ne, upd_mid ne]
        exact q dx hn ne
end
end Sl
set_option Elab.async false
set_option linter.all false
set_option maxRecDepth 100000
set_option maxHeartbeats 4000000
namespace Sl
open PySem PySem.Spec PyProof.Rows L2
/-! ### lists that a def builds: found = [..]; found = found + [..]; ..; return found -/
section
variable {ι : Type} (X : Cx) (O : L2.St → Hp → Prop) (Pel : Hp → V → ι → Prop)
/-- an expression that makes what c says of it, all else staying -/
def MkX (e : Expr) (c : ι) : Prop := ∀ σ H Q, O σ H → (∀ v H', Same H H' → Pel H' v c → Q v H') → wE X e σ H Q
def MkXs (es : List Expr) (cs : List ι) : Prop := ∀ σ H Q, O σ H → (∀ vs H', Same H H' → Paired (Pel H') vs cs → Q vs H') → wA X es σ H Q
structure Stay : Prop where
  o : ∀ {σ H H'}, Same H H' → O σ H → O σ H'
  p : ∀ {H H' v c}, Same H H' → Pel H v c → Pel H' v c
def Ls (i : Nat) (body : List Stmt) (acc cs : List ι) : Prop := ∀ σ H D, O σ H → (∃ L vs, σ[i]? = some (some (.ref L)) ∧ H L = some (.lst vs) ∧ Paired (Pel H) vs acc) → i < σ.length → (∀ L vs H', Same H H' → H' L = some (.lst vs) → Paired (Pel H') vs (acc ++ cs) → D.rt (.ref L) H') → wSs X body D σ H
def LsS (i : Nat) (body : List Stmt) (cs : List ι) : Prop := ∀ σ H D, O σ H → i < σ.length → (∀ L vs H', Same H H' → H' L = some (.lst vs) → Paired (Pel H') vs cs → D.rt (.ref L) H') → wSs X body D σ H
end
section
variable {ι : Type} {X : Cx} {O : L2.St → Hp → Prop} {Pel : Hp → V → ι → Prop} {e : Expr} {es : List Expr} {c : ι} {cs ds acc : List ι} {i : Nat} {x : Str} {rest : List Stmt} {p pos pos' p1 p2 : Pos}
theorem Paired.stay (S : Stay O Pel) {H H' : Hp} (k : Same H H') {vs : List V} {cs : List ι} (h : Paired (Pel H) vs cs) : Paired (Pel H') vs cs := by
  induction h with
  | nil => exact .nil
  | cons a _ ih => exact .cons (S.p k a) ih
theorem prd_app {α β : Type} {r : α → β → Prop} {vs ws : List α} {cs ds : List β} (h : Paired r vs cs) (g : Paired r ws ds) : Paired r (vs ++ ws) (cs ++ ds) := by
  induction h with
  | nil => exact g
  | cons a _ ih => exact .cons a ih
theorem mkXs_nil : MkXs X O Pel [] [] := fun σ H Q _ h => PA.w pa_nil (h [] H (Same.refl H) .nil)
theorem mkXs_cons (S : Stay O Pel) (h : MkX X O Pel e c) (t : MkXs X O Pel es cs) (hs : starEach (e :: es) X.env = (false, eval e X.env) :: starEach es X.env := by rfl) : MkXs X O Pel (e :: es) (c :: cs) := fun σ H Q o q =>
  PA.w (pa_cons pe_w pa_w hs) (h σ H _ o fun v H1 k1 p1 => t σ H1 _ (S.o k1 o) fun vs H2 k2 p2 => q _ H2 (k1.trans k2) (.cons (S.p k2 p1) p2))
theorem ls_ret (hv : PE X (.Name x p) (tVar i)) : Ls X O Pel i [.Return (some (.Name x p)) pos] acc [] := fun σ H D _ ⟨L, vs, h1, h2, h3⟩ _ q =>
  PSs.w (pss_one (ps_ret hv)) ⟨_, h1, q L vs H (Same.refl H) h2 (by rw [List.append_nil]; exact h3)⟩
theorem ls_add (S : Stay O Pel) (so : ∀ σ H u, O σ H → O (σ.set i u) H) (hN : X.N.Nodup) (hi : X.N[i]? = some x) (hx : Loc X.env.scope x) (hv : PE X (.Name x p) (tVar i)) (hl : acc.length + cs.length ≤ 1000)
    (h : MkXs X O Pel es cs) (t : Ls X O Pel i rest (acc ++ cs) ds) (hs : swapsWith (.BinOp (.Name x p) .Add (.List es p1) p2) (some (.Name x pos')) pos.line X.env = pure false := by rfl)
    (hf : X.fn x = true ∨ X.env.scope.names.lookup x = some .local := by first | exact .inl rfl | exact .inr rfl | assumption) : Ls X O Pel i (.Assign [.Name x pos'] (.BinOp (.Name x p) .Add (.List es p1) p2) pos :: rest) acc (cs ++ ds) := by
  intro σ H D o ⟨L, vs, h1, h2, h3⟩ hil q
  refine PSs.w (pss_cons (ps_set hN hi hx (pe_op op_cat hv (pe_lst pa_w)) hs hf) pss_w) ⟨_, h1, h σ H _ o fun ws H1 k1 g1 => ?_⟩
  have e1 := Paired.length h3
  have e2 := Paired.length g1
  refine ⟨by rw [e2, sizeLine_eq]; omega, fun b hb => ⟨L, b, vs, ws, rfl, rfl, by rw [upd_ne (ne_of_none (k1 _ _ h2) hb)]; exact k1 _ _ h2, upd_same, by rw [e1, e2, sizeLine_eq]; omega, fun l hl => ?_⟩⟩
  have k2 : Same H (upd (upd H1 b (.lst ws)) l (.lst (vs ++ ws))) := (k1.trans (same_upd hb)).trans (same_upd hl)
  have k3 : Same H1 (upd (upd H1 b (.lst ws)) l (.lst (vs ++ ws))) := (same_upd hb).trans (same_upd hl)
  refine t _ _ _ (S.o k2 (so _ _ _ o)) ⟨l, vs ++ ws, ?_, upd_same, prd_app (Paired.stay S k2 h3) (Paired.stay S k3 g1)⟩ ?_ fun L' us H' k a b => q L' us H' (k2.trans k) a (by rw [← List.append_assoc]; exact b)
  · show (σ.set i (some (V.ref l)))[i]? = _
    rw [List.getElem?_set_self hil]
  · show i < (σ.set i _).length
    rw [List.length_set]
    exact hil
theorem ls_set (S : Stay O Pel) (so : ∀ σ H u, O σ H → O (σ.set i u) H) (hN : X.N.Nodup) (hi : X.N[i]? = some x) (hx : Loc X.env.scope x) (hl : cs.length ≤ 1000)
    (h : MkXs X O Pel es cs) (t : Ls X O Pel i rest cs ds) (hs : swapsWith (.List es p1) (some (.Name x pos')) pos.line X.env = pure false := by rfl)
    (hf : X.fn x = true ∨ X.env.scope.names.lookup x = some .local := by first | exact .inl rfl | exact .inr rfl | assumption) : LsS X O Pel i (.Assign [.Name x pos'] (.List es p1) pos :: rest) (cs ++ ds) := by
  intro σ H D o hil q
  refine PSs.w (pss_cons (ps_set hN hi hx (pe_lst pa_w) hs hf) pss_w) (h σ H _ o fun ws H1 k1 g1 => ?_)
  have e2 := Paired.length g1
  refine ⟨by rw [e2, sizeLine_eq]; omega, fun l hl => ?_⟩
  have k2 : Same H (upd H1 l (.lst ws)) := k1.trans (same_upd hl)
  refine t _ _ _ (S.o k2 (so _ _ _ o)) ⟨l, ws, ?_, upd_same, Paired.stay S (same_upd hl) g1⟩ ?_ fun L' us H' k a b => q L' us H' (k2.trans k) a b
  · show (σ.set i (some (V.ref l)))[i]? = _
    rw [List.getElem?_set_self hil]
  · show i < (σ.set i _).length
    rw [List.length_set]
    exact hil
end
/-! ### errors made, their fields, isinstance -/
theorem upd_two {H : Hp} {dx a : Addr} {o u v : HO} (ne : dx ≠ a) : upd (upd (upd H a o) dx u) a v = upd (upd H dx u) a v := by
  funext b
  by_cases h1 : b = a
  · subst h1
    rw [upd_same, upd_same]
  · rw [upd_ne h1, upd_ne h1]
    by_cases h2 : b = dx
    · subst h2
      rw [upd_same, upd_same]
    · rw [upd_ne h2, upd_ne h2, upd_ne h1]
theorem same_err {H : Hp} {dx a : Addr} {o u : HO} (ha : H a = none) (hd : H dx = none) : Same H (upd (upd H dx o) a u) := fun b v e => by
  rw [upd_ne (ne_of_none e ha), upd_ne (ne_of_none e hd)]
  exact e
theorem ErrAt.same {H H' : Hp} {a C : Addr} (k : Same H H') (h : ErrAt H a C) : ErrAt H' a C := by
  rcases h with h | ⟨dx, fs, h1, h2⟩
  · exact .inl (k _ _ h)
  · exact .inr ⟨dx, fs, k _ _ h1, k _ _ h2⟩
/-- the slots hold these -/
def Has (vs : List V) (σ : L2.St) : Prop := ∀ (i : Nat) (v : V), vs[i]? = some v → σ[i]? = some (some v)
def EPel (H : Hp) (v : V) (C : Addr) : Prop := ∃ a, v = .ref a ∧ ErrAt H a C
section
variable {X : Cx} {x y z u f g h : Str} {st : Stmt} {i j k : Nat} {p p1 p2 p3 pos : Pos} {σ : L2.St} {H : Hp} {Q : VK} {va vb vc : V}
/-- what x(..) makes of the fields -/
def Kept (H : Hp) (Q : VK) (C : Addr) (gs : List (Str × V)) : Prop := ∀ a dx, H a = none → H dx = none → dx ≠ a → Q (.ref a) (upd (upd H dx (exd dx gs)) a (exo a C (some dx)))
theorem spK_kept {K : PySem.W.Frag} {fs : List Str} {C : Addr} {ys : List V} {E : XK} (ox : ExG K C) (nf : ∀ f ∈ fs, PySem.W.findIn K (.ref C) f = some none) (l : ys.length = fs.length) (q : Kept H Q C (fs.zip ys).reverse) :
    ∀ a, H a = none → spK K fs (.ref a :: ys) (upd H a (exo a C none)) (fun v H2 => v = .non ∧ Q (.ref a) H2) E := fun a ha => ⟨a, C, ys, rfl, l, ox, nf, upd_same, fun dx hd ne => ⟨rfl, by
  rw [upd_two ne]
  exact q a dx ha (by rw [upd_ne ne] at hd; exact hd) ne⟩⟩
theorem w_mk1 (T : Ek X.K X.mg x [f] st) (F1 : FnOk X.prog X.w X.K X.mg X.base CX0 1 T.fI T.fd ["self", f] (spK X.K [f])) (hr : Room 2 X.A) (hg : Gl X x) (ha : PE X (.Name y p1) (tVar i))
    (a1 : σ[i]? = some (some va)) (q : Kept H Q T.C [(f, va)]) (hdb : (x == ("__debug__" : Str)) = false := by decide) (he : starEach [.Name y p1] X.env = (false, eval (.Name y p1) X.env) :: starEach [] X.env := by rfl) (hpl : (backTo pos (starEach [] X.env)).any (·.1) = false := by rfl) : wE X (.Call (.Name x p) [.Name y p1] [] pos) σ H Q :=
  PE.w (pe_mkG T.ox T.iC T.tI F1 hr T.b pass0 hg T.g (pa_cons ha pa_nil he) hdb he hpl) ⟨va, a1, by show 1 ≤ 1000; decide, spK_kept T.ox T.nf rfl q⟩
theorem w_mk2 (T : Ek X.K X.mg x [f, g] st) (F1 : FnOk X.prog X.w X.K X.mg X.base CX0 1 T.fI T.fd ["self", f, g] (spK X.K [f, g])) (hr : Room 2 X.A) (hg : Gl X x) (ha : PE X (.Name y p1) (tVar i)) (hb : PE X (.Name z p2) (tVar j))
    (a1 : σ[i]? = some (some va)) (a2 : σ[j]? = some (some vb)) (q : Kept H Q T.C [(g, vb), (f, va)]) (hdb : (x == ("__debug__" : Str)) = false := by decide) (he1 : starEach [.Name z p2] X.env = (false, eval (.Name z p2) X.env) :: starEach [] X.env := by rfl) (he : starEach [.Name y p1, .Name z p2] X.env = (false, eval (.Name y p1) X.env) :: starEach [.Name z p2] X.env := by rfl) (hpl : (backTo pos (starEach [.Name z p2] X.env)).any (·.1) = false := by rfl) : wE X (.Call (.Name x p) [.Name y p1, .Name z p2] [] pos) σ H Q :=
  PE.w (pe_mkG T.ox T.iC T.tI F1 hr T.b pass0 hg T.g (pa_cons ha (pa_cons hb pa_nil he1) he) hdb he hpl) ⟨va, a1, vb, a2, by show 2 ≤ 1000; decide, spK_kept T.ox T.nf rfl q⟩
theorem w_mk3 (T : Ek X.K X.mg x [f, g, h] st) (F1 : FnOk X.prog X.w X.K X.mg X.base CX0 1 T.fI T.fd ["self", f, g, h] (spK X.K [f, g, h])) (hr : Room 2 X.A) (hg : Gl X x) (ha : PE X (.Name y p1) (tVar i)) (hb : PE X (.Name z p2) (tVar j)) (hc : PE X (.Name u p3) (tVar k))
    (a1 : σ[i]? = some (some va)) (a2 : σ[j]? = some (some vb)) (a3 : σ[k]? = some (some vc)) (q : Kept H Q T.C [(h, vc), (g, vb), (f, va)]) (hdb : (x == ("__debug__" : Str)) = false := by decide) (he2 : starEach [.Name u p3] X.env = (false, eval (.Name u p3) X.env) :: starEach [] X.env := by rfl) (he1 : starEach [.Name z p2, .Name u p3] X.env = (false, eval (.Name z p2) X.env) :: starEach [.Name u p3] X.env := by rfl) (he : starEach [.Name y p1, .Name z p2, .Name u p3] X.env = (false, eval (.Name y p1) X.env) :: starEach [.Name z p2, .Name u p3] X.env := by rfl) (hpl : (backTo pos (starEach [.Name z p2, .Name u p3] X.env)).any (·.1) = false := by rfl) : wE X (.Call (.Name x p) [.Name y p1, .Name z p2, .Name u p3] [] pos) σ H Q :=
  PE.w (pe_mkG T.ox T.iC T.tI F1 hr T.b pass0 hg T.g (pa_cons ha (pa_cons hb (pa_cons hc pa_nil he2) he1) he) hdb he hpl) ⟨va, a1, vb, a2, vc, a3, by show 3 ≤ 1000; decide, spK_kept T.ox T.nf rfl q⟩
theorem w_mkN (T : En X.K X.mg x) (hg : Gl X x) (q : ∀ a, H a = none → Q (.ref a) (upd H a (exo a T.C none))) (hdb : (x == ("__debug__" : Str)) = false := by decide) : wE X (.Call (.Name x p) [] [] pos) σ H Q :=
  PE.w (pe_mkN T.ox T.g hg hdb) q
/-- in a list of errors -/
theorem kept_err {C : Addr} {gs : List (Str × V)} (q : ∀ v H', Same H H' → EPel H' v C → Q v H') : Kept H Q C gs := fun a dx ha hd ne => q _ _ (same_err ha hd) ⟨a, rfl, .inr ⟨dx, gs, upd_same, by rw [upd_ne ne, upd_same]⟩⟩
/-- x(..).f -/
theorem kept_fld {C : Addr} {gs : List (Str × V)} {e : Expr} {v : V} (xf : XfC X.K C) (nf : PySem.W.findIn X.K (.ref C) f = some none) (l : gs.lookup f = some v) (he : ∀ R : VK, Kept H R C gs → wE X e σ H R) (q : ∀ H', Same H H' → Q v H')
    (hb : attributeBase e f X.env (eval e X.env) = eval e X.env := by rfl) : wE X (.Attribute e f pos) σ H Q :=
  PE.w (pe_gf pe_w hb) (he _ fun a dx ha hd ne => ⟨a, C, dx, gs, v, rfl, xf, nf, upd_same, by rw [upd_ne ne, upd_same], l, q _ (same_err ha hd)⟩)
/-- isinstance(e, D) -/
theorem w_isG {C : Addr} {D : Value} {dv : V} {b : Bool} {a : Addr} (hg : Gl X "isinstance") (hm : X.mg "isinstance" = none) (hv : bootBuiltins "isinstance" = some (.builtin "isinstance")) (ha : PE X (.Name x p1) (tVar i)) (hd : PE X (.Name y p2) (tC dv)) (cv : ClsV dv D) (is : IsG X.K C) (k1 : PySem.W.kitOne X.K (.ref C) D = some b)
    (a1 : σ[i]? = some (some (.ref a))) (ea : ErrAt H a C) (q : Q (.bl b) H) (he : starEach [.Name x p1, .Name y p2] X.env = (false, eval (.Name x p1) X.env) :: starEach [.Name y p2] X.env := by rfl) (he1 : starEach [.Name y p2] X.env = (false, eval (.Name y p2) X.env) :: starEach [] X.env := by rfl) (hpl : (backTo pos (starEach [.Name y p2] X.env)).any (·.1) = false := by rfl) :
    wE X (.Call (.Name "isinstance" p) [.Name x p1, .Name y p2] [] pos) σ H Q :=
  PE.w (pe_callB call_isG hg hm hv (pa_cons ha (pa_cons hd pa_nil he1) he) (by decide) (by decide) he hpl) ⟨_, a1, a, C, dv, D, b, rfl, cv, ea, is, k1, q⟩
end
end Sl
set_option Elab.async false
set_option linter.all false
set_option maxRecDepth 100000
set_option maxHeartbeats 4000000
namespace K84
open PySem L2 Sl
/-! ### the text by places -/
def top (i : Nat) : Stmt := PySem.Challenge.pw_shapelang_k84_errors_and_bounds.main.body.getD i (.Pass ⟨0, 0, 0, 0⟩)
abbrev s_law_draws : Stmt := top 59
theorem sc_law_draws : FnScope ["_law_script", "_law_cell", "_law_great", "_law_mixed"] ["_law_script"] (defScope s_law_draws) := ⟨rfl, rfl, rfl, by decide +kernel, rfl, by decide +kernel, by decide +kernel⟩
abbrev s_law_next : Stmt := top 60
theorem sc_law_next : FnScope ["_law_drawn", "_law_many", "_law_mixed", "_law_digit"] ["_law_drawn", "_law_many"] (defScope s_law_next) := ⟨rfl, rfl, rfl, by decide +kernel, rfl, by decide +kernel, by decide +kernel⟩
abbrev s_law_one : Stmt := top 61
theorem sc_law_one : FnScope ["_law_drawn", "_law_items"] ["_law_drawn", "_law_items"] (defScope s_law_one) := ⟨rfl, rfl, rfl, by decide +kernel, rfl, by decide +kernel, by decide +kernel⟩
abbrev s_law_errors : Stmt := top 62
theorem sc_law_errors : FnScope ["_law_one_here", "_law_other", "_law_third", "_law_found"] ["_law_one_here", "_law_other", "_law_third"] (defScope s_law_errors) := ⟨rfl, rfl, rfl, by decide +kernel, rfl, by decide +kernel, by decide +kernel⟩
abbrev s_law_flags : Stmt := top 63
theorem sc_law_flags : FnScope ["_law_e", "_law_found"] ["_law_e"] (defScope s_law_flags) := ⟨rfl, rfl, rfl, by decide +kernel, rfl, by decide +kernel, by decide +kernel⟩
abbrev s_law_fields : Stmt := top 64
theorem sc_law_fields : FnScope ["_law_one_here", "_law_found"] ["_law_one_here"] (defScope s_law_fields) := ⟨rfl, rfl, rfl, by decide +kernel, rfl, by decide +kernel, by decide +kernel⟩
abbrev s_law_more_fields : Stmt := top 65
theorem sc_law_more_fields : FnScope ["_law_one_here", "_law_other", "_law_third", "_law_refused", "_law_incomplete"] ["_law_one_here", "_law_other", "_law_third"] (defScope s_law_more_fields) := ⟨rfl, rfl, rfl, by decide +kernel, rfl, by decide +kernel, by decide +kernel⟩
abbrev s_law_right : Stmt := top 66
theorem sc_law_right : FnScope ["_law_one_here", "_law_other", "_law_third", "_law_k", "_law_error", "_law_bases", "_law_spot"] ["_law_one_here", "_law_other", "_law_third"] (defScope s_law_right) := ⟨rfl, rfl, rfl, by decide +kernel, rfl, by decide +kernel, by decide +kernel⟩
abbrev s_law_objects_right : Stmt := top 67
theorem sc_law_objects_right : FnScope ["_law_one_here", "_law_other", "_law_third", "_law_fields_here", "_law_more", "_law_field"] [] (defScope s_law_objects_right) := ⟨rfl, rfl, rfl, by decide +kernel, rfl, by decide +kernel, by decide +kernel⟩
abbrev s_law : Stmt := top 68
theorem sc_law : FnScope ["_law_script", "_law_drawn", "_law_limits", "_law_due", "_law_some", "_law_turn"] ["_law_script"] (defScope s_law) := ⟨rfl, rfl, rfl, by decide +kernel, rfl, by decide +kernel, by decide +kernel⟩
/-- what the top has left -/
structure Tx (K : PySem.W.Frag) (mg : Str → Option Value) where
  m_isinstance : mg "isinstance" = none
  m_len : mg "len" = none
  m_int : mg "int" = none
  m_abs : mg "abs" = none
  m_repr : mg "repr" = none
  m_range : mg "range" = none
  m_enumerate : mg "enumerate" = none
  m_ValueError : mg "ValueError" = none
  m_LookupError : mg "LookupError" = none
  g_VARIABLES : ∃ t, mg "VARIABLES" = some (.int 199 t)
  g_NODES : ∃ t, mg "NODES" = some (.int 200 t)
  g_DEPTH : ∃ t, mg "DEPTH" = some (.int 30 t)
  g_GROUPS : ∃ t, mg "GROUPS" = some (.int 80 t)
  g_LISTED : ∃ t, mg "LISTED" = some (.int 50 t)
  g_DATAS : ∃ t, mg "DATAS" = some (.int 6 t)
  g_PLACES : ∃ t, mg "PLACES" = some (.int 60 t)
  g_ROWS : ∃ t, mg "ROWS" = some (.int 8 t)
  g_MET : ∃ t, mg "MET" = some (.int 200 t)
  g_SIZES : ∃ t, mg "SIZES" = some (.int 40 t)
  g_FORM : ∃ t, mg "FORM" = some (.int 500 t)
  g_TREE : ∃ t, mg "TREE" = some (.int 1000 t)
  g_DEFINITIONS : ∃ t, mg "DEFINITIONS" = some (.int 8 t)
  g_CALLS : ∃ t, mg "CALLS" = some (.int 2000 t)
  g_SHOWN : ∃ t, mg "SHOWN" = some (.int 500 t)
  g_PARAMETERS : ∃ t, mg "PARAMETERS" = some (.int 3 t)
  g_EDITS : ∃ t, mg "EDITS" = some (.int 60 t)
  g_BATCH : ∃ t, mg "BATCH" = some (.int 20 t)
  law_draws : Ft K mg "_law_draws" s_law_draws ["_law_script"]
  law_next : Ft K mg "_law_next" s_law_next ["_law_drawn", "_law_many"]
  law_one : Ft K mg "_law_one" s_law_one ["_law_drawn", "_law_items"]
  law_errors : Ft K mg "_law_errors" s_law_errors ["_law_one_here", "_law_other", "_law_third"]
  law_flags : Ft K mg "_law_flags" s_law_flags ["_law_e"]
  law_fields : Ft K mg "_law_fields" s_law_fields ["_law_one_here"]
  law_more_fields : Ft K mg "_law_more_fields" s_law_more_fields ["_law_one_here", "_law_other", "_law_third"]
  law_right : Ft K mg "_law_right" s_law_right ["_law_one_here", "_law_other", "_law_third"]
  law_objects_right : Ft K mg "_law_objects_right" s_law_objects_right []
  law : Ft K mg "law" s_law ["_law_script"]
end K84
set_option Elab.async false
set_option linter.all false
set_option maxRecDepth 100000
set_option maxHeartbeats 4000000
namespace K84
open PySem PySem.Spec PyProof.Rows L2 Sl
abbrev i_BadShape : Stmt := inClass (top 2) 0
theorem si_BadShape : FnScope ["self", "value"] ["self", "value"] (defScope i_BadShape) := ⟨rfl, rfl, rfl, by decide +kernel, rfl, by decide +kernel, by decide +kernel⟩
abbrev i_BadCount : Stmt := inClass (top 3) 0
theorem si_BadCount : FnScope ["self", "value"] ["self", "value"] (defScope i_BadCount) := ⟨rfl, rfl, rfl, by decide +kernel, rfl, by decide +kernel, by decide +kernel⟩
abbrev i_TooMany : Stmt := inClass (top 6) 0
theorem si_TooMany : FnScope ["self", "limit"] ["self", "limit"] (defScope i_TooMany) := ⟨rfl, rfl, rfl, by decide +kernel, rfl, by decide +kernel, by decide +kernel⟩
abbrev i_TooLarge : Stmt := inClass (top 7) 0
theorem si_TooLarge : FnScope ["self", "limit"] ["self", "limit"] (defScope i_TooLarge) := ⟨rfl, rfl, rfl, by decide +kernel, rfl, by decide +kernel, by decide +kernel⟩
abbrev i_Clash : Stmt := inClass (top 8) 0
theorem si_Clash : FnScope ["self", "places"] ["self", "places"] (defScope i_Clash) := ⟨rfl, rfl, rfl, by decide +kernel, rfl, by decide +kernel, by decide +kernel⟩
abbrev i_BadChain : Stmt := inClass (top 9) 0
theorem si_BadChain : FnScope ["self", "index"] ["self", "index"] (defScope i_BadChain) := ⟨rfl, rfl, rfl, by decide +kernel, rfl, by decide +kernel, by decide +kernel⟩
abbrev i_BadValue : Stmt := inClass (top 10) 0
theorem si_BadValue : FnScope ["self", "value"] ["self", "value"] (defScope i_BadValue) := ⟨rfl, rfl, rfl, by decide +kernel, rfl, by decide +kernel, by decide +kernel⟩
abbrev i_BadForm : Stmt := inClass (top 11) 0
theorem si_BadForm : FnScope ["self", "form"] ["self", "form"] (defScope i_BadForm) := ⟨rfl, rfl, rfl, by decide +kernel, rfl, by decide +kernel, by decide +kernel⟩
abbrev i_BadSize : Stmt := inClass (top 12) 0
theorem si_BadSize : FnScope ["self", "size"] ["self", "size"] (defScope i_BadSize) := ⟨rfl, rfl, rfl, by decide +kernel, rfl, by decide +kernel, by decide +kernel⟩
abbrev i_NoValue : Stmt := inClass (top 13) 0
theorem si_NoValue : FnScope ["self", "value"] ["self", "value"] (defScope i_NoValue) := ⟨rfl, rfl, rfl, by decide +kernel, rfl, by decide +kernel, by decide +kernel⟩
abbrev i_NotMet : Stmt := inClass (top 15) 0
theorem si_NotMet : FnScope ["self", "value"] ["self", "value"] (defScope i_NotMet) := ⟨rfl, rfl, rfl, by decide +kernel, rfl, by decide +kernel, by decide +kernel⟩
abbrev i_Idle : Stmt := inClass (top 16) 0
theorem si_Idle : FnScope ["self", "number"] ["self", "number"] (defScope i_Idle) := ⟨rfl, rfl, rfl, by decide +kernel, rfl, by decide +kernel, by decide +kernel⟩
abbrev i_BadRows : Stmt := inClass (top 17) 0
theorem si_BadRows : FnScope ["self", "error"] ["self", "error"] (defScope i_BadRows) := ⟨rfl, rfl, rfl, by decide +kernel, rfl, by decide +kernel, by decide +kernel⟩
abbrev i_BadBook : Stmt := inClass (top 18) 0
theorem si_BadBook : FnScope ["self", "error"] ["self", "error"] (defScope i_BadBook) := ⟨rfl, rfl, rfl, by decide +kernel, rfl, by decide +kernel, by decide +kernel⟩
abbrev i_HasHole : Stmt := inClass (top 19) 0
theorem si_HasHole : FnScope ["self", "spot"] ["self", "spot"] (defScope i_HasHole) := ⟨rfl, rfl, rfl, by decide +kernel, rfl, by decide +kernel, by decide +kernel⟩
abbrev i_NotPlain : Stmt := inClass (top 20) 0
theorem si_NotPlain : FnScope ["self", "index"] ["self", "index"] (defScope i_NotPlain) := ⟨rfl, rfl, rfl, by decide +kernel, rfl, by decide +kernel, by decide +kernel⟩
abbrev i_BadDatas : Stmt := inClass (top 21) 0
theorem si_BadDatas : FnScope ["self", "error"] ["self", "error"] (defScope i_BadDatas) := ⟨rfl, rfl, rfl, by decide +kernel, rfl, by decide +kernel, by decide +kernel⟩
abbrev i_Used : Stmt := inClass (top 22) 0
theorem si_Used : FnScope ["self", "word"] ["self", "word"] (defScope i_Used) := ⟨rfl, rfl, rfl, by decide +kernel, rfl, by decide +kernel, by decide +kernel⟩
abbrev i_Refused : Stmt := inClass (top 23) 0
theorem si_Refused : FnScope ["self", "index", "verdict"] ["self", "index", "verdict"] (defScope i_Refused) := ⟨rfl, rfl, rfl, by decide +kernel, rfl, by decide +kernel, by decide +kernel⟩
abbrev i_BadEdit : Stmt := inClass (top 27) 0
theorem si_BadEdit : FnScope ["self", "index"] ["self", "index"] (defScope i_BadEdit) := ⟨rfl, rfl, rfl, by decide +kernel, rfl, by decide +kernel, by decide +kernel⟩
abbrev i_Rejected : Stmt := inClass (top 28) 0
theorem si_Rejected : FnScope ["self", "index"] ["self", "index"] (defScope i_Rejected) := ⟨rfl, rfl, rfl, by decide +kernel, rfl, by decide +kernel, by decide +kernel⟩
abbrev i_BadExpression : Stmt := inClass (top 30) 0
theorem si_BadExpression : FnScope ["self", "error"] ["self", "error"] (defScope i_BadExpression) := ⟨rfl, rfl, rfl, by decide +kernel, rfl, by decide +kernel, by decide +kernel⟩
abbrev i_Incomplete : Stmt := inClass (top 31) 0
theorem si_Incomplete : FnScope ["self", "word", "place", "outline"] ["self", "word", "place", "outline"] (defScope i_Incomplete) := ⟨rfl, rfl, rfl, by decide +kernel, rfl, by decide +kernel, by decide +kernel⟩
abbrev i_BadText : Stmt := inClass (top 32) 0
theorem si_BadText : FnScope ["self", "index"] ["self", "index"] (defScope i_BadText) := ⟨rfl, rfl, rfl, by decide +kernel, rfl, by decide +kernel, by decide +kernel⟩
abbrev i_NoPlace : Stmt := inClass (top 33) 0
theorem si_NoPlace : FnScope ["self", "value"] ["self", "value"] (defScope i_NoPlace) := ⟨rfl, rfl, rfl, by decide +kernel, rfl, by decide +kernel, by decide +kernel⟩
abbrev i_NoMaker : Stmt := inClass (top 34) 0
theorem si_NoMaker : FnScope ["self", "name"] ["self", "name"] (defScope i_NoMaker) := ⟨rfl, rfl, rfl, by decide +kernel, rfl, by decide +kernel, by decide +kernel⟩
abbrev i_NoIndex : Stmt := inClass (top 35) 0
theorem si_NoIndex : FnScope ["self", "index"] ["self", "index"] (defScope i_NoIndex) := ⟨rfl, rfl, rfl, by decide +kernel, rfl, by decide +kernel, by decide +kernel⟩
abbrev i_NoRow : Stmt := inClass (top 36) 0
theorem si_NoRow : FnScope ["self", "number"] ["self", "number"] (defScope i_NoRow) := ⟨rfl, rfl, rfl, by decide +kernel, rfl, by decide +kernel, by decide +kernel⟩
abbrev i_NoDefinition : Stmt := inClass (top 37) 0
theorem si_NoDefinition : FnScope ["self", "value"] ["self", "value"] (defScope i_NoDefinition) := ⟨rfl, rfl, rfl, by decide +kernel, rfl, by decide +kernel, by decide +kernel⟩
abbrev i_NoWord : Stmt := inClass (top 38) 0
theorem si_NoWord : FnScope ["self", "word"] ["self", "word"] (defScope i_NoWord) := ⟨rfl, rfl, rfl, by decide +kernel, rfl, by decide +kernel, by decide +kernel⟩
abbrev i_NoVersion : Stmt := inClass (top 39) 0
theorem si_NoVersion : FnScope ["self", "value"] ["self", "value"] (defScope i_NoVersion) := ⟨rfl, rfl, rfl, by decide +kernel, rfl, by decide +kernel, by decide +kernel⟩
/-- of the classes at Cs each object is of its own class alone; the first 31 are LangErrors and ValueErrors, the others LookupErrors -/
def tabB (K : PySem.W.Frag) (Cs : List Addr) (lang : Addr) : Bool :=
  Cs.zipIdx.all fun p => (Cs.zipIdx.all fun r => PySem.W.kitOne K (.ref p.1) (.ref r.1) == some (r.2 == p.2)) && PySem.W.kitOne K (.ref p.1) (.ref lang) == some (decide (p.2 < 31)) && PySem.W.kitOne K (.ref p.1) (.type "ValueError") == some (decide (p.2 < 31)) && PySem.W.kitOne K (.ref p.1) (.type "LookupError") == some (decide (30 < p.2))
structure Ty (K : PySem.W.Frag) (mg : Str → Option Value) extends Tx K mg where
  e_BadShape : Ek K mg "BadShape" ["value"] i_BadShape
  e_BadCount : Ek K mg "BadCount" ["value"] i_BadCount
  n_NoMeeting : En K mg "NoMeeting"
  n_NoSolution : En K mg "NoSolution"
  e_TooMany : Ek K mg "TooMany" ["limit"] i_TooMany
  e_TooLarge : Ek K mg "TooLarge" ["limit"] i_TooLarge
  e_Clash : Ek K mg "Clash" ["places"] i_Clash
  e_BadChain : Ek K mg "BadChain" ["index"] i_BadChain
  e_BadValue : Ek K mg "BadValue" ["value"] i_BadValue
  e_BadForm : Ek K mg "BadForm" ["form"] i_BadForm
  e_BadSize : Ek K mg "BadSize" ["size"] i_BadSize
  e_NoValue : Ek K mg "NoValue" ["value"] i_NoValue
  n_HasValues : En K mg "HasValues"
  e_NotMet : Ek K mg "NotMet" ["value"] i_NotMet
  e_Idle : Ek K mg "Idle" ["number"] i_Idle
  e_BadRows : Ek K mg "BadRows" ["error"] i_BadRows
  e_BadBook : Ek K mg "BadBook" ["error"] i_BadBook
  e_HasHole : Ek K mg "HasHole" ["spot"] i_HasHole
  e_NotPlain : Ek K mg "NotPlain" ["index"] i_NotPlain
  e_BadDatas : Ek K mg "BadDatas" ["error"] i_BadDatas
  e_Used : Ek K mg "Used" ["word"] i_Used
  e_Refused : Ek K mg "Refused" ["index", "verdict"] i_Refused
  n_TooManyEdits : En K mg "TooManyEdits"
  n_NothingToUndo : En K mg "NothingToUndo"
  n_BadEdits : En K mg "BadEdits"
  e_BadEdit : Ek K mg "BadEdit" ["index"] i_BadEdit
  e_Rejected : Ek K mg "Rejected" ["index"] i_Rejected
  n_Busy : En K mg "Busy"
  e_BadExpression : Ek K mg "BadExpression" ["error"] i_BadExpression
  e_Incomplete : Ek K mg "Incomplete" ["word", "place", "outline"] i_Incomplete
  e_BadText : Ek K mg "BadText" ["index"] i_BadText
  e_NoPlace : Ek K mg "NoPlace" ["value"] i_NoPlace
  e_NoMaker : Ek K mg "NoMaker" ["name"] i_NoMaker
  e_NoIndex : Ek K mg "NoIndex" ["index"] i_NoIndex
  e_NoRow : Ek K mg "NoRow" ["number"] i_NoRow
  e_NoDefinition : Ek K mg "NoDefinition" ["value"] i_NoDefinition
  e_NoWord : Ek K mg "NoWord" ["word"] i_NoWord
  e_NoVersion : Ek K mg "NoVersion" ["value"] i_NoVersion
  lang : Addr
  gL : mg "LangError" = some (.ref lang)
  tab : tabB K [e_BadShape.C, e_BadCount.C, n_NoMeeting.C, n_NoSolution.C, e_TooMany.C, e_TooLarge.C, e_Clash.C, e_BadChain.C, e_BadValue.C, e_BadForm.C, e_BadSize.C, e_NoValue.C, n_HasValues.C, e_NotMet.C, e_Idle.C, e_BadRows.C, e_BadBook.C, e_HasHole.C, e_NotPlain.C, e_BadDatas.C, e_Used.C, e_Refused.C, n_TooManyEdits.C, n_NothingToUndo.C, n_BadEdits.C, e_BadEdit.C, e_Rejected.C, n_Busy.C, e_BadExpression.C, e_Incomplete.C, e_BadText.C, e_NoPlace.C, e_NoMaker.C, e_NoIndex.C, e_NoRow.C, e_NoDefinition.C, e_NoWord.C, e_NoVersion.C] lang = true
section
variable {P : Program} {w : World} {K : PySem.W.Frag} {mg : Str → Option Value} {base : Heap}
def Cs (T : Ty K mg) : List Addr := [T.e_BadShape.C, T.e_BadCount.C, T.n_NoMeeting.C, T.n_NoSolution.C, T.e_TooMany.C, T.e_TooLarge.C, T.e_Clash.C, T.e_BadChain.C, T.e_BadValue.C, T.e_BadForm.C, T.e_BadSize.C, T.e_NoValue.C, T.n_HasValues.C, T.e_NotMet.C, T.e_Idle.C, T.e_BadRows.C, T.e_BadBook.C, T.e_HasHole.C, T.e_NotPlain.C, T.e_BadDatas.C, T.e_Used.C, T.e_Refused.C, T.n_TooManyEdits.C, T.n_NothingToUndo.C, T.n_BadEdits.C, T.e_BadEdit.C, T.e_Rejected.C, T.n_Busy.C, T.e_BadExpression.C, T.e_Incomplete.C, T.e_BadText.C, T.e_NoPlace.C, T.e_NoMaker.C, T.e_NoIndex.C, T.e_NoRow.C, T.e_NoDefinition.C, T.e_NoWord.C, T.e_NoVersion.C]
theorem f_BadShape (T : Ty K mg) : FnOk P w K mg base CX0 1 T.e_BadShape.fI T.e_BadShape.fd ["self", "value"] (spK K ["value"]) := ek1 T.e_BadShape si_BadShape rfl (by (first | exact Or.inl rfl | exact Or.inr (Or.inl rfl) | exact Or.inr (Or.inr rfl))) (by (first | exact Or.inl rfl | exact Or.inr (Or.inl rfl) | exact Or.inr (Or.inr rfl))) rfl rfl
theorem f_BadCount (T : Ty K mg) : FnOk P w K mg base CX0 1 T.e_BadCount.fI T.e_BadCount.fd ["self", "value"] (spK K ["value"]) := ek1 T.e_BadCount si_BadCount rfl (by (first | exact Or.inl rfl | exact Or.inr (Or.inl rfl) | exact Or.inr (Or.inr rfl))) (by (first | exact Or.inl rfl | exact Or.inr (Or.inl rfl) | exact Or.inr (Or.inr rfl))) rfl rfl
theorem f_TooMany (T : Ty K mg) : FnOk P w K mg base CX0 1 T.e_TooMany.fI T.e_TooMany.fd ["self", "limit"] (spK K ["limit"]) := ek1 T.e_TooMany si_TooMany rfl (by (first | exact Or.inl rfl | exact Or.inr (Or.inl rfl) | exact Or.inr (Or.inr rfl))) (by (first | exact Or.inl rfl | exact Or.inr (Or.inl rfl) | exact Or.inr (Or.inr rfl))) rfl rfl
theorem f_TooLarge (T : Ty K mg) : FnOk P w K mg base CX0 1 T.e_TooLarge.fI T.e_TooLarge.fd ["self", "limit"] (spK K ["limit"]) := ek1 T.e_TooLarge si_TooLarge rfl (by (first | exact Or.inl rfl | exact Or.inr (Or.inl rfl) | exact Or.inr (Or.inr rfl))) (by (first | exact Or.inl rfl | exact Or.inr (Or.inl rfl) | exact Or.inr (Or.inr rfl))) rfl rfl
theorem f_Clash (T : Ty K mg) : FnOk P w K mg base CX0 1 T.e_Clash.fI T.e_Clash.fd ["self", "places"] (spK K ["places"]) := ek1 T.e_Clash si_Clash rfl (by (first | exact Or.inl rfl | exact Or.inr (Or.inl rfl) | exact Or.inr (Or.inr rfl))) (by (first | exact Or.inl rfl | exact Or.inr (Or.inl rfl) | exact Or.inr (Or.inr rfl))) rfl rfl
theorem f_BadChain (T : Ty K mg) : FnOk P w K mg base CX0 1 T.e_BadChain.fI T.e_BadChain.fd ["self", "index"] (spK K ["index"]) := ek1 T.e_BadChain si_BadChain rfl (by (first | exact Or.inl rfl | exact Or.inr (Or.inl rfl) | exact Or.inr (Or.inr rfl))) (by (first | exact Or.inl rfl | exact Or.inr (Or.inl rfl) | exact Or.inr (Or.inr rfl))) rfl rfl
theorem f_BadValue (T : Ty K mg) : FnOk P w K mg base CX0 1 T.e_BadValue.fI T.e_BadValue.fd ["self", "value"] (spK K ["value"]) := ek1 T.e_BadValue si_BadValue rfl (by (first | exact Or.inl rfl | exact Or.inr (Or.inl rfl) | exact Or.inr (Or.inr rfl))) (by (first | exact Or.inl rfl | exact Or.inr (Or.inl rfl) | exact Or.inr (Or.inr rfl))) rfl rfl
theorem f_BadForm (T : Ty K mg) : FnOk P w K mg base CX0 1 T.e_BadForm.fI T.e_BadForm.fd ["self", "form"] (spK K ["form"]) := ek1 T.e_BadForm si_BadForm rfl (by (first | exact Or.inl rfl | exact Or.inr (Or.inl rfl) | exact Or.inr (Or.inr rfl))) (by (first | exact Or.inl rfl | exact Or.inr (Or.inl rfl) | exact Or.inr (Or.inr rfl))) rfl rfl
theorem f_BadSize (T : Ty K mg) : FnOk P w K mg base CX0 1 T.e_BadSize.fI T.e_BadSize.fd ["self", "size"] (spK K ["size"]) := ek1 T.e_BadSize si_BadSize rfl (by (first | exact Or.inl rfl | exact Or.inr (Or.inl rfl) | exact Or.inr (Or.inr rfl))) (by (first | exact Or.inl rfl | exact Or.inr (Or.inl rfl) | exact Or.inr (Or.inr rfl))) rfl rfl
theorem f_NoValue (T : Ty K mg) : FnOk P w K mg base CX0 1 T.e_NoValue.fI T.e_NoValue.fd ["self", "value"] (spK K ["value"]) := ek1 T.e_NoValue si_NoValue rfl (by (first | exact Or.inl rfl | exact Or.inr (Or.inl rfl) | exact Or.inr (Or.inr rfl))) (by (first | exact Or.inl rfl | exact Or.inr (Or.inl rfl) | exact Or.inr (Or.inr rfl))) rfl rfl
theorem f_NotMet (T : Ty K mg) : FnOk P w K mg base CX0 1 T.e_NotMet.fI T.e_NotMet.fd ["self", "value"] (spK K ["value"]) := ek1 T.e_NotMet si_NotMet rfl (by (first | exact Or.inl rfl | exact Or.inr (Or.inl rfl) | exact Or.inr (Or.inr rfl))) (by (first | exact Or.inl rfl | exact Or.inr (Or.inl rfl) | exact Or.inr (Or.inr rfl))) rfl rfl
theorem f_Idle (T : Ty K mg) : FnOk P w K mg base CX0 1 T.e_Idle.fI T.e_Idle.fd ["self", "number"] (spK K ["number"]) := ek1 T.e_Idle si_Idle rfl (by (first | exact Or.inl rfl | exact Or.inr (Or.inl rfl) | exact Or.inr (Or.inr rfl))) (by (first | exact Or.inl rfl | exact Or.inr (Or.inl rfl) | exact Or.inr (Or.inr rfl))) rfl rfl
theorem f_BadRows (T : Ty K mg) : FnOk P w K mg base CX0 1 T.e_BadRows.fI T.e_BadRows.fd ["self", "error"] (spK K ["error"]) := ek1 T.e_BadRows si_BadRows rfl (by (first | exact Or.inl rfl | exact Or.inr (Or.inl rfl) | exact Or.inr (Or.inr rfl))) (by (first | exact Or.inl rfl | exact Or.inr (Or.inl rfl) | exact Or.inr (Or.inr rfl))) rfl rfl
theorem f_BadBook (T : Ty K mg) : FnOk P w K mg base CX0 1 T.e_BadBook.fI T.e_BadBook.fd ["self", "error"] (spK K ["error"]) := ek1 T.e_BadBook si_BadBook rfl (by (first | exact Or.inl rfl | exact Or.inr (Or.inl rfl) | exact Or.inr (Or.inr rfl))) (by (first | exact Or.inl rfl | exact Or.inr (Or.inl rfl) | exact Or.inr (Or.inr rfl))) rfl rfl
theorem f_HasHole (T : Ty K mg) : FnOk P w K mg base CX0 1 T.e_HasHole.fI T.e_HasHole.fd ["self", "spot"] (spK K ["spot"]) := ek1 T.e_HasHole si_HasHole rfl (by (first | exact Or.inl rfl | exact Or.inr (Or.inl rfl) | exact Or.inr (Or.inr rfl))) (by (first | exact Or.inl rfl | exact Or.inr (Or.inl rfl) | exact Or.inr (Or.inr rfl))) rfl rfl
theorem f_NotPlain (T : Ty K mg) : FnOk P w K mg base CX0 1 T.e_NotPlain.fI T.e_NotPlain.fd ["self", "index"] (spK K ["index"]) := ek1 T.e_NotPlain si_NotPlain rfl (by (first | exact Or.inl rfl | exact Or.inr (Or.inl rfl) | exact Or.inr (Or.inr rfl))) (by (first | exact Or.inl rfl | exact Or.inr (Or.inl rfl) | exact Or.inr (Or.inr rfl))) rfl rfl
theorem f_BadDatas (T : Ty K mg) : FnOk P w K mg base CX0 1 T.e_BadDatas.fI T.e_BadDatas.fd ["self", "error"] (spK K ["error"]) := ek1 T.e_BadDatas si_BadDatas rfl (by (first | exact Or.inl rfl | exact Or.inr (Or.inl rfl) | exact Or.inr (Or.inr rfl))) (by (first | exact Or.inl rfl | exact Or.inr (Or.inl rfl) | exact Or.inr (Or.inr rfl))) rfl rfl
theorem f_Used (T : Ty K mg) : FnOk P w K mg base CX0 1 T.e_Used.fI T.e_Used.fd ["self", "word"] (spK K ["word"]) := ek1 T.e_Used si_Used rfl (by (first | exact Or.inl rfl | exact Or.inr (Or.inl rfl) | exact Or.inr (Or.inr rfl))) (by (first | exact Or.inl rfl | exact Or.inr (Or.inl rfl) | exact Or.inr (Or.inr rfl))) rfl rfl
theorem f_Refused (T : Ty K mg) : FnOk P w K mg base CX0 1 T.e_Refused.fI T.e_Refused.fd ["self", "index", "verdict"] (spK K ["index", "verdict"]) := ek2 T.e_Refused si_Refused rfl (by (first | exact Or.inl rfl | exact Or.inr (Or.inl rfl) | exact Or.inr (Or.inr rfl))) (by (first | exact Or.inl rfl | exact Or.inr (Or.inl rfl) | exact Or.inr (Or.inr rfl))) (by (first | exact Or.inl rfl | exact Or.inr (Or.inl rfl) | exact Or.inr (Or.inr rfl))) rfl rfl rfl rfl
theorem f_BadEdit (T : Ty K mg) : FnOk P w K mg base CX0 1 T.e_BadEdit.fI T.e_BadEdit.fd ["self", "index"] (spK K ["index"]) := ek1 T.e_BadEdit si_BadEdit rfl (by (first | exact Or.inl rfl | exact Or.inr (Or.inl rfl) | exact Or.inr (Or.inr rfl))) (by (first | exact Or.inl rfl | exact Or.inr (Or.inl rfl) | exact Or.inr (Or.inr rfl))) rfl rfl
theorem f_Rejected (T : Ty K mg) : FnOk P w K mg base CX0 1 T.e_Rejected.fI T.e_Rejected.fd ["self", "index"] (spK K ["index"]) := ek1 T.e_Rejected si_Rejected rfl (by (first | exact Or.inl rfl | exact Or.inr (Or.inl rfl) | exact Or.inr (Or.inr rfl))) (by (first | exact Or.inl rfl | exact Or.inr (Or.inl rfl) | exact Or.inr (Or.inr rfl))) rfl rfl
theorem f_BadExpression (T : Ty K mg) : FnOk P w K mg base CX0 1 T.e_BadExpression.fI T.e_BadExpression.fd ["self", "error"] (spK K ["error"]) := ek1 T.e_BadExpression si_BadExpression rfl (by (first | exact Or.inl rfl | exact Or.inr (Or.inl rfl) | exact Or.inr (Or.inr rfl))) (by (first | exact Or.inl rfl | exact Or.inr (Or.inl rfl) | exact Or.inr (Or.inr rfl))) rfl rfl
theorem f_Incomplete (T : Ty K mg) : FnOk P w K mg base CX0 1 T.e_Incomplete.fI T.e_Incomplete.fd ["self", "word", "place", "outline"] (spK K ["word", "place", "outline"]) := ek3 T.e_Incomplete si_Incomplete rfl (by (first | exact Or.inl rfl | exact Or.inr (Or.inl rfl) | exact Or.inr (Or.inr rfl))) (by (first | exact Or.inl rfl | exact Or.inr (Or.inl rfl) | exact Or.inr (Or.inr rfl))) (by (first | exact Or.inl rfl | exact Or.inr (Or.inl rfl) | exact Or.inr (Or.inr rfl))) (by (first | exact Or.inl rfl | exact Or.inr (Or.inl rfl) | exact Or.inr (Or.inr rfl))) rfl rfl rfl rfl rfl rfl
theorem f_BadText (T : Ty K mg) : FnOk P w K mg base CX0 1 T.e_BadText.fI T.e_BadText.fd ["self", "index"] (spK K ["index"]) := ek1 T.e_BadText si_BadText rfl (by (first | exact Or.inl rfl | exact Or.inr (Or.inl rfl) | exact Or.inr (Or.inr rfl))) (by (first | exact Or.inl rfl | exact Or.inr (Or.inl rfl) | exact Or.inr (Or.inr rfl))) rfl rfl
theorem f_NoPlace (T : Ty K mg) : FnOk P w K mg base CX0 1 T.e_NoPlace.fI T.e_NoPlace.fd ["self", "value"] (spK K ["value"]) := ek1 T.e_NoPlace si_NoPlace rfl (by (first | exact Or.inl rfl | exact Or.inr (Or.inl rfl) | exact Or.inr (Or.inr rfl))) (by (first | exact Or.inl rfl | exact Or.inr (Or.inl rfl) | exact Or.inr (Or.inr rfl))) rfl rfl
theorem f_NoMaker (T : Ty K mg) : FnOk P w K mg base CX0 1 T.e_NoMaker.fI T.e_NoMaker.fd ["self", "name"] (spK K ["name"]) := ek1 T.e_NoMaker si_NoMaker rfl (by (first | exact Or.inl rfl | exact Or.inr (Or.inl rfl) | exact Or.inr (Or.inr rfl))) (by (first | exact Or.inl rfl | exact Or.inr (Or.inl rfl) | exact Or.inr (Or.inr rfl))) rfl rfl
theorem f_NoIndex (T : Ty K mg) : FnOk P w K mg base CX0 1 T.e_NoIndex.fI T.e_NoIndex.fd ["self", "index"] (spK K ["index"]) := ek1 T.e_NoIndex si_NoIndex rfl (by (first | exact Or.inl rfl | exact Or.inr (Or.inl rfl) | exact Or.inr (Or.inr rfl))) (by (first | exact Or.inl rfl | exact Or.inr (Or.inl rfl) | exact Or.inr (Or.inr rfl))) rfl rfl
theorem f_NoRow (T : Ty K mg) : FnOk P w K mg base CX0 1 T.e_NoRow.fI T.e_NoRow.fd ["self", "number"] (spK K ["number"]) := ek1 T.e_NoRow si_NoRow rfl (by (first | exact Or.inl rfl | exact Or.inr (Or.inl rfl) | exact Or.inr (Or.inr rfl))) (by (first | exact Or.inl rfl | exact Or.inr (Or.inl rfl) | exact Or.inr (Or.inr rfl))) rfl rfl
theorem f_NoDefinition (T : Ty K mg) : FnOk P w K mg base CX0 1 T.e_NoDefinition.fI T.e_NoDefinition.fd ["self", "value"] (spK K ["value"]) := ek1 T.e_NoDefinition si_NoDefinition rfl (by (first | exact Or.inl rfl | exact Or.inr (Or.inl rfl) | exact Or.inr (Or.inr rfl))) (by (first | exact Or.inl rfl | exact Or.inr (Or.inl rfl) | exact Or.inr (Or.inr rfl))) rfl rfl
theorem f_NoWord (T : Ty K mg) : FnOk P w K mg base CX0 1 T.e_NoWord.fI T.e_NoWord.fd ["self", "word"] (spK K ["word"]) := ek1 T.e_NoWord si_NoWord rfl (by (first | exact Or.inl rfl | exact Or.inr (Or.inl rfl) | exact Or.inr (Or.inr rfl))) (by (first | exact Or.inl rfl | exact Or.inr (Or.inl rfl) | exact Or.inr (Or.inr rfl))) rfl rfl
theorem f_NoVersion (T : Ty K mg) : FnOk P w K mg base CX0 1 T.e_NoVersion.fI T.e_NoVersion.fd ["self", "value"] (spK K ["value"]) := ek1 T.e_NoVersion si_NoVersion rfl (by (first | exact Or.inl rfl | exact Or.inr (Or.inl rfl) | exact Or.inr (Or.inr rfl))) (by (first | exact Or.inl rfl | exact Or.inr (Or.inl rfl) | exact Or.inr (Or.inr rfl))) rfl rfl
end
end K84
set_option Elab.async false
set_option linter.all false
set_option maxRecDepth 100000
set_option maxHeartbeats 4000000
namespace K84
open PySem PySem.Spec PyProof.Rows L2 Sl
section
variable {P : Program} {w : World} {K : PySem.W.Frag} {mg : Str → Option Value} {base : Heap}
def OE (x y z : V) (σ : L2.St) (_ : Hp) : Prop := σ[0]? = some (some x) ∧ σ[1]? = some (some y) ∧ σ[2]? = some (some z)
def spErrs (T : Ty K mg) : Sp := fun vs H Q _ => ∃ x y z, vs = [x, y, z] ∧ ∀ L us H', Same H H' → H' L = some (.lst us) → Paired (EPel H') us (Cs T) → Q (.ref L) H'
theorem stE {x y z : V} : Stay (OE x y z) EPel := ⟨fun _ o => o, fun k ⟨a, e, h⟩ => ⟨a, e, h.same k⟩⟩
theorem setE {x y z : V} (σ : L2.St) (H : Hp) (u : Option V) (o : OE x y z σ H) : OE x y z (σ.set 3 u) H := ⟨by rw [List.getElem?_set_ne (by decide)]; exact o.1, by rw [List.getElem?_set_ne (by decide)]; exact o.2.1, by rw [List.getElem?_set_ne (by decide)]; exact o.2.2⟩
theorem ok_errors (T : Ty K mg) : FnX P w K mg base 3 T.law_errors.f T.law_errors.fd ["_law_one_here", "_law_other", "_law_third"] (spErrs T) := by
  refine fnX_mk T.law_errors.F sc_law_errors (fun vs H Q E h => by obtain ⟨x, y, z, rfl, _⟩ := h; rfl) fun cdv A outer s H vs Q E hgd hr hsp => ⟨_, pss_w, ?_⟩
  obtain ⟨x, y, z, rfl, q⟩ := hsp
  have hS : Stay (OE x y z) EPel := stE
  have hO := setE (x := x) (y := y) (z := z)
  refine (show LsS _ (OE x y z) EPel 3 (defBody s_law_errors) (Cs T) from ls_set hS hO sc_law_errors.nd (by rfl) (by (first | exact Or.inl rfl | exact Or.inr rfl)) (Nat.le_of_ble_eq_true rfl) (mkXs_cons hS (fun σ H Q o q => w_mk1 T.e_BadShape (f_BadShape T) hr (by rfl) (pe_var (by rfl) (by (first | exact Or.inl rfl | exact Or.inr (Or.inl rfl) | exact Or.inr (Or.inr rfl)))) o.1 (kept_err q)) (mkXs_cons hS (fun σ H Q o q => w_mk1 T.e_BadCount (f_BadCount T) hr (by rfl) (pe_var (by rfl) (by (first | exact Or.inl rfl | exact Or.inr (Or.inl rfl) | exact Or.inr (Or.inr rfl)))) o.1 (kept_err q)) (mkXs_cons hS (fun σ H Q o q => w_mkN T.n_NoMeeting (by rfl) (fun a ha => q _ _ (same_upd ha) ⟨a, rfl, .inl upd_same⟩)) (mkXs_cons hS (fun σ H Q o q => w_mkN T.n_NoSolution (by rfl) (fun a ha => q _ _ (same_upd ha) ⟨a, rfl, .inl upd_same⟩)) (mkXs_cons hS (fun σ H Q o q => w_mk1 T.e_TooMany (f_TooMany T) hr (by rfl) (pe_var (by rfl) (by (first | exact Or.inl rfl | exact Or.inr (Or.inl rfl) | exact Or.inr (Or.inr rfl)))) o.1 (kept_err q)) (mkXs_cons hS (fun σ H Q o q => w_mk1 T.e_TooLarge (f_TooLarge T) hr (by rfl) (pe_var (by rfl) (by (first | exact Or.inl rfl | exact Or.inr (Or.inl rfl) | exact Or.inr (Or.inr rfl)))) o.1 (kept_err q)) mkXs_nil))))))
    (ls_add hS hO sc_law_errors.nd (by rfl) (by (first | exact Or.inl rfl | exact Or.inr rfl)) (pe_var (by rfl) (by (first | exact Or.inl rfl | exact Or.inr (Or.inl rfl) | exact Or.inr (Or.inr rfl)))) (Nat.le_of_ble_eq_true rfl) (mkXs_cons hS (fun σ H Q o q => w_mk1 T.e_Clash (f_Clash T) hr (by rfl) (pe_var (by rfl) (by (first | exact Or.inl rfl | exact Or.inr (Or.inl rfl) | exact Or.inr (Or.inr rfl)))) o.1 (kept_err q)) (mkXs_cons hS (fun σ H Q o q => w_mk1 T.e_BadChain (f_BadChain T) hr (by rfl) (pe_var (by rfl) (by (first | exact Or.inl rfl | exact Or.inr (Or.inl rfl) | exact Or.inr (Or.inr rfl)))) o.1 (kept_err q)) (mkXs_cons hS (fun σ H Q o q => w_mk1 T.e_BadValue (f_BadValue T) hr (by rfl) (pe_var (by rfl) (by (first | exact Or.inl rfl | exact Or.inr (Or.inl rfl) | exact Or.inr (Or.inr rfl)))) o.1 (kept_err q)) (mkXs_cons hS (fun σ H Q o q => w_mk1 T.e_BadForm (f_BadForm T) hr (by rfl) (pe_var (by rfl) (by (first | exact Or.inl rfl | exact Or.inr (Or.inl rfl) | exact Or.inr (Or.inr rfl)))) o.1 (kept_err q)) (mkXs_cons hS (fun σ H Q o q => w_mk1 T.e_BadSize (f_BadSize T) hr (by rfl) (pe_var (by rfl) (by (first | exact Or.inl rfl | exact Or.inr (Or.inl rfl) | exact Or.inr (Or.inr rfl)))) o.1 (kept_err q)) (mkXs_cons hS (fun σ H Q o q => w_mk1 T.e_NoValue (f_NoValue T) hr (by rfl) (pe_var (by rfl) (by (first | exact Or.inl rfl | exact Or.inr (Or.inl rfl) | exact Or.inr (Or.inr rfl)))) o.1 (kept_err q)) mkXs_nil))))))
    (ls_add hS hO sc_law_errors.nd (by rfl) (by (first | exact Or.inl rfl | exact Or.inr rfl)) (pe_var (by rfl) (by (first | exact Or.inl rfl | exact Or.inr (Or.inl rfl) | exact Or.inr (Or.inr rfl)))) (Nat.le_of_ble_eq_true rfl) (mkXs_cons hS (fun σ H Q o q => w_mkN T.n_HasValues (by rfl) (fun a ha => q _ _ (same_upd ha) ⟨a, rfl, .inl upd_same⟩)) (mkXs_cons hS (fun σ H Q o q => w_mk1 T.e_NotMet (f_NotMet T) hr (by rfl) (pe_var (by rfl) (by (first | exact Or.inl rfl | exact Or.inr (Or.inl rfl) | exact Or.inr (Or.inr rfl)))) o.1 (kept_err q)) (mkXs_cons hS (fun σ H Q o q => w_mk1 T.e_Idle (f_Idle T) hr (by rfl) (pe_var (by rfl) (by (first | exact Or.inl rfl | exact Or.inr (Or.inl rfl) | exact Or.inr (Or.inr rfl)))) o.1 (kept_err q)) (mkXs_cons hS (fun σ H Q o q => w_mk1 T.e_BadRows (f_BadRows T) hr (by rfl) (pe_var (by rfl) (by (first | exact Or.inl rfl | exact Or.inr (Or.inl rfl) | exact Or.inr (Or.inr rfl)))) o.1 (kept_err q)) (mkXs_cons hS (fun σ H Q o q => w_mk1 T.e_BadBook (f_BadBook T) hr (by rfl) (pe_var (by rfl) (by (first | exact Or.inl rfl | exact Or.inr (Or.inl rfl) | exact Or.inr (Or.inr rfl)))) o.1 (kept_err q)) (mkXs_cons hS (fun σ H Q o q => w_mk1 T.e_HasHole (f_HasHole T) hr (by rfl) (pe_var (by rfl) (by (first | exact Or.inl rfl | exact Or.inr (Or.inl rfl) | exact Or.inr (Or.inr rfl)))) o.1 (kept_err q)) (mkXs_cons hS (fun σ H Q o q => w_mk1 T.e_NotPlain (f_NotPlain T) hr (by rfl) (pe_var (by rfl) (by (first | exact Or.inl rfl | exact Or.inr (Or.inl rfl) | exact Or.inr (Or.inr rfl)))) o.1 (kept_err q)) mkXs_nil)))))))
    (ls_add hS hO sc_law_errors.nd (by rfl) (by (first | exact Or.inl rfl | exact Or.inr rfl)) (pe_var (by rfl) (by (first | exact Or.inl rfl | exact Or.inr (Or.inl rfl) | exact Or.inr (Or.inr rfl)))) (Nat.le_of_ble_eq_true rfl) (mkXs_cons hS (fun σ H Q o q => w_mk1 T.e_BadDatas (f_BadDatas T) hr (by rfl) (pe_var (by rfl) (by (first | exact Or.inl rfl | exact Or.inr (Or.inl rfl) | exact Or.inr (Or.inr rfl)))) o.1 (kept_err q)) (mkXs_cons hS (fun σ H Q o q => w_mk1 T.e_Used (f_Used T) hr (by rfl) (pe_var (by rfl) (by (first | exact Or.inl rfl | exact Or.inr (Or.inl rfl) | exact Or.inr (Or.inr rfl)))) o.1 (kept_err q)) (mkXs_cons hS (fun σ H Q o q => w_mk2 T.e_Refused (f_Refused T) hr (by rfl) (pe_var (by rfl) (by (first | exact Or.inl rfl | exact Or.inr (Or.inl rfl) | exact Or.inr (Or.inr rfl)))) (pe_var (by rfl) (by (first | exact Or.inl rfl | exact Or.inr (Or.inl rfl) | exact Or.inr (Or.inr rfl)))) o.1 o.2.1 (kept_err q)) (mkXs_cons hS (fun σ H Q o q => w_mkN T.n_TooManyEdits (by rfl) (fun a ha => q _ _ (same_upd ha) ⟨a, rfl, .inl upd_same⟩)) (mkXs_cons hS (fun σ H Q o q => w_mkN T.n_NothingToUndo (by rfl) (fun a ha => q _ _ (same_upd ha) ⟨a, rfl, .inl upd_same⟩)) (mkXs_cons hS (fun σ H Q o q => w_mkN T.n_BadEdits (by rfl) (fun a ha => q _ _ (same_upd ha) ⟨a, rfl, .inl upd_same⟩)) mkXs_nil))))))
    (ls_add hS hO sc_law_errors.nd (by rfl) (by (first | exact Or.inl rfl | exact Or.inr rfl)) (pe_var (by rfl) (by (first | exact Or.inl rfl | exact Or.inr (Or.inl rfl) | exact Or.inr (Or.inr rfl)))) (Nat.le_of_ble_eq_true rfl) (mkXs_cons hS (fun σ H Q o q => w_mk1 T.e_BadEdit (f_BadEdit T) hr (by rfl) (pe_var (by rfl) (by (first | exact Or.inl rfl | exact Or.inr (Or.inl rfl) | exact Or.inr (Or.inr rfl)))) o.1 (kept_err q)) (mkXs_cons hS (fun σ H Q o q => w_mk1 T.e_Rejected (f_Rejected T) hr (by rfl) (pe_var (by rfl) (by (first | exact Or.inl rfl | exact Or.inr (Or.inl rfl) | exact Or.inr (Or.inr rfl)))) o.1 (kept_err q)) (mkXs_cons hS (fun σ H Q o q => w_mkN T.n_Busy (by rfl) (fun a ha => q _ _ (same_upd ha) ⟨a, rfl, .inl upd_same⟩)) (mkXs_cons hS (fun σ H Q o q => w_mk1 T.e_BadExpression (f_BadExpression T) hr (by rfl) (pe_var (by rfl) (by (first | exact Or.inl rfl | exact Or.inr (Or.inl rfl) | exact Or.inr (Or.inr rfl)))) o.1 (kept_err q)) (mkXs_cons hS (fun σ H Q o q => w_mk3 T.e_Incomplete (f_Incomplete T) hr (by rfl) (pe_var (by rfl) (by (first | exact Or.inl rfl | exact Or.inr (Or.inl rfl) | exact Or.inr (Or.inr rfl)))) (pe_var (by rfl) (by (first | exact Or.inl rfl | exact Or.inr (Or.inl rfl) | exact Or.inr (Or.inr rfl)))) (pe_var (by rfl) (by (first | exact Or.inl rfl | exact Or.inr (Or.inl rfl) | exact Or.inr (Or.inr rfl)))) o.1 o.2.1 o.2.2 (kept_err q)) mkXs_nil)))))
    (ls_add hS hO sc_law_errors.nd (by rfl) (by (first | exact Or.inl rfl | exact Or.inr rfl)) (pe_var (by rfl) (by (first | exact Or.inl rfl | exact Or.inr (Or.inl rfl) | exact Or.inr (Or.inr rfl)))) (Nat.le_of_ble_eq_true rfl) (mkXs_cons hS (fun σ H Q o q => w_mk1 T.e_BadText (f_BadText T) hr (by rfl) (pe_var (by rfl) (by (first | exact Or.inl rfl | exact Or.inr (Or.inl rfl) | exact Or.inr (Or.inr rfl)))) o.1 (kept_err q)) (mkXs_cons hS (fun σ H Q o q => w_mk1 T.e_NoPlace (f_NoPlace T) hr (by rfl) (pe_var (by rfl) (by (first | exact Or.inl rfl | exact Or.inr (Or.inl rfl) | exact Or.inr (Or.inr rfl)))) o.1 (kept_err q)) (mkXs_cons hS (fun σ H Q o q => w_mk1 T.e_NoMaker (f_NoMaker T) hr (by rfl) (pe_var (by rfl) (by (first | exact Or.inl rfl | exact Or.inr (Or.inl rfl) | exact Or.inr (Or.inr rfl)))) o.1 (kept_err q)) (mkXs_cons hS (fun σ H Q o q => w_mk1 T.e_NoIndex (f_NoIndex T) hr (by rfl) (pe_var (by rfl) (by (first | exact Or.inl rfl | exact Or.inr (Or.inl rfl) | exact Or.inr (Or.inr rfl)))) o.1 (kept_err q)) (mkXs_cons hS (fun σ H Q o q => w_mk1 T.e_NoRow (f_NoRow T) hr (by rfl) (pe_var (by rfl) (by (first | exact Or.inl rfl | exact Or.inr (Or.inl rfl) | exact Or.inr (Or.inr rfl)))) o.1 (kept_err q)) (mkXs_cons hS (fun σ H Q o q => w_mk1 T.e_NoDefinition (f_NoDefinition T) hr (by rfl) (pe_var (by rfl) (by (first | exact Or.inl rfl | exact Or.inr (Or.inl rfl) | exact Or.inr (Or.inr rfl)))) o.1 (kept_err q)) mkXs_nil))))))
    (ls_add hS hO sc_law_errors.nd (by rfl) (by (first | exact Or.inl rfl | exact Or.inr rfl)) (pe_var (by rfl) (by (first | exact Or.inl rfl | exact Or.inr (Or.inl rfl) | exact Or.inr (Or.inr rfl)))) (Nat.le_of_ble_eq_true rfl) (mkXs_cons hS (fun σ H Q o q => w_mk1 T.e_NoWord (f_NoWord T) hr (by rfl) (pe_var (by rfl) (by (first | exact Or.inl rfl | exact Or.inr (Or.inl rfl) | exact Or.inr (Or.inr rfl)))) o.1 (kept_err q)) (mkXs_cons hS (fun σ H Q o q => w_mk1 T.e_NoVersion (f_NoVersion T) hr (by rfl) (pe_var (by rfl) (by (first | exact Or.inl rfl | exact Or.inr (Or.inl rfl) | exact Or.inr (Or.inr rfl)))) o.1 (kept_err q)) mkXs_nil))
    (ls_ret (pe_var (by rfl) (by (first | exact Or.inl rfl | exact Or.inr (Or.inl rfl) | exact Or.inr (Or.inr rfl)))))))))))) _ _ _ ⟨rfl, rfl, rfl⟩ (Nat.le_of_ble_eq_true rfl) fun L us H' a b c => q L us H' a b c
end
end K84
set_option Elab.async false
set_option linter.all false
set_option maxRecDepth 100000
set_option maxHeartbeats 4000000
namespace K84
open PySem PySem.Spec PyProof.Rows L2 Sl
section
variable {P : Program} {w : World} {K : PySem.W.Frag} {mg : Str → Option Value} {base : Heap}
def OF (a C : Addr) (σ : L2.St) (H : Hp) : Prop := σ[0]? = some (some (.ref a)) ∧ ErrAt H a C
def BPel (_ : Hp) (v : V) (b : Bool) : Prop := v = .bl b
def spFlags (K : PySem.W.Frag) (T : Ty K mg) : Sp := fun vs H Q _ => ∃ (a C : Addr) (b : Addr → Bool), vs = [.ref a] ∧ ErrAt H a C ∧ IsG K C ∧ (∀ D ∈ Cs T, PySem.W.kitOne K (.ref C) (.ref D) = some (b D)) ∧ ∀ L us H', Same H H' → H' L = some (.lst us) → Paired (BPel H') us ((Cs T).map b) → Q (.ref L) H'
theorem stF {a C : Addr} : Stay (OF a C) BPel := ⟨fun k o => ⟨o.1, o.2.same k⟩, fun _ e => e⟩
theorem setF {a C : Addr} (σ : L2.St) (H : Hp) (u : Option V) (o : OF a C σ H) : OF a C (σ.set 1 u) H := ⟨by rw [List.getElem?_set_ne (by decide)]; exact o.1, o.2⟩
theorem ok_flags (T : Ty K mg) : FnX P w K mg base 3 T.law_flags.f T.law_flags.fd ["_law_e"] (spFlags K T) := by
  refine fnX_mk T.law_flags.F sc_law_flags (fun vs H Q E h => by obtain ⟨a, C, b, rfl, _⟩ := h; rfl) fun cdv A outer s H vs Q E hgd hr hsp => ⟨_, pss_w, ?_⟩
  obtain ⟨a, C, b, rfl, ea, is, hk, q⟩ := hsp
  have hS : Stay (OF a C) BPel := stF
  have hO := setF (a := a) (C := C)
  refine (show LsS _ (OF a C) BPel 1 (defBody s_law_flags) ((Cs T).map b) from ls_set hS hO sc_law_flags.nd (by rfl) (by (first | exact Or.inl rfl | exact Or.inr rfl)) (Nat.le_of_ble_eq_true rfl) (mkXs_cons hS (fun σ H Q o q => w_isG (by rfl) T.m_isinstance (by decide +kernel) (pe_var (by rfl) (by (first | exact Or.inl rfl | exact Or.inr (Or.inl rfl) | exact Or.inr (Or.inr rfl)))) (pe_glob (v := .ref T.e_BadShape.C) (by rfl) T.e_BadShape.g rfl) (.own _) is (hk _ (List.mem_of_getElem? (i := 0) rfl)) o.1 o.2 (q _ H (Same.refl H) rfl)) (mkXs_cons hS (fun σ H Q o q => w_isG (by rfl) T.m_isinstance (by decide +kernel) (pe_var (by rfl) (by (first | exact Or.inl rfl | exact Or.inr (Or.inl rfl) | exact Or.inr (Or.inr rfl)))) (pe_glob (v := .ref T.e_BadCount.C) (by rfl) T.e_BadCount.g rfl) (.own _) is (hk _ (List.mem_of_getElem? (i := 1) rfl)) o.1 o.2 (q _ H (Same.refl H) rfl)) (mkXs_cons hS (fun σ H Q o q => w_isG (by rfl) T.m_isinstance (by decide +kernel) (pe_var (by rfl) (by (first | exact Or.inl rfl | exact Or.inr (Or.inl rfl) | exact Or.inr (Or.inr rfl)))) (pe_glob (v := .ref T.n_NoMeeting.C) (by rfl) T.n_NoMeeting.g rfl) (.own _) is (hk _ (List.mem_of_getElem? (i := 2) rfl)) o.1 o.2 (q _ H (Same.refl H) rfl)) mkXs_nil)))
    (ls_add hS hO sc_law_flags.nd (by rfl) (by (first | exact Or.inl rfl | exact Or.inr rfl)) (pe_var (by rfl) (by (first | exact Or.inl rfl | exact Or.inr (Or.inl rfl) | exact Or.inr (Or.inr rfl)))) (Nat.le_of_ble_eq_true rfl) (mkXs_cons hS (fun σ H Q o q => w_isG (by rfl) T.m_isinstance (by decide +kernel) (pe_var (by rfl) (by (first | exact Or.inl rfl | exact Or.inr (Or.inl rfl) | exact Or.inr (Or.inr rfl)))) (pe_glob (v := .ref T.n_NoSolution.C) (by rfl) T.n_NoSolution.g rfl) (.own _) is (hk _ (List.mem_of_getElem? (i := 3) rfl)) o.1 o.2 (q _ H (Same.refl H) rfl)) (mkXs_cons hS (fun σ H Q o q => w_isG (by rfl) T.m_isinstance (by decide +kernel) (pe_var (by rfl) (by (first | exact Or.inl rfl | exact Or.inr (Or.inl rfl) | exact Or.inr (Or.inr rfl)))) (pe_glob (v := .ref T.e_TooMany.C) (by rfl) T.e_TooMany.g rfl) (.own _) is (hk _ (List.mem_of_getElem? (i := 4) rfl)) o.1 o.2 (q _ H (Same.refl H) rfl)) (mkXs_cons hS (fun σ H Q o q => w_isG (by rfl) T.m_isinstance (by decide +kernel) (pe_var (by rfl) (by (first | exact Or.inl rfl | exact Or.inr (Or.inl rfl) | exact Or.inr (Or.inr rfl)))) (pe_glob (v := .ref T.e_TooLarge.C) (by rfl) T.e_TooLarge.g rfl) (.own _) is (hk _ (List.mem_of_getElem? (i := 5) rfl)) o.1 o.2 (q _ H (Same.refl H) rfl)) mkXs_nil)))
    (ls_add hS hO sc_law_flags.nd (by rfl) (by (first | exact Or.inl rfl | exact Or.inr rfl)) (pe_var (by rfl) (by (first | exact Or.inl rfl | exact Or.inr (Or.inl rfl) | exact Or.inr (Or.inr rfl)))) (Nat.le_of_ble_eq_true rfl) (mkXs_cons hS (fun σ H Q o q => w_isG (by rfl) T.m_isinstance (by decide +kernel) (pe_var (by rfl) (by (first | exact Or.inl rfl | exact Or.inr (Or.inl rfl) | exact Or.inr (Or.inr rfl)))) (pe_glob (v := .ref T.e_Clash.C) (by rfl) T.e_Clash.g rfl) (.own _) is (hk _ (List.mem_of_getElem? (i := 6) rfl)) o.1 o.2 (q _ H (Same.refl H) rfl)) (mkXs_cons hS (fun σ H Q o q => w_isG (by rfl) T.m_isinstance (by decide +kernel) (pe_var (by rfl) (by (first | exact Or.inl rfl | exact Or.inr (Or.inl rfl) | exact Or.inr (Or.inr rfl)))) (pe_glob (v := .ref T.e_BadChain.C) (by rfl) T.e_BadChain.g rfl) (.own _) is (hk _ (List.mem_of_getElem? (i := 7) rfl)) o.1 o.2 (q _ H (Same.refl H) rfl)) (mkXs_cons hS (fun σ H Q o q => w_isG (by rfl) T.m_isinstance (by decide +kernel) (pe_var (by rfl) (by (first | exact Or.inl rfl | exact Or.inr (Or.inl rfl) | exact Or.inr (Or.inr rfl)))) (pe_glob (v := .ref T.e_BadValue.C) (by rfl) T.e_BadValue.g rfl) (.own _) is (hk _ (List.mem_of_getElem? (i := 8) rfl)) o.1 o.2 (q _ H (Same.refl H) rfl)) mkXs_nil)))
    (ls_add hS hO sc_law_flags.nd (by rfl) (by (first | exact Or.inl rfl | exact Or.inr rfl)) (pe_var (by rfl) (by (first | exact Or.inl rfl | exact Or.inr (Or.inl rfl) | exact Or.inr (Or.inr rfl)))) (Nat.le_of_ble_eq_true rfl) (mkXs_cons hS (fun σ H Q o q => w_isG (by rfl) T.m_isinstance (by decide +kernel) (pe_var (by rfl) (by (first | exact Or.inl rfl | exact Or.inr (Or.inl rfl) | exact Or.inr (Or.inr rfl)))) (pe_glob (v := .ref T.e_BadForm.C) (by rfl) T.e_BadForm.g rfl) (.own _) is (hk _ (List.mem_of_getElem? (i := 9) rfl)) o.1 o.2 (q _ H (Same.refl H) rfl)) (mkXs_cons hS (fun σ H Q o q => w_isG (by rfl) T.m_isinstance (by decide +kernel) (pe_var (by rfl) (by (first | exact Or.inl rfl | exact Or.inr (Or.inl rfl) | exact Or.inr (Or.inr rfl)))) (pe_glob (v := .ref T.e_BadSize.C) (by rfl) T.e_BadSize.g rfl) (.own _) is (hk _ (List.mem_of_getElem? (i := 10) rfl)) o.1 o.2 (q _ H (Same.refl H) rfl)) (mkXs_cons hS (fun σ H Q o q => w_isG (by rfl) T.m_isinstance (by decide +kernel) (pe_var (by rfl) (by (first | exact Or.inl rfl | exact Or.inr (Or.inl rfl) | exact Or.inr (Or.inr rfl)))) (pe_glob (v := .ref T.e_NoValue.C) (by rfl) T.e_NoValue.g rfl) (.own _) is (hk _ (List.mem_of_getElem? (i := 11) rfl)) o.1 o.2 (q _ H (Same.refl H) rfl)) mkXs_nil)))
    (ls_add hS hO sc_law_flags.nd (by rfl) (by (first | exact Or.inl rfl | exact Or.inr rfl)) (pe_var (by rfl) (by (first | exact Or.inl rfl | exact Or.inr (Or.inl rfl) | exact Or.inr (Or.inr rfl)))) (Nat.le_of_ble_eq_true rfl) (mkXs_cons hS (fun σ H Q o q => w_isG (by rfl) T.m_isinstance (by decide +kernel) (pe_var (by rfl) (by (first | exact Or.inl rfl | exact Or.inr (Or.inl rfl) | exact Or.inr (Or.inr rfl)))) (pe_glob (v := .ref T.n_HasValues.C) (by rfl) T.n_HasValues.g rfl) (.own _) is (hk _ (List.mem_of_getElem? (i := 12) rfl)) o.1 o.2 (q _ H (Same.refl H) rfl)) (mkXs_cons hS (fun σ H Q o q => w_isG (by rfl) T.m_isinstance (by decide +kernel) (pe_var (by rfl) (by (first | exact Or.inl rfl | exact Or.inr (Or.inl rfl) | exact Or.inr (Or.inr rfl)))) (pe_glob (v := .ref T.e_NotMet.C) (by rfl) T.e_NotMet.g rfl) (.own _) is (hk _ (List.mem_of_getElem? (i := 13) rfl)) o.1 o.2 (q _ H (Same.refl H) rfl)) (mkXs_cons hS (fun σ H Q o q => w_isG (by rfl) T.m_isinstance (by decide +kernel) (pe_var (by rfl) (by (first | exact Or.inl rfl | exact Or.inr (Or.inl rfl) | exact Or.inr (Or.inr rfl)))) (pe_glob (v := .ref T.e_Idle.C) (by rfl) T.e_Idle.g rfl) (.own _) is (hk _ (List.mem_of_getElem? (i := 14) rfl)) o.1 o.2 (q _ H (Same.refl H) rfl)) (mkXs_cons hS (fun σ H Q o q => w_isG (by rfl) T.m_isinstance (by decide +kernel) (pe_var (by rfl) (by (first | exact Or.inl rfl | exact Or.inr (Or.inl rfl) | exact Or.inr (Or.inr rfl)))) (pe_glob (v := .ref T.e_BadRows.C) (by rfl) T.e_BadRows.g rfl) (.own _) is (hk _ (List.mem_of_getElem? (i := 15) rfl)) o.1 o.2 (q _ H (Same.refl H) rfl)) mkXs_nil))))
    (ls_add hS hO sc_law_flags.nd (by rfl) (by (first | exact Or.inl rfl | exact Or.inr rfl)) (pe_var (by rfl) (by (first | exact Or.inl rfl | exact Or.inr (Or.inl rfl) | exact Or.inr (Or.inr rfl)))) (Nat.le_of_ble_eq_true rfl) (mkXs_cons hS (fun σ H Q o q => w_isG (by rfl) T.m_isinstance (by decide +kernel) (pe_var (by rfl) (by (first | exact Or.inl rfl | exact Or.inr (Or.inl rfl) | exact Or.inr (Or.inr rfl)))) (pe_glob (v := .ref T.e_BadBook.C) (by rfl) T.e_BadBook.g rfl) (.own _) is (hk _ (List.mem_of_getElem? (i := 16) rfl)) o.1 o.2 (q _ H (Same.refl H) rfl)) (mkXs_cons hS (fun σ H Q o q => w_isG (by rfl) T.m_isinstance (by decide +kernel) (pe_var (by rfl) (by (first | exact Or.inl rfl | exact Or.inr (Or.inl rfl) | exact Or.inr (Or.inr rfl)))) (pe_glob (v := .ref T.e_HasHole.C) (by rfl) T.e_HasHole.g rfl) (.own _) is (hk _ (List.mem_of_getElem? (i := 17) rfl)) o.1 o.2 (q _ H (Same.refl H) rfl)) (mkXs_cons hS (fun σ H Q o q => w_isG (by rfl) T.m_isinstance (by decide +kernel) (pe_var (by rfl) (by (first | exact Or.inl rfl | exact Or.inr (Or.inl rfl) | exact Or.inr (Or.inr rfl)))) (pe_glob (v := .ref T.e_NotPlain.C) (by rfl) T.e_NotPlain.g rfl) (.own _) is (hk _ (List.mem_of_getElem? (i := 18) rfl)) o.1 o.2 (q _ H (Same.refl H) rfl)) mkXs_nil)))
    (ls_add hS hO sc_law_flags.nd (by rfl) (by (first | exact Or.inl rfl | exact Or.inr rfl)) (pe_var (by rfl) (by (first | exact Or.inl rfl | exact Or.inr (Or.inl rfl) | exact Or.inr (Or.inr rfl)))) (Nat.le_of_ble_eq_true rfl) (mkXs_cons hS (fun σ H Q o q => w_isG (by rfl) T.m_isinstance (by decide +kernel) (pe_var (by rfl) (by (first | exact Or.inl rfl | exact Or.inr (Or.inl rfl) | exact Or.inr (Or.inr rfl)))) (pe_glob (v := .ref T.e_BadDatas.C) (by rfl) T.e_BadDatas.g rfl) (.own _) is (hk _ (List.mem_of_getElem? (i := 19) rfl)) o.1 o.2 (q _ H (Same.refl H) rfl)) (mkXs_cons hS (fun σ H Q o q => w_isG (by rfl) T.m_isinstance (by decide +kernel) (pe_var (by rfl) (by (first | exact Or.inl rfl | exact Or.inr (Or.inl rfl) | exact Or.inr (Or.inr rfl)))) (pe_glob (v := .ref T.e_Used.C) (by rfl) T.e_Used.g rfl) (.own _) is (hk _ (List.mem_of_getElem? (i := 20) rfl)) o.1 o.2 (q _ H (Same.refl H) rfl)) (mkXs_cons hS (fun σ H Q o q => w_isG (by rfl) T.m_isinstance (by decide +kernel) (pe_var (by rfl) (by (first | exact Or.inl rfl | exact Or.inr (Or.inl rfl) | exact Or.inr (Or.inr rfl)))) (pe_glob (v := .ref T.e_Refused.C) (by rfl) T.e_Refused.g rfl) (.own _) is (hk _ (List.mem_of_getElem? (i := 21) rfl)) o.1 o.2 (q _ H (Same.refl H) rfl)) mkXs_nil)))
    (ls_add hS hO sc_law_flags.nd (by rfl) (by (first | exact Or.inl rfl | exact Or.inr rfl)) (pe_var (by rfl) (by (first | exact Or.inl rfl | exact Or.inr (Or.inl rfl) | exact Or.inr (Or.inr rfl)))) (Nat.le_of_ble_eq_true rfl) (mkXs_cons hS (fun σ H Q o q => w_isG (by rfl) T.m_isinstance (by decide +kernel) (pe_var (by rfl) (by (first | exact Or.inl rfl | exact Or.inr (Or.inl rfl) | exact Or.inr (Or.inr rfl)))) (pe_glob (v := .ref T.n_TooManyEdits.C) (by rfl) T.n_TooManyEdits.g rfl) (.own _) is (hk _ (List.mem_of_getElem? (i := 22) rfl)) o.1 o.2 (q _ H (Same.refl H) rfl)) (mkXs_cons hS (fun σ H Q o q => w_isG (by rfl) T.m_isinstance (by decide +kernel) (pe_var (by rfl) (by (first | exact Or.inl rfl | exact Or.inr (Or.inl rfl) | exact Or.inr (Or.inr rfl)))) (pe_glob (v := .ref T.n_NothingToUndo.C) (by rfl) T.n_NothingToUndo.g rfl) (.own _) is (hk _ (List.mem_of_getElem? (i := 23) rfl)) o.1 o.2 (q _ H (Same.refl H) rfl)) (mkXs_cons hS (fun σ H Q o q => w_isG (by rfl) T.m_isinstance (by decide +kernel) (pe_var (by rfl) (by (first | exact Or.inl rfl | exact Or.inr (Or.inl rfl) | exact Or.inr (Or.inr rfl)))) (pe_glob (v := .ref T.n_BadEdits.C) (by rfl) T.n_BadEdits.g rfl) (.own _) is (hk _ (List.mem_of_getElem? (i := 24) rfl)) o.1 o.2 (q _ H (Same.refl H) rfl)) mkXs_nil)))
    (ls_add hS hO sc_law_flags.nd (by rfl) (by (first | exact Or.inl rfl | exact Or.inr rfl)) (pe_var (by rfl) (by (first | exact Or.inl rfl | exact Or.inr (Or.inl rfl) | exact Or.inr (Or.inr rfl)))) (Nat.le_of_ble_eq_true rfl) (mkXs_cons hS (fun σ H Q o q => w_isG (by rfl) T.m_isinstance (by decide +kernel) (pe_var (by rfl) (by (first | exact Or.inl rfl | exact Or.inr (Or.inl rfl) | exact Or.inr (Or.inr rfl)))) (pe_glob (v := .ref T.e_BadEdit.C) (by rfl) T.e_BadEdit.g rfl) (.own _) is (hk _ (List.mem_of_getElem? (i := 25) rfl)) o.1 o.2 (q _ H (Same.refl H) rfl)) (mkXs_cons hS (fun σ H Q o q => w_isG (by rfl) T.m_isinstance (by decide +kernel) (pe_var (by rfl) (by (first | exact Or.inl rfl | exact Or.inr (Or.inl rfl) | exact Or.inr (Or.inr rfl)))) (pe_glob (v := .ref T.e_Rejected.C) (by rfl) T.e_Rejected.g rfl) (.own _) is (hk _ (List.mem_of_getElem? (i := 26) rfl)) o.1 o.2 (q _ H (Same.refl H) rfl)) (mkXs_cons hS (fun σ H Q o q => w_isG (by rfl) T.m_isinstance (by decide +kernel) (pe_var (by rfl) (by (first | exact Or.inl rfl | exact Or.inr (Or.inl rfl) | exact Or.inr (Or.inr rfl)))) (pe_glob (v := .ref T.n_Busy.C) (by rfl) T.n_Busy.g rfl) (.own _) is (hk _ (List.mem_of_getElem? (i := 27) rfl)) o.1 o.2 (q _ H (Same.refl H) rfl)) mkXs_nil)))
    (ls_add hS hO sc_law_flags.nd (by rfl) (by (first | exact Or.inl rfl | exact Or.inr rfl)) (pe_var (by rfl) (by (first | exact Or.inl rfl | exact Or.inr (Or.inl rfl) | exact Or.inr (Or.inr rfl)))) (Nat.le_of_ble_eq_true rfl) (mkXs_cons hS (fun σ H Q o q => w_isG (by rfl) T.m_isinstance (by decide +kernel) (pe_var (by rfl) (by (first | exact Or.inl rfl | exact Or.inr (Or.inl rfl) | exact Or.inr (Or.inr rfl)))) (pe_glob (v := .ref T.e_BadExpression.C) (by rfl) T.e_BadExpression.g rfl) (.own _) is (hk _ (List.mem_of_getElem? (i := 28) rfl)) o.1 o.2 (q _ H (Same.refl H) rfl)) (mkXs_cons hS (fun σ H Q o q => w_isG (by rfl) T.m_isinstance (by decide +kernel) (pe_var (by rfl) (by (first | exact Or.inl rfl | exact Or.inr (Or.inl rfl) | exact Or.inr (Or.inr rfl)))) (pe_glob (v := .ref T.e_Incomplete.C) (by rfl) T.e_Incomplete.g rfl) (.own _) is (hk _ (List.mem_of_getElem? (i := 29) rfl)) o.1 o.2 (q _ H (Same.refl H) rfl)) (mkXs_cons hS (fun σ H Q o q => w_isG (by rfl) T.m_isinstance (by decide +kernel) (pe_var (by rfl) (by (first | exact Or.inl rfl | exact Or.inr (Or.inl rfl) | exact Or.inr (Or.inr rfl)))) (pe_glob (v := .ref T.e_BadText.C) (by rfl) T.e_BadText.g rfl) (.own _) is (hk _ (List.mem_of_getElem? (i := 30) rfl)) o.1 o.2 (q _ H (Same.refl H) rfl)) mkXs_nil)))
    (ls_add hS hO sc_law_flags.nd (by rfl) (by (first | exact Or.inl rfl | exact Or.inr rfl)) (pe_var (by rfl) (by (first | exact Or.inl rfl | exact Or.inr (Or.inl rfl) | exact Or.inr (Or.inr rfl)))) (Nat.le_of_ble_eq_true rfl) (mkXs_cons hS (fun σ H Q o q => w_isG (by rfl) T.m_isinstance (by decide +kernel) (pe_var (by rfl) (by (first | exact Or.inl rfl | exact Or.inr (Or.inl rfl) | exact Or.inr (Or.inr rfl)))) (pe_glob (v := .ref T.e_NoPlace.C) (by rfl) T.e_NoPlace.g rfl) (.own _) is (hk _ (List.mem_of_getElem? (i := 31) rfl)) o.1 o.2 (q _ H (Same.refl H) rfl)) (mkXs_cons hS (fun σ H Q o q => w_isG (by rfl) T.m_isinstance (by decide +kernel) (pe_var (by rfl) (by (first | exact Or.inl rfl | exact Or.inr (Or.inl rfl) | exact Or.inr (Or.inr rfl)))) (pe_glob (v := .ref T.e_NoMaker.C) (by rfl) T.e_NoMaker.g rfl) (.own _) is (hk _ (List.mem_of_getElem? (i := 32) rfl)) o.1 o.2 (q _ H (Same.refl H) rfl)) (mkXs_cons hS (fun σ H Q o q => w_isG (by rfl) T.m_isinstance (by decide +kernel) (pe_var (by rfl) (by (first | exact Or.inl rfl | exact Or.inr (Or.inl rfl) | exact Or.inr (Or.inr rfl)))) (pe_glob (v := .ref T.e_NoIndex.C) (by rfl) T.e_NoIndex.g rfl) (.own _) is (hk _ (List.mem_of_getElem? (i := 33) rfl)) o.1 o.2 (q _ H (Same.refl H) rfl)) (mkXs_cons hS (fun σ H Q o q => w_isG (by rfl) T.m_isinstance (by decide +kernel) (pe_var (by rfl) (by (first | exact Or.inl rfl | exact Or.inr (Or.inl rfl) | exact Or.inr (Or.inr rfl)))) (pe_glob (v := .ref T.e_NoRow.C) (by rfl) T.e_NoRow.g rfl) (.own _) is (hk _ (List.mem_of_getElem? (i := 34) rfl)) o.1 o.2 (q _ H (Same.refl H) rfl)) mkXs_nil))))
    (ls_add hS hO sc_law_flags.nd (by rfl) (by (first | exact Or.inl rfl | exact Or.inr rfl)) (pe_var (by rfl) (by (first | exact Or.inl rfl | exact Or.inr (Or.inl rfl) | exact Or.inr (Or.inr rfl)))) (Nat.le_of_ble_eq_true rfl) (mkXs_cons hS (fun σ H Q o q => w_isG (by rfl) T.m_isinstance (by decide +kernel) (pe_var (by rfl) (by (first | exact Or.inl rfl | exact Or.inr (Or.inl rfl) | exact Or.inr (Or.inr rfl)))) (pe_glob (v := .ref T.e_NoDefinition.C) (by rfl) T.e_NoDefinition.g rfl) (.own _) is (hk _ (List.mem_of_getElem? (i := 35) rfl)) o.1 o.2 (q _ H (Same.refl H) rfl)) (mkXs_cons hS (fun σ H Q o q => w_isG (by rfl) T.m_isinstance (by decide +kernel) (pe_var (by rfl) (by (first | exact Or.inl rfl | exact Or.inr (Or.inl rfl) | exact Or.inr (Or.inr rfl)))) (pe_glob (v := .ref T.e_NoWord.C) (by rfl) T.e_NoWord.g rfl) (.own _) is (hk _ (List.mem_of_getElem? (i := 36) rfl)) o.1 o.2 (q _ H (Same.refl H) rfl)) (mkXs_cons hS (fun σ H Q o q => w_isG (by rfl) T.m_isinstance (by decide +kernel) (pe_var (by rfl) (by (first | exact Or.inl rfl | exact Or.inr (Or.inl rfl) | exact Or.inr (Or.inr rfl)))) (pe_glob (v := .ref T.e_NoVersion.C) (by rfl) T.e_NoVersion.g rfl) (.own _) is (hk _ (List.mem_of_getElem? (i := 37) rfl)) o.1 o.2 (q _ H (Same.refl H) rfl)) mkXs_nil)))
    (ls_ret (pe_var (by rfl) (by (first | exact Or.inl rfl | exact Or.inr (Or.inl rfl) | exact Or.inr (Or.inr rfl))))))))))))))))) _ _ _ ⟨rfl, ea⟩ (Nat.le_of_ble_eq_true rfl) fun L us H' a b c => q L us H' a b c
end
end K84
set_option Elab.async false
set_option linter.all false
set_option maxRecDepth 100000
set_option maxHeartbeats 4000000
namespace K84
open PySem PySem.Spec PyProof.Rows L2 Sl
section
variable {P : Program} {w : World} {K : PySem.W.Frag} {mg : Str → Option Value} {base : Heap}
def OV (x : V) (σ : L2.St) (_ : Hp) : Prop := σ[0]? = some (some x)
def VPel (_ : Hp) (v : V) (x : V) : Prop := v = x
def spFields : Sp := fun vs H Q _ => ∃ x, vs = [x] ∧ ∀ L us H', Same H H' → H' L = some (.lst us) → Paired (VPel H') us [x, x, x, x, x, x, x, x, x, x, x, x, x, x, x, x, x, x, x, x, x, x, x, x, x, x, x, x, x] → Q (.ref L) H'
theorem stV {x : V} : Stay (OV x) VPel := ⟨fun _ o => o, fun _ e => e⟩
theorem setV1 {x : V} (σ : L2.St) (H : Hp) (u : Option V) (o : OV x σ H) : OV x (σ.set 1 u) H := by
  show (σ.set 1 u)[0]? = _
  rw [List.getElem?_set_ne (by decide)]
  exact o
theorem ok_fields (T : Ty K mg) : FnX P w K mg base 3 T.law_fields.f T.law_fields.fd ["_law_one_here"] spFields := by
  refine fnX_mk T.law_fields.F sc_law_fields (fun vs H Q E h => by obtain ⟨x, rfl, _⟩ := h; rfl) fun cdv A outer s H vs Q E hgd hr hsp => ⟨_, pss_w, ?_⟩
  obtain ⟨x, rfl, q⟩ := hsp
  have hS : Stay (OV x) VPel := stV
  have hO := setV1 (x := x)
  refine (show LsS _ (OV x) VPel 1 (defBody s_law_fields) [x, x, x, x, x, x, x, x, x, x, x, x, x, x, x, x, x, x, x, x, x, x, x, x, x, x, x, x, x] from ls_set hS hO sc_law_fields.nd (by rfl) (by (first | exact Or.inl rfl | exact Or.inr rfl)) (Nat.le_of_ble_eq_true rfl) (mkXs_cons hS (fun σ H Q o q => kept_fld T.e_BadShape.xf (T.e_BadShape.nf _ List.mem_cons_self) (v := x) rfl (fun R hq => w_mk1 T.e_BadShape (f_BadShape T) hr (by rfl) (pe_var (by rfl) (by (first | exact Or.inl rfl | exact Or.inr (Or.inl rfl) | exact Or.inr (Or.inr rfl)))) o hq) fun H' k => q _ H' k rfl) (mkXs_cons hS (fun σ H Q o q => kept_fld T.e_BadCount.xf (T.e_BadCount.nf _ List.mem_cons_self) (v := x) rfl (fun R hq => w_mk1 T.e_BadCount (f_BadCount T) hr (by rfl) (pe_var (by rfl) (by (first | exact Or.inl rfl | exact Or.inr (Or.inl rfl) | exact Or.inr (Or.inr rfl)))) o hq) fun H' k => q _ H' k rfl) (mkXs_cons hS (fun σ H Q o q => kept_fld T.e_TooMany.xf (T.e_TooMany.nf _ List.mem_cons_self) (v := x) rfl (fun R hq => w_mk1 T.e_TooMany (f_TooMany T) hr (by rfl) (pe_var (by rfl) (by (first | exact Or.inl rfl | exact Or.inr (Or.inl rfl) | exact Or.inr (Or.inr rfl)))) o hq) fun H' k => q _ H' k rfl) (mkXs_cons hS (fun σ H Q o q => kept_fld T.e_TooLarge.xf (T.e_TooLarge.nf _ List.mem_cons_self) (v := x) rfl (fun R hq => w_mk1 T.e_TooLarge (f_TooLarge T) hr (by rfl) (pe_var (by rfl) (by (first | exact Or.inl rfl | exact Or.inr (Or.inl rfl) | exact Or.inr (Or.inr rfl)))) o hq) fun H' k => q _ H' k rfl) mkXs_nil))))
    (ls_add hS hO sc_law_fields.nd (by rfl) (by (first | exact Or.inl rfl | exact Or.inr rfl)) (pe_var (by rfl) (by (first | exact Or.inl rfl | exact Or.inr (Or.inl rfl) | exact Or.inr (Or.inr rfl)))) (Nat.le_of_ble_eq_true rfl) (mkXs_cons hS (fun σ H Q o q => kept_fld T.e_Clash.xf (T.e_Clash.nf _ List.mem_cons_self) (v := x) rfl (fun R hq => w_mk1 T.e_Clash (f_Clash T) hr (by rfl) (pe_var (by rfl) (by (first | exact Or.inl rfl | exact Or.inr (Or.inl rfl) | exact Or.inr (Or.inr rfl)))) o hq) fun H' k => q _ H' k rfl) (mkXs_cons hS (fun σ H Q o q => kept_fld T.e_BadChain.xf (T.e_BadChain.nf _ List.mem_cons_self) (v := x) rfl (fun R hq => w_mk1 T.e_BadChain (f_BadChain T) hr (by rfl) (pe_var (by rfl) (by (first | exact Or.inl rfl | exact Or.inr (Or.inl rfl) | exact Or.inr (Or.inr rfl)))) o hq) fun H' k => q _ H' k rfl) (mkXs_cons hS (fun σ H Q o q => kept_fld T.e_BadValue.xf (T.e_BadValue.nf _ List.mem_cons_self) (v := x) rfl (fun R hq => w_mk1 T.e_BadValue (f_BadValue T) hr (by rfl) (pe_var (by rfl) (by (first | exact Or.inl rfl | exact Or.inr (Or.inl rfl) | exact Or.inr (Or.inr rfl)))) o hq) fun H' k => q _ H' k rfl) (mkXs_cons hS (fun σ H Q o q => kept_fld T.e_BadForm.xf (T.e_BadForm.nf _ List.mem_cons_self) (v := x) rfl (fun R hq => w_mk1 T.e_BadForm (f_BadForm T) hr (by rfl) (pe_var (by rfl) (by (first | exact Or.inl rfl | exact Or.inr (Or.inl rfl) | exact Or.inr (Or.inr rfl)))) o hq) fun H' k => q _ H' k rfl) mkXs_nil))))
    (ls_add hS hO sc_law_fields.nd (by rfl) (by (first | exact Or.inl rfl | exact Or.inr rfl)) (pe_var (by rfl) (by (first | exact Or.inl rfl | exact Or.inr (Or.inl rfl) | exact Or.inr (Or.inr rfl)))) (Nat.le_of_ble_eq_true rfl) (mkXs_cons hS (fun σ H Q o q => kept_fld T.e_BadSize.xf (T.e_BadSize.nf _ List.mem_cons_self) (v := x) rfl (fun R hq => w_mk1 T.e_BadSize (f_BadSize T) hr (by rfl) (pe_var (by rfl) (by (first | exact Or.inl rfl | exact Or.inr (Or.inl rfl) | exact Or.inr (Or.inr rfl)))) o hq) fun H' k => q _ H' k rfl) (mkXs_cons hS (fun σ H Q o q => kept_fld T.e_NoValue.xf (T.e_NoValue.nf _ List.mem_cons_self) (v := x) rfl (fun R hq => w_mk1 T.e_NoValue (f_NoValue T) hr (by rfl) (pe_var (by rfl) (by (first | exact Or.inl rfl | exact Or.inr (Or.inl rfl) | exact Or.inr (Or.inr rfl)))) o hq) fun H' k => q _ H' k rfl) (mkXs_cons hS (fun σ H Q o q => kept_fld T.e_NotMet.xf (T.e_NotMet.nf _ List.mem_cons_self) (v := x) rfl (fun R hq => w_mk1 T.e_NotMet (f_NotMet T) hr (by rfl) (pe_var (by rfl) (by (first | exact Or.inl rfl | exact Or.inr (Or.inl rfl) | exact Or.inr (Or.inr rfl)))) o hq) fun H' k => q _ H' k rfl) (mkXs_cons hS (fun σ H Q o q => kept_fld T.e_Idle.xf (T.e_Idle.nf _ List.mem_cons_self) (v := x) rfl (fun R hq => w_mk1 T.e_Idle (f_Idle T) hr (by rfl) (pe_var (by rfl) (by (first | exact Or.inl rfl | exact Or.inr (Or.inl rfl) | exact Or.inr (Or.inr rfl)))) o hq) fun H' k => q _ H' k rfl) mkXs_nil))))
    (ls_add hS hO sc_law_fields.nd (by rfl) (by (first | exact Or.inl rfl | exact Or.inr rfl)) (pe_var (by rfl) (by (first | exact Or.inl rfl | exact Or.inr (Or.inl rfl) | exact Or.inr (Or.inr rfl)))) (Nat.le_of_ble_eq_true rfl) (mkXs_cons hS (fun σ H Q o q => kept_fld T.e_BadRows.xf (T.e_BadRows.nf _ List.mem_cons_self) (v := x) rfl (fun R hq => w_mk1 T.e_BadRows (f_BadRows T) hr (by rfl) (pe_var (by rfl) (by (first | exact Or.inl rfl | exact Or.inr (Or.inl rfl) | exact Or.inr (Or.inr rfl)))) o hq) fun H' k => q _ H' k rfl) (mkXs_cons hS (fun σ H Q o q => kept_fld T.e_BadBook.xf (T.e_BadBook.nf _ List.mem_cons_self) (v := x) rfl (fun R hq => w_mk1 T.e_BadBook (f_BadBook T) hr (by rfl) (pe_var (by rfl) (by (first | exact Or.inl rfl | exact Or.inr (Or.inl rfl) | exact Or.inr (Or.inr rfl)))) o hq) fun H' k => q _ H' k rfl) (mkXs_cons hS (fun σ H Q o q => kept_fld T.e_HasHole.xf (T.e_HasHole.nf _ List.mem_cons_self) (v := x) rfl (fun R hq => w_mk1 T.e_HasHole (f_HasHole T) hr (by rfl) (pe_var (by rfl) (by (first | exact Or.inl rfl | exact Or.inr (Or.inl rfl) | exact Or.inr (Or.inr rfl)))) o hq) fun H' k => q _ H' k rfl) (mkXs_cons hS (fun σ H Q o q => kept_fld T.e_NotPlain.xf (T.e_NotPlain.nf _ List.mem_cons_self) (v := x) rfl (fun R hq => w_mk1 T.e_NotPlain (f_NotPlain T) hr (by rfl) (pe_var (by rfl) (by (first | exact Or.inl rfl | exact Or.inr (Or.inl rfl) | exact Or.inr (Or.inr rfl)))) o hq) fun H' k => q _ H' k rfl) mkXs_nil))))
    (ls_add hS hO sc_law_fields.nd (by rfl) (by (first | exact Or.inl rfl | exact Or.inr rfl)) (pe_var (by rfl) (by (first | exact Or.inl rfl | exact Or.inr (Or.inl rfl) | exact Or.inr (Or.inr rfl)))) (Nat.le_of_ble_eq_true rfl) (mkXs_cons hS (fun σ H Q o q => kept_fld T.e_BadDatas.xf (T.e_BadDatas.nf _ List.mem_cons_self) (v := x) rfl (fun R hq => w_mk1 T.e_BadDatas (f_BadDatas T) hr (by rfl) (pe_var (by rfl) (by (first | exact Or.inl rfl | exact Or.inr (Or.inl rfl) | exact Or.inr (Or.inr rfl)))) o hq) fun H' k => q _ H' k rfl) (mkXs_cons hS (fun σ H Q o q => kept_fld T.e_Used.xf (T.e_Used.nf _ List.mem_cons_self) (v := x) rfl (fun R hq => w_mk1 T.e_Used (f_Used T) hr (by rfl) (pe_var (by rfl) (by (first | exact Or.inl rfl | exact Or.inr (Or.inl rfl) | exact Or.inr (Or.inr rfl)))) o hq) fun H' k => q _ H' k rfl) (mkXs_cons hS (fun σ H Q o q => kept_fld T.e_BadEdit.xf (T.e_BadEdit.nf _ List.mem_cons_self) (v := x) rfl (fun R hq => w_mk1 T.e_BadEdit (f_BadEdit T) hr (by rfl) (pe_var (by rfl) (by (first | exact Or.inl rfl | exact Or.inr (Or.inl rfl) | exact Or.inr (Or.inr rfl)))) o hq) fun H' k => q _ H' k rfl) (mkXs_cons hS (fun σ H Q o q => kept_fld T.e_Rejected.xf (T.e_Rejected.nf _ List.mem_cons_self) (v := x) rfl (fun R hq => w_mk1 T.e_Rejected (f_Rejected T) hr (by rfl) (pe_var (by rfl) (by (first | exact Or.inl rfl | exact Or.inr (Or.inl rfl) | exact Or.inr (Or.inr rfl)))) o hq) fun H' k => q _ H' k rfl) mkXs_nil))))
    (ls_add hS hO sc_law_fields.nd (by rfl) (by (first | exact Or.inl rfl | exact Or.inr rfl)) (pe_var (by rfl) (by (first | exact Or.inl rfl | exact Or.inr (Or.inl rfl) | exact Or.inr (Or.inr rfl)))) (Nat.le_of_ble_eq_true rfl) (mkXs_cons hS (fun σ H Q o q => kept_fld T.e_BadExpression.xf (T.e_BadExpression.nf _ List.mem_cons_self) (v := x) rfl (fun R hq => w_mk1 T.e_BadExpression (f_BadExpression T) hr (by rfl) (pe_var (by rfl) (by (first | exact Or.inl rfl | exact Or.inr (Or.inl rfl) | exact Or.inr (Or.inr rfl)))) o hq) fun H' k => q _ H' k rfl) (mkXs_cons hS (fun σ H Q o q => kept_fld T.e_BadText.xf (T.e_BadText.nf _ List.mem_cons_self) (v := x) rfl (fun R hq => w_mk1 T.e_BadText (f_BadText T) hr (by rfl) (pe_var (by rfl) (by (first | exact Or.inl rfl | exact Or.inr (Or.inl rfl) | exact Or.inr (Or.inr rfl)))) o hq) fun H' k => q _ H' k rfl) (mkXs_cons hS (fun σ H Q o q => kept_fld T.e_NoPlace.xf (T.e_NoPlace.nf _ List.mem_cons_self) (v := x) rfl (fun R hq => w_mk1 T.e_NoPlace (f_NoPlace T) hr (by rfl) (pe_var (by rfl) (by (first | exact Or.inl rfl | exact Or.inr (Or.inl rfl) | exact Or.inr (Or.inr rfl)))) o hq) fun H' k => q _ H' k rfl) (mkXs_cons hS (fun σ H Q o q => kept_fld T.e_NoMaker.xf (T.e_NoMaker.nf _ List.mem_cons_self) (v := x) rfl (fun R hq => w_mk1 T.e_NoMaker (f_NoMaker T) hr (by rfl) (pe_var (by rfl) (by (first | exact Or.inl rfl | exact Or.inr (Or.inl rfl) | exact Or.inr (Or.inr rfl)))) o hq) fun H' k => q _ H' k rfl) mkXs_nil))))
    (ls_add hS hO sc_law_fields.nd (by rfl) (by (first | exact Or.inl rfl | exact Or.inr rfl)) (pe_var (by rfl) (by (first | exact Or.inl rfl | exact Or.inr (Or.inl rfl) | exact Or.inr (Or.inr rfl)))) (Nat.le_of_ble_eq_true rfl) (mkXs_cons hS (fun σ H Q o q => kept_fld T.e_NoIndex.xf (T.e_NoIndex.nf _ List.mem_cons_self) (v := x) rfl (fun R hq => w_mk1 T.e_NoIndex (f_NoIndex T) hr (by rfl) (pe_var (by rfl) (by (first | exact Or.inl rfl | exact Or.inr (Or.inl rfl) | exact Or.inr (Or.inr rfl)))) o hq) fun H' k => q _ H' k rfl) (mkXs_cons hS (fun σ H Q o q => kept_fld T.e_NoRow.xf (T.e_NoRow.nf _ List.mem_cons_self) (v := x) rfl (fun R hq => w_mk1 T.e_NoRow (f_NoRow T) hr (by rfl) (pe_var (by rfl) (by (first | exact Or.inl rfl | exact Or.inr (Or.inl rfl) | exact Or.inr (Or.inr rfl)))) o hq) fun H' k => q _ H' k rfl) (mkXs_cons hS (fun σ H Q o q => kept_fld T.e_NoDefinition.xf (T.e_NoDefinition.nf _ List.mem_cons_self) (v := x) rfl (fun R hq => w_mk1 T.e_NoDefinition (f_NoDefinition T) hr (by rfl) (pe_var (by rfl) (by (first | exact Or.inl rfl | exact Or.inr (Or.inl rfl) | exact Or.inr (Or.inr rfl)))) o hq) fun H' k => q _ H' k rfl) (mkXs_cons hS (fun σ H Q o q => kept_fld T.e_NoWord.xf (T.e_NoWord.nf _ List.mem_cons_self) (v := x) rfl (fun R hq => w_mk1 T.e_NoWord (f_NoWord T) hr (by rfl) (pe_var (by rfl) (by (first | exact Or.inl rfl | exact Or.inr (Or.inl rfl) | exact Or.inr (Or.inr rfl)))) o hq) fun H' k => q _ H' k rfl) mkXs_nil))))
    (ls_add hS hO sc_law_fields.nd (by rfl) (by (first | exact Or.inl rfl | exact Or.inr rfl)) (pe_var (by rfl) (by (first | exact Or.inl rfl | exact Or.inr (Or.inl rfl) | exact Or.inr (Or.inr rfl)))) (Nat.le_of_ble_eq_true rfl) (mkXs_cons hS (fun σ H Q o q => kept_fld T.e_NoVersion.xf (T.e_NoVersion.nf _ List.mem_cons_self) (v := x) rfl (fun R hq => w_mk1 T.e_NoVersion (f_NoVersion T) hr (by rfl) (pe_var (by rfl) (by (first | exact Or.inl rfl | exact Or.inr (Or.inl rfl) | exact Or.inr (Or.inr rfl)))) o hq) fun H' k => q _ H' k rfl) mkXs_nil)
    (ls_ret (pe_var (by rfl) (by (first | exact Or.inl rfl | exact Or.inr (Or.inl rfl) | exact Or.inr (Or.inr rfl))))))))))))) _ _ _ rfl (Nat.le_of_ble_eq_true rfl) fun L us H' a b c => q L us H' a b c
end
end K84
set_option Elab.async false
set_option linter.all false
set_option maxRecDepth 100000
set_option maxHeartbeats 4000000
namespace K84
open PySem PySem.Spec PyProof.Rows L2 Sl
section
variable {P : Program} {w : World} {K : PySem.W.Frag} {mg : Str → Option Value} {base : Heap}
def spMore : Sp := fun vs H Q _ => ∃ x y z, vs = [x, y, z] ∧ ∀ L H', Same H H' → H' L = some (.lst [x, y, x, y, z]) → Q (.ref L) H'
theorem ok_more (T : Ty K mg) : FnX P w K mg base 3 T.law_more_fields.f T.law_more_fields.fd ["_law_one_here", "_law_other", "_law_third"] spMore := by
  refine fnX_mk T.law_more_fields.F sc_law_more_fields (fun vs H Q E h => by obtain ⟨x, y, z, rfl, _⟩ := h; rfl) fun cdv A outer s H vs Q E hgd hr hsp => ?_
  obtain ⟨x, y, z, rfl, q⟩ := hsp
  refine ⟨_, pss_cons (ps_par (i := 3) (j := 4) (by rfl) sc_law_more_fields.nd (by rfl) (by rfl) (by decide) (by rfl) (by rfl) (pa_cons pe_w (pa_cons pe_w pa_nil)) (by rfl))
    (pss_one (ps_ret (pe_lst (pa_cons (pe_gf (pe_var (i := 3) (by rfl) (by (first | exact Or.inl rfl | exact Or.inr (Or.inl rfl) | exact Or.inr (Or.inr rfl))))) (pa_cons (pe_gf (pe_var (i := 3) (by rfl) (by (first | exact Or.inl rfl | exact Or.inr (Or.inl rfl) | exact Or.inr (Or.inr rfl))))) (pa_cons (pe_gf (pe_var (i := 4) (by rfl) (by (first | exact Or.inl rfl | exact Or.inr (Or.inl rfl) | exact Or.inr (Or.inr rfl))))) (pa_cons (pe_gf (pe_var (i := 4) (by rfl) (by (first | exact Or.inl rfl | exact Or.inr (Or.inl rfl) | exact Or.inr (Or.inr rfl))))) (pa_cons (pe_gf (pe_var (i := 4) (by rfl) (by (first | exact Or.inl rfl | exact Or.inr (Or.inl rfl) | exact Or.inr (Or.inr rfl))))) pa_nil)))))))), ?_⟩
  refine w_mk2 T.e_Refused (f_Refused T) hr (by rfl) (pe_var (i := 0) (by rfl) (by (first | exact Or.inl rfl | exact Or.inr (Or.inl rfl) | exact Or.inr (Or.inr rfl)))) (pe_var (i := 1) (by rfl) (by (first | exact Or.inl rfl | exact Or.inr (Or.inl rfl) | exact Or.inr (Or.inr rfl)))) rfl rfl fun a dx ha hd ne => ?_
  refine w_mk3 T.e_Incomplete (f_Incomplete T) hr (by rfl) (pe_var (i := 0) (by rfl) (by (first | exact Or.inl rfl | exact Or.inr (Or.inl rfl) | exact Or.inr (Or.inr rfl)))) (pe_var (i := 1) (by rfl) (by (first | exact Or.inl rfl | exact Or.inr (Or.inl rfl) | exact Or.inr (Or.inr rfl)))) (pe_var (i := 2) (by rfl) (by (first | exact Or.inl rfl | exact Or.inr (Or.inl rfl) | exact Or.inr (Or.inr rfl)))) rfl rfl rfl fun b dy hb he nf => ?_
  have k1 := same_err (o := exd dx [("verdict", y), ("index", x)]) (u := exo a T.e_Refused.C (some dx)) ha hd
  have k2 := same_err (o := exd dy [("outline", z), ("place", y), ("word", x)]) (u := exo b T.e_Incomplete.C (some dy)) hb he
  have ea := k2 a (exo a T.e_Refused.C (some dx)) upd_same
  have ed := k2 dx (exd dx [("verdict", y), ("index", x)]) (by rw [upd_ne ne, upd_same])
  refine ⟨_, _, rfl, ?_⟩
  refine ⟨_, rfl, a, T.e_Refused.C, dx, _, x, rfl, T.e_Refused.xf, T.e_Refused.nf _ (List.mem_of_getElem? (i := 0) rfl), ea, ed, rfl, ?_⟩
  refine ⟨_, rfl, a, T.e_Refused.C, dx, _, y, rfl, T.e_Refused.xf, T.e_Refused.nf _ (List.mem_of_getElem? (i := 1) rfl), ea, ed, rfl, ?_⟩
  have fa : (upd (upd (upd (upd H dx (exd dx [("verdict", y), ("index", x)])) a (exo a T.e_Refused.C (some dx))) dy (exd dy [("outline", z), ("place", y), ("word", x)])) b (exo b T.e_Incomplete.C (some dy))) b = some (exo b T.e_Incomplete.C (some dy)) := upd_same
  have fd : (upd (upd (upd (upd H dx (exd dx [("verdict", y), ("index", x)])) a (exo a T.e_Refused.C (some dx))) dy (exd dy [("outline", z), ("place", y), ("word", x)])) b (exo b T.e_Incomplete.C (some dy))) dy = some (exd dy [("outline", z), ("place", y), ("word", x)]) := by rw [upd_ne nf, upd_same]
  refine ⟨_, rfl, b, T.e_Incomplete.C, dy, _, x, rfl, T.e_Incomplete.xf, T.e_Incomplete.nf _ (List.mem_of_getElem? (i := 0) rfl), fa, fd, rfl, ?_⟩
  refine ⟨_, rfl, b, T.e_Incomplete.C, dy, _, y, rfl, T.e_Incomplete.xf, T.e_Incomplete.nf _ (List.mem_of_getElem? (i := 1) rfl), fa, fd, rfl, ?_⟩
  refine ⟨_, rfl, b, T.e_Incomplete.C, dy, _, z, rfl, T.e_Incomplete.xf, T.e_Incomplete.nf _ (List.mem_of_getElem? (i := 2) rfl), fa, fd, rfl, ?_⟩
  refine ⟨by show 5 ≤ sizeLine; rw [sizeLine_eq]; decide, fun l hl => q l _ ((k1.trans k2).trans (same_upd hl)) upd_same⟩
end
end K84
set_option Elab.async false
set_option linter.all false
set_option maxRecDepth 100000
set_option maxHeartbeats 4000000
namespace K84
open PySem PySem.Spec PyProof.Rows L2 Sl
abbrev S0 : Addr → Prop := fun _ => False
def as7 : List (Option Addr) := List.replicate 7 none
theorem as7_no {a : Addr} : some a ∉ as7 := fun h => by simp [as7] at h
def envR (d1 d2 d3 : D) (x3 x4 x5 : SV) : JEnv := [.dat d1, .dat d2, .dat d3, x3, x4, x5, .no]
theorem so0 {H : Hp} {v : V} {d : D} (h : Da S0 H v d) : Da (So S0 as7) H v d := h.less fun a m => m.elim id fun m => as7_no m
theorem vl_of {σ : L2.St} {i : Nat} {v : V} (h : σ[i]? = some (some v)) : vl σ i = some v := by
  unfold vl
  rw [h]
  rfl
theorem same7 {H H' : Hp} {as' : List (Option Addr)} (x : ExtS S0 as7 H as' H') : Same H H' := fun a o e => x.kp a o as7_no e
section
variable {σ : L2.St} {H : Hp} {x y z : V} {d1 d2 d3 : D} {k : Int} {a : Addr} {x5 : SV}
theorem rel7 (hl : σ.length = 7) (a1 : σ[0]? = some (some x)) (a2 : σ[1]? = some (some y)) (a3 : σ[2]? = some (some z)) (D1 : Da S0 H x d1) (D2 : Da S0 H y d2) (D3 : Da S0 H z d3) {x3 x4 : SV} (h3 : SlotOk S0 as7 σ H 3 none x3) (h4 : SlotOk S0 as7 σ H 4 none x4) (h5 : SlotOk S0 as7 σ H 5 none x5) :
    Rel S0 (envR d1 d2 d3 x3 x4 x5) as7 σ H := by
  refine ⟨rfl, hl, fun i w e => ?_, fun i j a h => ?_, fun a h => h.elim⟩
  · match i, e with
    | 0, e => cases e; exact ⟨none, rfl, rfl, x, vl_of a1, so0 D1⟩
    | 1, e => cases e; exact ⟨none, rfl, rfl, y, vl_of a2, so0 D2⟩
    | 2, e => cases e; exact ⟨none, rfl, rfl, z, vl_of a3, so0 D3⟩
    | 3, e => cases e; exact ⟨none, rfl, h3⟩
    | 4, e => cases e; exact ⟨none, rfl, h4⟩
    | 5, e => cases e; exact ⟨none, rfl, h5⟩
    | 6, e => cases e; exact ⟨none, rfl, rfl⟩
    | n + 7, e => cases e
  · exact absurd (List.mem_of_getElem? h) as7_no
end
theorem je_run {X : Cx} {W : L2.WX} {e : Expr} {fe : Mo AV} {S : Addr → Prop} {env e' : JEnv} {as : List (Option Addr)} {σ : L2.St} {H : Hp} {Q : VK} {a : AV} (h : JE X W e fe) (R : Rel S env as σ H) (hf : fe env = some (.ok a e')) (q : ∀ as' H' τ' v, Rel S e' as' (σ ++ τ') H' → ExtS S as H as' H' → VA S as' H' (σ ++ τ') v a → Q v H') : wE X e σ H Q := by
  have R0 : Rel S env as (σ ++ []) H := by rw [List.append_nil]; exact R
  exact h S env as σ [] H Q R0 _ hf (fun k e' er => nomatch er) fun a' e2 er as' H' τ' v R' E' p V => by cases er; exact q as' H' τ' v R' E' V
theorem jt_run {X : Cx} {W : L2.WX} {e : Expr} {ft : Mo Bool} {S : Addr → Prop} {env e' : JEnv} {as : List (Option Addr)} {σ : L2.St} {H : Hp} {Q : Bool → Hp → Prop} {b : Bool} (h : JT X W e ft) (R : Rel S env as σ H) (hf : ft env = some (.ok b e')) (q : ∀ as' H' τ', Rel S e' as' (σ ++ τ') H' → ExtS S as H as' H' → Q b H') : wT X e σ H Q := by
  have R0 : Rel S env as (σ ++ []) H := by rw [List.append_nil]; exact R
  exact h S env as σ [] H Q R0 _ hf (fun k e' er => nomatch er) fun a' e2 er as' H' τ' v R' E' p V => by cases er; cases V; exact q as' H' τ' R' E'
/-! ### what the loop's test gives, by plain functions -/
theorem oEq_int (i j : Int) : oEq (.int i) (.int j) = some (.dat (.bool (decide (i = j)))) := by
  have h : eqOk (.int i) (.int j) = true := by simp [eqOk, PyData.canLay0, PyData.depth]
  unfold oEq
  rw [if_pos h]
  have e : (i == j) = decide (i = j) := rfl
  simp [iB, PyData.eqv, e]
def env8 (c d1 d2 d3 : D) (k : Int) (a : Addr) (x6 : SV) (acc : List D) : JEnv := [.dat d1, .dat d2, .dat d3, .dat (.int k), .raw (.ref a), .dat c, x6, .own (.list acc)]
theorem row_step {c d1 d2 d3 : D} {a : Addr} {k i : Int} {ds acc : List D} (hl : acc.length < sizeLine) : lcL 7 [6] (gNm 6) tTrue (eBin oEq (eVar 6) (eVar 3)) (.int i :: ds) (env8 c d1 d2 d3 k a .no acc) =
    lcL 7 [6] (gNm 6) tTrue (eBin oEq (eVar 6) (eVar 3)) ds (env8 c d1 d2 d3 k a .no (acc ++ [.bool (decide (i = k))])) := by
  have h1 : (eBin oEq (eVar 6) (eVar 3)) (env8 c d1 d2 d3 k a (.dat (.int i)) acc) = some (.ok (.dat (.bool (decide (i = k)))) (env8 c d1 d2 d3 k a (.dat (.int i)) acc)) := by
    show (match oEq (.int i) (.int k) with | some rv => mkR rv (env8 c d1 d2 d3 k a (.dat (.int i)) acc) | none => none) = _
    rw [oEq_int]
    rfl
  conv => lhs; unfold lcL
  have h0 : gNm 6 (.int i) (env8 c d1 d2 d3 k a .no acc) = some (env8 c d1 d2 d3 k a (.dat (.int i)) acc) := rfl
  have h2 : tTrue (env8 c d1 d2 d3 k a (.dat (.int i)) acc) = some (.ok true (env8 c d1 d2 d3 k a (.dat (.int i)) acc)) := rfl
  simp only [h0, h2, h1]
  have h3 : fz (env8 c d1 d2 d3 k a (.dat (.int i)) acc) (.dat (.bool (decide (i = k)))) = some (.bool (decide (i = k)), env8 c d1 d2 d3 k a (.dat (.int i)) acc) := rfl
  have h4 : (env8 c d1 d2 d3 k a (.dat (.int i)) acc)[7]? = some (.own (.list acc)) := rfl
  simp only [h3, h4]
  rw [if_pos hl]
  rfl
theorem row_go {c d1 d2 d3 : D} {a : Addr} {k : Int} : ∀ (is : List Int) (acc : List D), acc.length + is.length < sizeLine → lcL 7 [6] (gNm 6) tTrue (eBin oEq (eVar 6) (eVar 3)) (is.map .int) (env8 c d1 d2 d3 k a .no acc) =
    some (env8 c d1 d2 d3 k a .no (acc ++ is.map fun i => .bool (decide (i = k))))
  | [], acc, _ => by
    rw [List.map_nil, List.map_nil, List.append_nil]
    unfold lcL
    rfl
  | i :: is, acc, h => by
    rw [List.length_cons] at h
    rw [List.map_cons, row_step (by omega), row_go is _ (by rw [List.length_append, List.length_singleton]; omega), List.append_assoc]
    rfl
def rowD (k : Nat) : List D := ((List.range 38).map fun i => (0 : Int) + (i : Nat)).map fun i => .bool (decide (i = (k : Int)))
def ofK (c d1 d2 d3 : D) (k : Nat) (a : Addr) : JEnv := envR d1 d2 d3 (.dat (.int (k : Nat))) (.raw (.ref a)) (.dat c)
theorem row_ok {c d1 d2 d3 : D} {a : Addr} (k : Nat) : (eLc [6] (iR1 (aCons (eC (.int 38)) aNil)) (gNm 6) tTrue (eBin oEq (eVar 6) (eVar 3))) (ofK c d1 d2 d3 k a) = some (.ok (.nam 7) (ofK c d1 d2 d3 k a ++ [.own (.list (rowD k))])) := by
  have h1 : (iR1 (aCons (eC (.int 38)) aNil)) (ofK c d1 d2 d3 k a) = some (.ok (rngD 0 38) (ofK c d1 d2 d3 k a)) := by
    show (if -(2 ^ 62) ≤ (38 : Int) ∧ (38 : Int) < 2 ^ 62 then some (Rs.ok (rngD 0 (38 : Int).toNat) (ofK c d1 d2 d3 k a)) else none) = _
    rw [if_pos (by decide)]
    rfl
  have h2 : rngD 0 38 = ((List.range 38).map fun i => (0 : Int) + (i : Nat)).map PyData.int := by
    unfold rngD
    rw [List.map_map]
    rfl
  unfold eLc bnd
  simp only [h1, h2]
  have h3 : [6].all (plainE (ofK c d1 d2 d3 k a)) = true := rfl
  rw [if_pos h3]
  have h4 : wipeE [6] (ofK c d1 d2 d3 k a) ++ [SV.own (.list [])] = env8 c d1 d2 d3 k a .no [] := rfl
  have h5 : (ofK c d1 d2 d3 k a).length = 7 := rfl
  rw [h4, h5, row_go _ _ (by rw [sizeLine_eq]; simp)]
  rfl
def basesD (k : Nat) : D := .tuple [.bool (decide (k < 31)), .bool (decide (k < 31)), .bool (decide (30 < k))]
theorem bases_ok {d1 d2 d3 : D} {a : Addr} (k : Nat) : ∃ e, (tBl (eBin oNe (eVar 5) (eFz kTup (aCons (eBin oLt (eVar 3) (eC (.int 31))) (aCons (eBin oLt (eVar 3) (eC (.int 31))) (aCons (eBin oGt (eVar 3) (eC (.int 30))) aNil)))))) (ofK (basesD k) d1 d2 d3 k a) = some (.ok false e) := by
  refine ⟨ofK (basesD k) d1 d2 d3 k a, ?_⟩
  have h : oNe (basesD k) (.tuple [.bool (decide ((k : Int) < 31)), .bool (decide ((k : Int) < 31)), .bool (decide ((k : Int) > 30))]) = some (.dat (.bool false)) := by
    have e1 : decide ((k : Int) < 31) = decide (k < 31) := by congr 1; apply propext; omega
    have e2 : decide ((k : Int) > 30) = decide (30 < k) := by congr 1; apply propext; omega
    rw [e1, e2]
    unfold basesD
    cases decide (k < 31) <;> cases decide (30 < k) <;> rfl
  show tBl (fun e => fin2 oNe (.dat (basesD k)) (.dat (.tuple [.bool (decide ((k : Int) < 31)), .bool (decide ((k : Int) < 31)), .bool (decide ((k : Int) > 30))])) e) (ofK (basesD k) d1 d2 d3 k a) = _
  unfold tBl bnd fin2 lk
  simp only [h]
  rfl
theorem eqv_row : ∀ l : List Bool, PyData.canLayAll0 (l.map PyData.bool) = true ∧ PyData.depthAll (l.map PyData.bool) = 0 := fun l => by
  induction l with
  | nil => exact ⟨rfl, rfl⟩
  | cons b l ih =>
    rw [List.map_cons]
    constructor
    · unfold PyData.canLayAll0
      rw [ih.1]
      rfl
    · unfold PyData.depthAll
      rw [ih.2]
      rfl
theorem eqv_bools : ∀ l : List Bool, PyData.eqvAll (l.map PyData.bool) (l.map PyData.bool) = true := fun l => by
  induction l with
  | nil => rfl
  | cons b l ih =>
    rw [List.map_cons]
    unfold PyData.eqvAll
    rw [ih]
    cases b <;> rfl
theorem ne_bools (l : List Bool) : oNe (.list (l.map PyData.bool)) (.list (l.map PyData.bool)) = some (.dat (.bool false)) := by
  obtain ⟨h1, h2⟩ := eqv_row l
  have h : eqOk (.list (l.map PyData.bool)) (.list (l.map PyData.bool)) = true := by
    unfold eqOk PyData.canLay0 PyData.depth
    rw [h1, h2]
    rfl
  unfold oNe
  rw [if_pos h]
  unfold PyData.eqv iB
  rw [eqv_bools l]
  rfl
/-! ### the table of classes -/
section
variable {K : PySem.W.Frag} {Cs : List Addr} {lang : Addr}
theorem tab_at (h : tabB K Cs lang = true) {k : Nat} {C : Addr} (hk : Cs[k]? = some C) :
    (∀ (i : Nat) (D : Addr), Cs[i]? = some D → PySem.W.kitOne K (.ref C) (.ref D) = some (i == k)) ∧ PySem.W.kitOne K (.ref C) (.ref lang) = some (decide (k < 31)) ∧ PySem.W.kitOne K (.ref C) (.type "ValueError") = some (decide (k < 31)) ∧ PySem.W.kitOne K (.ref C) (.type "LookupError") = some (decide (30 < k)) := by
  unfold tabB at h
  have h1 := List.all_eq_true.mp h (C, k) (List.mk_mem_zipIdx_iff_getElem?.mpr hk)
  simp only [Bool.and_eq_true, beq_iff_eq] at h1
  obtain ⟨⟨⟨h1, h2⟩, h3⟩, h4⟩ := h1
  refine ⟨fun i D hi => ?_, h2, h3, h4⟩
  have h5 := List.all_eq_true.mp h1 (D, i) (List.mk_mem_zipIdx_iff_getElem?.mpr hi)
  exact beq_iff_eq.mp h5
/-- isinstance by the class at C -/
def isB (K : PySem.W.Frag) (C : Addr) (D : Addr) : Bool := PySem.W.kitOne K (.ref C) (.ref D) == some true
theorem isB_row (h : tabB K Cs lang = true) (hl : Cs.length = 38) {k : Nat} {C : Addr} (hk : Cs[k]? = some C) : (∀ D ∈ Cs, PySem.W.kitOne K (.ref C) (.ref D) = some (isB K C D)) ∧ (Cs.map (isB K C)).map PyData.bool = rowD k := by
  obtain ⟨h1, _⟩ := tab_at h hk
  constructor
  · intro D hD
    obtain ⟨i, hi⟩ := List.mem_iff_getElem?.mp hD
    unfold isB
    rw [h1 i D hi]
    cases (i == k) <;> rfl
  · refine List.ext_getElem? fun i => ?_
    unfold rowD
    rw [List.getElem?_map, List.getElem?_map, List.getElem?_map, List.getElem?_map]
    by_cases hi : i < 38
    · have h2 : Cs[i]? = some (Cs[i]'(by omega)) := List.getElem?_eq_getElem _
      rw [h2, List.getElem?_range hi]
      simp only [Option.map_some]
      unfold isB
      rw [h1 i _ h2]
      congr 2
      by_cases e : i = k
      · subst e
        simp
      · have : (i == k) = false := by simpa using e
        rw [this]
        have h3 : ¬ ((0 : Int) + (i : Nat) = (k : Int)) := by omega
        rw [decide_eq_false h3]
        rfl
    · rw [List.getElem?_eq_none (by omega), List.getElem?_eq_none (by simp; omega)]
      rfl
end
theorem listed_of {H : Hp} {us : List V} {bs : List Bool} (h : Paired (BPel H) us bs) : us = bs.map V.bl := by
  induction h with
  | nil => rfl
  | cons a _ ih =>
    rw [List.map_cons, ← ih, a]
theorem da_bools {S : Addr → Prop} {H : Hp} : ∀ bs : List Bool, DaAll S H (bs.map V.bl) (bs.map PyData.bool)
  | [] => .nil
  | b :: bs => .cons (.bl b) (da_bools bs)
end K84
set_option Elab.async false
set_option linter.all false
set_option maxRecDepth 100000
set_option maxHeartbeats 4000000
namespace K84
open PySem PySem.Spec PyProof.Rows L2 Sl
theorem textFrom_le : ∀ (ts : List Str) (k : Nat) (acc : Str), (∀ t ∈ ts, t.length ≤ 100) → (textFrom k acc ts).length ≤ acc.length + 102 * ts.length
  | [], k, acc, _ => Nat.le_refl _
  | t :: ts, k, acc, h => by
    have h1 := h t List.mem_cons_self
    have h2 := textFrom_le ts (k + 1) (acc ++ (if k > 0 then ", " else "" : String) ++ t) fun t ht => h t (List.mem_cons_of_mem _ ht)
    have h3 : (acc ++ (if k > 0 then ", " else "" : String) ++ t).length ≤ acc.length + 2 + t.length := by
      rw [strLen_append, strLen_append]
      split <;> (have : (Str.ofString ", ").length = 2 := rfl; have : (Str.ofString "").length = 0 := rfl; omega)
    rw [List.length_cons]
    show (textFrom (k + 1) (acc ++ (if k > 0 then ", " else "" : String) ++ t) ts).length ≤ _
    omega
def small (d : D) : Bool := d.showable && decide (d.depth ≤ 60) && decide (d.shown.length ≤ 100)
theorem small_all : ∀ ds : List D, (∀ d ∈ ds, small d = true) → ds.length ≤ 100 → PyData.showableAll ds = true ∧ PyData.depthAll ds ≤ 60 ∧ (∀ t ∈ PyData.shownAll ds, t.length ≤ 100)
  | [], _, _ => ⟨rfl, by unfold PyData.depthAll; omega, fun t h => by unfold PyData.shownAll at h; cases h⟩
  | d :: ds, h, hl => by
    have h1 := h d List.mem_cons_self
    unfold small at h1
    rw [Bool.and_eq_true, Bool.and_eq_true] at h1
    obtain ⟨⟨a, b⟩, c⟩ := h1
    rw [List.length_cons] at hl
    obtain ⟨p, q, r⟩ := small_all ds (fun d hd => h d (List.mem_cons_of_mem _ hd)) (by omega)
    refine ⟨?_, ?_, fun t ht => ?_⟩
    · unfold PyData.showableAll
      rw [a, p]
      rfl
    · unfold PyData.depthAll
      have := of_decide_eq_true b
      omega
    · unfold PyData.shownAll at ht
      rcases List.mem_cons.mp ht with rfl | ht
      · exact of_decide_eq_true c
      · exact r t ht
theorem shownAll_len : ∀ ds : List D, (PyData.shownAll ds).length = ds.length
  | [] => rfl
  | d :: ds => by
    unfold PyData.shownAll
    rw [List.length_cons, List.length_cons, shownAll_len ds]
theorem small_text (ds : List D) (h : ∀ d ∈ ds, small d = true) (hl : ds.length ≤ 100) : (listText (PyData.shownAll ds)).length ≤ sizeLine := by
  obtain ⟨_, _, r⟩ := small_all ds h hl
  have h1 := textFrom_le (PyData.shownAll ds) 0 "[" r
  have h2 := shownAll_len ds
  unfold listText
  rw [strLen_append, sizeLine_eq]
  have h3 : (Str.ofString "[").length = 1 := rfl
  have h4 : (Str.ofString "]").length = 1 := rfl
  omega
theorem prd_at {α β : Type} {r : α → β → Prop} {vs : List α} {cs : List β} (h : Paired r vs cs) : ∀ {i : Nat} {v : α}, vs[i]? = some v → ∃ c, cs[i]? = some c ∧ r v c := by
  induction h with
  | nil => intro i v e; simp at e
  | cons a _ ih =>
    intro i v e
    cases i with
    | zero => cases e; exact ⟨_, rfl, a⟩
    | succ i => exact ih e
theorem all_of {H : Hp} {us ws : List V} (h : Paired (VPel H) us ws) : us = ws := by
  induction h with
  | nil => rfl
  | cons a _ ih => rw [ih, show _ = _ from a]
theorem da_rep {S : Addr → Prop} {H : Hp} {v : V} {d : D} (n : Nat) (h : Da S H v d) : DaAll S H (List.replicate n v) (List.replicate n d) := by
  induction n with
  | zero => exact .nil
  | succ n ih => exact .cons h ih
section
variable {P : Program} {w : World} {K : PySem.W.Frag} {mg : Str → Option Value} {base : Heap}
theorem Cs_is (T : Ty K mg) : ∀ C ∈ Cs T, IsG K C := by
  unfold Cs
  simp only [List.forall_mem_cons]
  exact ⟨T.e_BadShape.is, T.e_BadCount.is, T.n_NoMeeting.is, T.n_NoSolution.is, T.e_TooMany.is, T.e_TooLarge.is, T.e_Clash.is, T.e_BadChain.is, T.e_BadValue.is, T.e_BadForm.is, T.e_BadSize.is, T.e_NoValue.is, T.n_HasValues.is, T.e_NotMet.is, T.e_Idle.is, T.e_BadRows.is, T.e_BadBook.is, T.e_HasHole.is, T.e_NotPlain.is, T.e_BadDatas.is, T.e_Used.is, T.e_Refused.is, T.n_TooManyEdits.is, T.n_NothingToUndo.is, T.n_BadEdits.is, T.e_BadEdit.is, T.e_Rejected.is, T.n_Busy.is, T.e_BadExpression.is, T.e_Incomplete.is, T.e_BadText.is, T.e_NoPlace.is, T.e_NoMaker.is, T.e_NoIndex.is, T.e_NoRow.is, T.e_NoDefinition.is, T.e_NoWord.is, T.e_NoVersion.is, fun _ h => nomatch h⟩
def spRight : Sp := fun vs H Q _ => ∃ x y z d1 d2 d3, vs = [x, y, z] ∧ Da S0 H x d1 ∧ Da S0 H y d2 ∧ Da S0 H z d3 ∧ small d1 = true ∧ small d2 = true ∧ small d3 = true ∧ ∀ H', Same H H' → Q (.bl true) H'
theorem ok_right (T : Ty K mg) : FnX P w K mg base 62 T.law_right.f T.law_right.fd ["_law_one_here", "_law_other", "_law_third"] spRight := by
  refine fnX_mk T.law_right.F sc_law_right (fun vs H Q E h => by obtain ⟨x, y, z, _, _, _, rfl, _⟩ := h; rfl) fun cdv A outer s H vs Q E hgd hr hsp => ?_
  have tk := takes_of (E := E) (X := cxOf (L2.CX P w) P w K mg base ["_law_one_here", "_law_other", "_law_third", "_law_k", "_law_error", "_law_bases", "_law_spot"] "_law_right" (defScope s_law_right) T.law_right.f cdv A outer s H E) rfl rfl rfl rfl
  have hu := hu1010 (k := 0) (hr.mono (by omega))
  obtain ⟨x, y, z, d1, d2, d3, rfl, D1, D2, D3, m1, m2, m3, q⟩ := hsp
  refine ⟨_, pss_cons (ps_for PassesOwn.leaving rfl (pi_enum (by rfl) T.m_enumerate (pa_cons pe_w pa_nil)) (pg_tup rfl (pgs_cons (pg_name (i := 3) sc_law_right.nd rfl (by (first | exact Or.inl rfl | exact Or.inr rfl))) (pgs_cons (pg_name (i := 4) sc_law_right.nd rfl (by (first | exact Or.inl rfl | exact Or.inr rfl))) pgs_nil))) pss_w)
    (pss_cons (ps_if (pt_cmpR op_ne (pe_callB (call_reprL hgd hu) (by rfl) T.m_repr (by decide +kernel) (pa_cons pe_w pa_nil)) (pe_callB (call_reprL hgd hu) (by rfl) T.m_repr (by decide +kernel) (pa_cons (pe_op op_rep (pe_lst (pa_cons (pe_var (i := 0) (by rfl) (by (first | exact Or.inl rfl | exact Or.inr (Or.inl rfl) | exact Or.inr (Or.inr rfl)))) pa_nil)) pe_int) pa_nil)) (by rfl)) pss_w pss_nil)
      (pss_one (ps_ret (pe_cmpR op_eq (pe_callB (call_reprL hgd hu) (by rfl) T.m_repr (by decide +kernel) (pa_cons pe_w pa_nil)) (pe_callB (call_reprL hgd hu) (by rfl) T.m_repr (by decide +kernel) (pa_cons (pe_lst (pa_cons (pe_var (i := 0) (by rfl) (by (first | exact Or.inl rfl | exact Or.inr (Or.inl rfl) | exact Or.inr (Or.inr rfl)))) (pa_cons (pe_var (i := 1) (by rfl) (by (first | exact Or.inl rfl | exact Or.inr (Or.inl rfl) | exact Or.inr (Or.inr rfl)))) (pa_cons (pe_var (i := 0) (by rfl) (by (first | exact Or.inl rfl | exact Or.inr (Or.inl rfl) | exact Or.inr (Or.inr rfl)))) (pa_cons (pe_var (i := 1) (by rfl) (by (first | exact Or.inl rfl | exact Or.inr (Or.inl rfl) | exact Or.inr (Or.inr rfl)))) (pa_cons (pe_var (i := 2) (by rfl) (by (first | exact Or.inl rfl | exact Or.inr (Or.inl rfl) | exact Or.inr (Or.inr rfl)))) pa_nil)))))) pa_nil)) (by rfl))))), ?_⟩
  have hsm : ∀ d, d ∈ List.replicate 29 d1 → small d = true := fun d hd => by rw [List.eq_of_mem_replicate hd]; exact m1
  have hsm2 : ∀ d, d ∈ [d1, d2, d1, d2, d3] → small d = true := fun d hd => by
    simp only [List.mem_cons, List.not_mem_nil, or_false] at hd
    rcases hd with rfl | rfl | rfl | rfl | rfl <;> assumption
  obtain ⟨sa, sb, _⟩ := small_all _ hsm (by simp)
  have sc := small_text _ hsm (by simp)
  obtain ⟨ta, tb, _⟩ := small_all _ hsm2 (by simp)
  have tc := small_text _ hsm2 (by simp)
  refine PE.w (pe_callX (ok_errors T) hgd (hr.mono (by omega)) tk (by rfl) T.law_errors.g T.law_errors.F.kp T.law_errors.b (pa_cons (pe_var (i := 0) (by rfl) (by (first | exact Or.inl rfl | exact Or.inr (Or.inl rfl) | exact Or.inr (Or.inr rfl)))) (pa_cons (pe_var (i := 1) (by rfl) (by (first | exact Or.inl rfl | exact Or.inr (Or.inl rfl) | exact Or.inr (Or.inr rfl)))) (pa_cons (pe_var (i := 2) (by rfl) (by (first | exact Or.inl rfl | exact Or.inr (Or.inl rfl) | exact Or.inr (Or.inr rfl)))) pa_nil)))) ⟨x, rfl, y, rfl, z, rfl, x, y, z, rfl, fun L us H1 k1 hL hE => ?_⟩
  have hlen : us.length = 38 := (Paired.length hE).trans rfl
  refine ⟨L, us, rfl, SqL.of hL, fun i m σ H' => i + m = 38 ∧ σ.length = 7 ∧ σ[0]? = some (some x) ∧ σ[1]? = some (some y) ∧ σ[2]? = some (some z) ∧ Same H1 H', ⟨38, rfl, rfl, rfl, rfl, rfl, Same.refl H1⟩, ?_⟩
  rintro i m σ H2 ⟨him, hl, a0, a1, a2, k2⟩
  by_cases hi : i < 38
  · refine .inr ⟨⟨us, us[i]'(by omega), SqL.of (k2 _ _ hL), List.getElem?_eq_getElem _⟩, fun σ' H' => (i + 1) + (m - 1) = 38 ∧ σ'.length = 7 ∧ σ'[0]? = some (some x) ∧ σ'[1]? = some (some y) ∧ σ'[2]? = some (some z) ∧ Same H1 H', fun σ' H' h => ⟨m - 1, by omega, h⟩, ?_⟩
    rintro v H3 ⟨t, x', rfl, ht, rfl, hx'⟩
    have hx2 := hx' us (SqL.of (k2 _ _ hL))
    obtain ⟨C, hC, e', rfl, eC⟩ := prd_at hE hx2
    have hCm : C ∈ Cs T := List.mem_of_getElem? hC
    have is := Cs_is T C hCm
    obtain ⟨t1, t2, t3, t4⟩ := tab_at T.tab hC
    obtain ⟨hrow, hrowD⟩ := isB_row T.tab rfl hC
    refine ⟨t, _, rfl, SqT.of upd_same, rfl, _, _, rfl, _, _, rfl, rfl, ?_⟩
    have kt : Same H1 (upd H2 t (.tup [.int (i : Nat), .ref e'])) := k2.trans (same_upd ht)
    have b0 : ((σ.set 3 (some (V.int (i : Nat)))).set 4 (some (V.ref e')))[0]? = some (some x) := by rw [List.getElem?_set_ne (by decide), List.getElem?_set_ne (by decide)]; exact a0
    have b1 : ((σ.set 3 (some (V.int (i : Nat)))).set 4 (some (V.ref e')))[1]? = some (some y) := by rw [List.getElem?_set_ne (by decide), List.getElem?_set_ne (by decide)]; exact a1
    have b2 : ((σ.set 3 (some (V.int (i : Nat)))).set 4 (some (V.ref e')))[2]? = some (some z) := by rw [List.getElem?_set_ne (by decide), List.getElem?_set_ne (by decide)]; exact a2
    have b3 : ((σ.set 3 (some (V.int (i : Nat)))).set 4 (some (V.ref e')))[3]? = some (some (V.int (i : Nat))) := by rw [List.getElem?_set_ne (by decide), List.getElem?_set_self (by omega)]
    have b4 : ((σ.set 3 (some (V.int (i : Nat)))).set 4 (some (V.ref e')))[4]? = some (some (V.ref e')) := by rw [List.getElem?_set_self (by rw [List.length_set]; omega)]
    have bl : ((σ.set 3 (some (V.int (i : Nat)))).set 4 (some (V.ref e'))).length = 7 := by rw [List.length_set, List.length_set]; exact hl
    generalize (σ.set 3 (some (V.int (i : Nat)))).set 4 (some (V.ref e')) = σ2 at b0 b1 b2 b3 b4 bl ⊢
    generalize hH3 : upd H2 t (.tup [.int (i : Nat), .ref e']) = H3 at kt ⊢
    refine PSs.w (pss_cons (ps_set (i := 5) sc_law_right.nd rfl (by (first | exact Or.inl rfl | exact Or.inr rfl)) (pe_tup (pa_cons pe_w (pa_cons pe_w (pa_cons pe_w pa_nil))))) (pss_one (ps_if (PW.pt (pw_or (pt_cmpR op_w pe_w pe_w (by rfl)) (pw_or1 pt_w))) pss_w pss_nil))) ?_
    refine w_isG (by rfl) T.m_isinstance (by decide +kernel) (pe_var (i := 4) (by rfl) (by (first | exact Or.inl rfl | exact Or.inr (Or.inl rfl) | exact Or.inr (Or.inr rfl)))) (pe_glob (v := .ref T.lang) (by rfl) T.gL rfl) (.own _) is t2 b4 (eC.same kt) ?_
    refine w_isG (by rfl) T.m_isinstance (by decide +kernel) (pe_var (i := 4) (by rfl) (by (first | exact Or.inl rfl | exact Or.inr (Or.inl rfl) | exact Or.inr (Or.inr rfl)))) (pe_bltn (v := .ty "ValueError") (by rfl) T.m_ValueError (by decide +kernel) rfl) (.ty _) is t3 b4 (eC.same kt) ?_
    refine w_isG (by rfl) T.m_isinstance (by decide +kernel) (pe_var (i := 4) (by rfl) (by (first | exact Or.inl rfl | exact Or.inr (Or.inl rfl) | exact Or.inr (Or.inr rfl)))) (pe_bltn (v := .ty "LookupError") (by rfl) T.m_LookupError (by decide +kernel) rfl) (.ty _) is t4 b4 (eC.same kt) ?_
    refine ⟨by show 3 ≤ sizeLine; rw [sizeLine_eq]; decide, fun p hp => ?_⟩
    have k4 : Same H1 (upd H3 p (.tup [.bl (decide (i < 31)), .bl (decide (i < 31)), .bl (decide (30 < i))])) := kt.trans (same_upd hp)
    have hbas : Da S0 (upd H3 p (.tup [.bl (decide (i < 31)), .bl (decide (i < 31)), .bl (decide (30 < i))])) (.ref p) (basesD i) := .tup (fun h => h) upd_same (.cons (.bl _) (.cons (.bl _) (.cons (.bl _) .nil)))
    have c0 : (σ2.set 5 (some (V.ref p)))[0]? = some (some x) := by rw [List.getElem?_set_ne (by decide)]; exact b0
    have c1 : (σ2.set 5 (some (V.ref p)))[1]? = some (some y) := by rw [List.getElem?_set_ne (by decide)]; exact b1
    have c2 : (σ2.set 5 (some (V.ref p)))[2]? = some (some z) := by rw [List.getElem?_set_ne (by decide)]; exact b2
    have c3 : (σ2.set 5 (some (V.ref p)))[3]? = some (some (V.int (i : Nat))) := by rw [List.getElem?_set_ne (by decide)]; exact b3
    have c4 : (σ2.set 5 (some (V.ref p)))[4]? = some (some (V.ref e')) := by rw [List.getElem?_set_ne (by decide)]; exact b4
    have c5 : (σ2.set 5 (some (V.ref p)))[5]? = some (some (V.ref p)) := by rw [List.getElem?_set_self (by omega)]
    have cl : (σ2.set 5 (some (V.ref p))).length = 7 := by rw [List.length_set]; exact bl
    dsimp only [gName]
    generalize (σ2.set 5 (some (V.ref p))) = σ3 at c0 c1 c2 c3 c4 c5 cl ⊢
    generalize (upd H3 p (.tup [.bl (decide (i < 31)), .bl (decide (i < 31)), .bl (decide (30 < i))])) = H4 at k4 hbas ⊢
    refine PE.w (pe_callX (ok_flags T) hgd (hr.mono (by omega)) tk (by rfl) T.law_flags.g T.law_flags.F.kp T.law_flags.b (pa_cons (pe_var (i := 4) (by rfl) (by (first | exact Or.inl rfl | exact Or.inr (Or.inl rfl) | exact Or.inr (Or.inr rfl)))) pa_nil)) ⟨.ref e', c4, e', C, isB K C, rfl, eC.same k4, is, hrow, fun L' us' H5 k5 hL' hP => ?_⟩
    have k15 := k4.trans k5
    have R5 : Rel S0 (ofK (basesD i) d1 d2 d3 i e') as7 σ3 H5 := rel7 cl c0 c1 c2 (D1.same (k1.trans k15)) (D2.same (k1.trans k15)) (D3.same (k1.trans k15)) ⟨rfl, _, vl_of c3, .int _⟩ ⟨rfl, vl_of c4⟩ ⟨rfl, _, vl_of c5, so0 (hbas.same k5)⟩
    refine je_run (W := fun cls d _ H' => E cls d H') (j_lc (own := [("_law_spot", 6)]) rfl sc_law_right.nd (ji_r1 (by rfl) T.m_range (j_cons j_int j_nil)) (blkOk_by (own := [("_law_spot", 6)]) (N := ["_law_one_here", "_law_other", "_law_third", "_law_k", "_law_error", "_law_bases", "_law_spot"]) (sc := defScope s_law_right) (by decide +kernel)) (fun _ _ _ _ _ => (jg_name sc_law_right.nd rfl (by (first | exact Or.inl rfl | exact Or.inr rfl)))) (fun _ _ _ _ _ => jts_nil) (fun _ _ _ _ _ => (j_cmp (opj_eq (hu64 hr)) (j_var rfl (by (first | exact Or.inl rfl | exact Or.inr (Or.inl rfl) | exact Or.inr (Or.inr rfl)))) (j_var rfl (by (first | exact Or.inl rfl | exact Or.inr (Or.inl rfl) | exact Or.inr (Or.inr rfl)))) (nomark _)))) R5 (row_ok i) fun as' H6 τ' v R6 E6 V6 => ?_
    have k6 := same7 E6
    have hus := listed_of hP
    have hD1 : Dr S0 H6 (.ref L') (.list (rowD i)) := by
      rw [← hrowD]
      exact .lst (k6 _ _ hL') (by rw [hus]; exact da_bools _)
    have hD2 : Dr S0 H6 v (.list (rowD i)) := (V6.lk R6 rfl).less fun a h => h.elim
    refine opj_ne (hu64 hr) S0 H6 (.ref L') v _ _ _ _ (fun a h => h.elim) hD1 hD2 (by rw [← hrowD]; exact ne_bools _) fun u H7 k7 zz => ?_
    obtain rfl : u = .bl false := by cases (show Da S0 H7 u (.bool false) from zz); rfl
    refine ⟨false, rfl, ?_⟩
    try dsimp only
    rw [if_neg (by decide)]
    have k17 := (k15.trans k6).trans k7
    have R7 : Rel S0 (ofK (basesD i) d1 d2 d3 i e') as7 σ3 H7 := rel7 cl c0 c1 c2 (D1.same (k1.trans k17)) (D2.same (k1.trans k17)) (D3.same (k1.trans k17)) ⟨rfl, _, vl_of c3, .int _⟩ ⟨rfl, vl_of c4⟩ ⟨rfl, _, vl_of c5, so0 (hbas.same ((k5.trans k6).trans k7))⟩
    obtain ⟨ee, he⟩ := bases_ok (d1 := d1) (d2 := d2) (d3 := d3) (a := e') i
    refine jt_run (W := fun cls d _ H' => E cls d H') (j_tcmp (opj_ne (hu64 hr)) (j_var rfl (by (first | exact Or.inl rfl | exact Or.inr (Or.inl rfl) | exact Or.inr (Or.inr rfl)))) (j_tup (j_cons (j_cmp opj_lt (j_var rfl (by (first | exact Or.inl rfl | exact Or.inr (Or.inl rfl) | exact Or.inr (Or.inr rfl)))) j_int (nomark _)) (j_cons (j_cmp opj_lt (j_var rfl (by (first | exact Or.inl rfl | exact Or.inr (Or.inl rfl) | exact Or.inr (Or.inr rfl)))) j_int (nomark _)) (j_cons (j_cmp opj_gt (j_var rfl (by (first | exact Or.inl rfl | exact Or.inr (Or.inl rfl) | exact Or.inr (Or.inr rfl)))) j_int (nomark _)) j_nil)))) (nomark _)) R7 he fun as' H8 τ' R8 E8 => ?_
    try dsimp only
    rw [if_neg (by decide)]
    exact ⟨by omega, cl, c0, c1, c2, k17.trans (same7 E8)⟩
  · refine .inl ⟨⟨us, SqL.of (k2 _ _ hL), by omega⟩, ?_⟩
    refine PE.w (pe_callX (ok_fields T) hgd (hr.mono (by omega)) tk (by rfl) T.law_fields.g T.law_fields.F.kp T.law_fields.b (pa_cons (pe_var (i := 0) (by rfl) (by (first | exact Or.inl rfl | exact Or.inr (Or.inl rfl) | exact Or.inr (Or.inr rfl)))) pa_nil)) ⟨x, a0, x, rfl, fun L' us' H3 k3 hL' hP => ?_⟩
    have kA := (k1.trans k2).trans k3
    have hus := all_of hP
    refine ⟨S0, L', us', List.replicate 29 d1, rfl, hL', by rw [hus]; exact da_rep 29 (D1.same kA), sa, by omega, sc, ?_⟩
    refine ⟨x, a0, by show 1 ≤ sizeLine; rw [sizeLine_eq]; decide, fun p hp => ?_⟩
    refine ⟨p, 29, [x], rfl, rfl, upd_same, by decide, by decide, by show 1 * 29 ≤ sizeLine; rw [sizeLine_eq]; decide, fun r hr' => ?_⟩
    have kB : Same H (upd (upd H3 p (.lst [x])) r (.lst (List.replicate (29 : Int).toNat [x]).flatten)) := (kA.trans (same_upd hp)).trans (same_upd hr')
    refine ⟨S0, r, _, List.replicate 29 d1, rfl, upd_same, da_rep 29 (D1.same kB), sa, by omega, sc, ?_⟩
    refine ⟨rfl, false, by simp, ?_⟩
    try dsimp only
    rw [if_neg (by decide)]
    generalize (upd (upd H3 p (.lst [x])) r (.lst (List.replicate (29 : Int).toNat [x]).flatten)) = H4 at kB ⊢
    refine PE.w (pe_callX (ok_more T) hgd (hr.mono (by omega)) tk (by rfl) T.law_more_fields.g T.law_more_fields.F.kp T.law_more_fields.b (pa_cons (pe_var (i := 0) (by rfl) (by (first | exact Or.inl rfl | exact Or.inr (Or.inl rfl) | exact Or.inr (Or.inr rfl)))) (pa_cons (pe_var (i := 1) (by rfl) (by (first | exact Or.inl rfl | exact Or.inr (Or.inl rfl) | exact Or.inr (Or.inr rfl)))) (pa_cons (pe_var (i := 2) (by rfl) (by (first | exact Or.inl rfl | exact Or.inr (Or.inl rfl) | exact Or.inr (Or.inr rfl)))) pa_nil)))) ⟨x, a0, y, a1, z, a2, x, y, z, rfl, fun L2' H5 k5 hL2 => ?_⟩
    have kC := kB.trans k5
    refine ⟨S0, L2', _, [d1, d2, d1, d2, d3], rfl, hL2, .cons (D1.same kC) (.cons (D2.same kC) (.cons (D1.same kC) (.cons (D2.same kC) (.cons (D3.same kC) .nil)))), ta, by omega, tc, ?_⟩
    refine ⟨x, a0, y, a1, x, a0, y, a1, z, a2, by show 5 ≤ sizeLine; rw [sizeLine_eq]; decide, fun q' hq' => ?_⟩
    have kD := kC.trans (same_upd (o := .lst [x, y, x, y, z]) hq')
    refine ⟨S0, q', _, [d1, d2, d1, d2, d3], rfl, upd_same, .cons (D1.same kD) (.cons (D2.same kD) (.cons (D1.same kD) (.cons (D2.same kD) (.cons (D3.same kD) .nil)))), ta, by omega, tc, ?_⟩
    refine ⟨rfl, ?_⟩
    rw [decide_eq_true rfl]
    exact q _ kD
end
end K84
set_option Elab.async false
set_option linter.all false
set_option maxRecDepth 100000
set_option maxHeartbeats 4000000
namespace K84
open PySem PySem.Spec PyProof.Rows L2 Sl
def l1 : D := .list [.int 1, .int 0]
def l2 : D := .list [.int 2, .int 0]
def l3 : D := .list [.int 3, .int 0]
def envO : JEnv := [.dat l1, .dat l2, .dat l3, .dat (.list (List.replicate 29 l1)), .dat (.list [l1, l2, l1, l2, l3]), .no]
def as6 : List (Option Addr) := List.replicate 6 none
theorem as6_no {a : Addr} : some a ∉ as6 := fun h => by simp [as6] at h
theorem so6 {H : Hp} {v : V} {d : D} (h : Da S0 H v d) : Da (So S0 as6) H v d := h.less fun a m => m.elim id fun m => as6_no m
noncomputable def fO : Mo AV := eBin oEq (eLc [5] (iSeq (eBin oAdd (eVar 3) (eVar 4))) (gNm 5) tTrue (eRd kLen (aCons (eVar 5) aNil))) (eBin oMul (eFz kLst (aCons (eC (.int 2)) aNil)) (eC (.int 34)))
def okO : Option (Rs AV) → Bool
  | some (.ok (.dat (.bool true)) _) => true
  | _ => false
theorem okO_e {r : Option (Rs AV)} (h : okO r = true) : ∃ e, r = some (.ok (.dat (.bool true)) e) := by
  unfold okO at h
  split at h
  · exact ⟨_, rfl⟩
  · cases h
theorem fO_ok : okO (fO envO) = true := by kernel_rfl
section
variable {P : Program} {w : World} {K : PySem.W.Frag} {mg : Str → Option Value} {base : Heap}
def spObj : Sp := fun vs H Q _ => vs = [] ∧ ∀ H', Same H H' → Q (.bl true) H'
theorem ok_objects (T : Ty K mg) : FnX P w K mg base 62 T.law_objects_right.f T.law_objects_right.fd [] spObj := by
  refine fnX_mk T.law_objects_right.F sc_law_objects_right (fun vs H Q E h => by rw [h.1]; rfl) fun cdv A outer s H vs Q E hgd hr hsp => ?_
  have tk := takes_of (E := E) (X := cxOf (L2.CX P w) P w K mg base ["_law_one_here", "_law_other", "_law_third", "_law_fields_here", "_law_more", "_law_field"] "_law_objects_right" (defScope s_law_objects_right) T.law_objects_right.f cdv A outer s H E) rfl rfl rfl rfl
  obtain ⟨rfl, q⟩ := hsp
  refine ⟨_, pss_cons (ps_par3 (i := 0) (j := 1) (l := 2) (by rfl) sc_law_objects_right.nd (by rfl) (by rfl) (by rfl) (by decide) (by decide) (by decide) (by rfl) (by rfl) (by rfl) (pa_cons (pe_lst (pa_cons pe_int pa_nil)) (pa_cons (pe_lst (pa_cons pe_int pa_nil)) (pa_cons (pe_lst (pa_cons pe_int pa_nil)) pa_nil))) (by rfl))
    (pss_cons (ps_par (i := 3) (j := 4) (by rfl) sc_law_objects_right.nd (by rfl) (by rfl) (by decide) (by rfl) (by rfl) (pa_cons pe_w (pa_cons pe_w pa_nil)) (by rfl))
      (pss_cons (ps_expr (pe_bm PySem.F.plainAttrs_list PySem.F.slot_list_append PySem.F.type_list_append mt_append (pe_var (i := 0) (by rfl) (by (first | exact Or.inl rfl | exact Or.inr (Or.inl rfl) | exact Or.inr (Or.inr rfl)))) (pa_cons pe_int pa_nil)))
        (pss_cons (ps_expr (pe_bm PySem.F.plainAttrs_list PySem.F.slot_list_append PySem.F.type_list_append mt_append (pe_var (i := 1) (by rfl) (by (first | exact Or.inl rfl | exact Or.inr (Or.inl rfl) | exact Or.inr (Or.inr rfl)))) (pa_cons pe_int pa_nil)))
          (pss_cons (ps_expr (pe_bm PySem.F.plainAttrs_list PySem.F.slot_list_append PySem.F.type_list_append mt_append (pe_var (i := 2) (by rfl) (by (first | exact Or.inl rfl | exact Or.inr (Or.inl rfl) | exact Or.inr (Or.inr rfl)))) (pa_cons pe_int pa_nil)))
            (pss_one (ps_ret pe_w)))))), ?_⟩
  refine ⟨by show 1 ≤ sizeLine; rw [sizeLine_eq]; decide, fun a ha => ?_⟩
  refine ⟨by show 1 ≤ sizeLine; rw [sizeLine_eq]; decide, fun b hb => ?_⟩
  refine ⟨by show 1 ≤ sizeLine; rw [sizeLine_eq]; decide, fun c hc => ?_⟩
  refine ⟨_, _, _, rfl, ?_⟩
  have hba : b ≠ a := fun e => by rw [e, upd_same] at hb; cases hb
  have hcb : c ≠ b := fun e => by rw [e, upd_same] at hc; cases hc
  have hca : c ≠ a := fun e => by rw [e, upd_ne (Ne.symm hba), upd_same] at hc; cases hc
  have k3 : Same H (upd (upd (upd H a (.lst [.int 1])) b (.lst [.int 2])) c (.lst [.int 3])) := ((same_upd ha).trans (same_upd hb)).trans (same_upd hc)
  have ga : (upd (upd (upd H a (.lst [.int 1])) b (.lst [.int 2])) c (.lst [.int 3])) a = some (.lst [.int 1]) := by rw [upd_ne (Ne.symm hca), upd_ne (Ne.symm hba), upd_same]
  have gb : (upd (upd (upd H a (.lst [.int 1])) b (.lst [.int 2])) c (.lst [.int 3])) b = some (.lst [.int 2]) := by rw [upd_ne (Ne.symm hcb), upd_same]
  have gc : (upd (upd (upd H a (.lst [.int 1])) b (.lst [.int 2])) c (.lst [.int 3])) c = some (.lst [.int 3]) := upd_same
  have na : H a = none := ha
  have nb : H b = none := by rw [upd_ne hba] at hb; exact hb
  have nc : H c = none := by rw [upd_ne hcb, upd_ne hca] at hc; exact hc
  generalize (upd (upd (upd H a (.lst [.int 1])) b (.lst [.int 2])) c (.lst [.int 3])) = H3 at k3 ga gb gc ⊢
  refine PE.w (pe_callX (ok_fields T) hgd (hr.mono (by omega)) tk (by rfl) T.law_fields.g T.law_fields.F.kp T.law_fields.b (pa_cons (pe_var (i := 0) (by rfl) (by (first | exact Or.inl rfl | exact Or.inr (Or.inl rfl) | exact Or.inr (Or.inr rfl)))) pa_nil)) ⟨_, rfl, _, rfl, fun L us H4 k4 hL hP => ?_⟩
  refine PE.w (pe_callX (ok_more T) hgd (hr.mono (by omega)) tk (by rfl) T.law_more_fields.g T.law_more_fields.F.kp T.law_more_fields.b (pa_cons (pe_var (i := 0) (by rfl) (by (first | exact Or.inl rfl | exact Or.inr (Or.inl rfl) | exact Or.inr (Or.inr rfl)))) (pa_cons (pe_var (i := 1) (by rfl) (by (first | exact Or.inl rfl | exact Or.inr (Or.inl rfl) | exact Or.inr (Or.inr rfl)))) (pa_cons (pe_var (i := 2) (by rfl) (by (first | exact Or.inl rfl | exact Or.inr (Or.inl rfl) | exact Or.inr (Or.inr rfl)))) pa_nil)))) ⟨_, rfl, _, rfl, _, rfl, _, _, _, rfl, fun M H5 k5 hM => ?_⟩
  have hus := all_of hP
  subst hus
  have hL5 := k5 _ _ hL
  have ga5 := k5 _ _ (k4 _ _ ga)
  have gb5 := k5 _ _ (k4 _ _ gb)
  have gc5 := k5 _ _ (k4 _ _ gc)
  have df : ∀ {p p' : Addr} {xs ys : List V}, H5 p = some (.lst xs) → H5 p' = some (.lst ys) → xs.length ≠ ys.length → p ≠ p' := fun h h' hne e => by
    rw [e, h'] at h
    cases h
    exact hne rfl
  have dLa := df hL5 ga5 (by simp)
  have dLb := df hL5 gb5 (by simp)
  have dLc := df hL5 gc5 (by simp)
  have dMa := df hM ga5 (by simp)
  have dMb := df hM gb5 (by simp)
  have dMc := df hM gc5 (by simp)
  have k35 := k4.trans k5
  refine ⟨_, _, rfl, ?_⟩
  refine ⟨_, rfl, .inl ⟨rfl, _, SqL.of ga5⟩, _, _, _, rfl, rfl, ga5, by show 1 < sizeLine; rw [sizeLine_eq]; decide, ?_⟩
  have gb6 : upd H5 a (.lst ([.int 1] ++ [.int 0])) b = some (.lst [.int 2]) := by rw [upd_ne hba]; exact gb5
  refine ⟨_, rfl, .inl ⟨rfl, _, SqL.of gb6⟩, _, _, _, rfl, rfl, gb6, by show 1 < sizeLine; rw [sizeLine_eq]; decide, ?_⟩
  have gc7 : upd (upd H5 a (.lst ([.int 1] ++ [.int 0]))) b (.lst ([.int 2] ++ [.int 0])) c = some (.lst [.int 3]) := by rw [upd_ne hcb, upd_ne hca]; exact gc5
  refine ⟨_, rfl, .inl ⟨rfl, _, SqL.of gc7⟩, _, _, _, rfl, rfl, gc7, by show 1 < sizeLine; rw [sizeLine_eq]; decide, ?_⟩
  have e1 : (upd (upd (upd H5 a (.lst ([.int 1] ++ [.int 0]))) b (.lst ([.int 2] ++ [.int 0]))) c (.lst ([.int 3] ++ [.int 0]))) a = some (.lst [.int 1, .int 0]) := by rw [upd_ne (Ne.symm hca), upd_ne (Ne.symm hba), upd_same]; rfl
  have e2 : (upd (upd (upd H5 a (.lst ([.int 1] ++ [.int 0]))) b (.lst ([.int 2] ++ [.int 0]))) c (.lst ([.int 3] ++ [.int 0]))) b = some (.lst [.int 2, .int 0]) := by rw [upd_ne (Ne.symm hcb), upd_same]; rfl
  have e3 : (upd (upd (upd H5 a (.lst ([.int 1] ++ [.int 0]))) b (.lst ([.int 2] ++ [.int 0]))) c (.lst ([.int 3] ++ [.int 0]))) c = some (.lst [.int 3, .int 0]) := by rw [upd_same]; rfl
  have e4 : (upd (upd (upd H5 a (.lst ([.int 1] ++ [.int 0]))) b (.lst ([.int 2] ++ [.int 0]))) c (.lst ([.int 3] ++ [.int 0]))) L = H5 L := by rw [upd_ne dLc, upd_ne dLb, upd_ne dLa]
  have e5 : (upd (upd (upd H5 a (.lst ([.int 1] ++ [.int 0]))) b (.lst ([.int 2] ++ [.int 0]))) c (.lst ([.int 3] ++ [.int 0]))) M = H5 M := by rw [upd_ne dMc, upd_ne dMb, upd_ne dMa]
  have kk : Same H (upd (upd (upd H5 a (.lst ([.int 1] ++ [.int 0]))) b (.lst ([.int 2] ++ [.int 0]))) c (.lst ([.int 3] ++ [.int 0]))) := fun p o e => by
    rw [upd_ne (fun z => by rw [z, nc] at e; cases e), upd_ne (fun z => by rw [z, nb] at e; cases e), upd_ne (fun z => by rw [z, na] at e; cases e)]
    exact k35 _ _ (k3 _ _ e)
  rw [hL5] at e4
  rw [hM] at e5
  generalize (upd (upd (upd H5 a (.lst ([.int 1] ++ [.int 0]))) b (.lst ([.int 2] ++ [.int 0]))) c (.lst ([.int 3] ++ [.int 0]))) = H8 at e1 e2 e3 e4 e5 kk ⊢
  have A1 : Da S0 H8 (.ref a) l1 := .lst (fun h => h) e1 (.cons (.int 1) (.cons (.int 0) .nil))
  have A2 : Da S0 H8 (.ref b) l2 := .lst (fun h => h) e2 (.cons (.int 2) (.cons (.int 0) .nil))
  have A3 : Da S0 H8 (.ref c) l3 := .lst (fun h => h) e3 (.cons (.int 3) (.cons (.int 0) .nil))
  have A4 : Da S0 H8 (.ref L) (.list (List.replicate 29 l1)) := .lst (fun h => h) e4 (da_rep 29 A1)
  have A5 : Da S0 H8 (.ref M) (.list [l1, l2, l1, l2, l3]) := .lst (fun h => h) e5 (.cons A1 (.cons A2 (.cons A1 (.cons A2 (.cons A3 .nil)))))
  have R : Rel S0 envO as6 [some (.ref a), some (.ref b), some (.ref c), some (.ref L), some (.ref M), none] H8 := by
    refine ⟨rfl, rfl, fun i w e => ?_, fun i j a h => ?_, fun a h => h.elim⟩
    · match i, e with
      | 0, e => cases e; exact ⟨none, rfl, rfl, _, rfl, so6 A1⟩
      | 1, e => cases e; exact ⟨none, rfl, rfl, _, rfl, so6 A2⟩
      | 2, e => cases e; exact ⟨none, rfl, rfl, _, rfl, so6 A3⟩
      | 3, e => cases e; exact ⟨none, rfl, rfl, _, rfl, so6 A4⟩
      | 4, e => cases e; exact ⟨none, rfl, rfl, _, rfl, so6 A5⟩
      | 5, e => cases e; exact ⟨none, rfl, rfl⟩
      | n + 6, e => cases e
    · exact absurd (List.mem_of_getElem? h) as6_no
  obtain ⟨ee, he⟩ := okO_e fO_ok
  refine je_run (W := fun cls d _ H' => E cls d H') (fe := fO) (j_cmp (opj_eq (hu64 hr)) (j_lc (own := [("_law_field", 5)]) rfl sc_law_objects_right.nd (ji_seq (j_bin opj_add (j_var rfl (by (first | exact Or.inl rfl | exact Or.inr (Or.inl rfl) | exact Or.inr (Or.inr rfl)))) (j_var rfl (by (first | exact Or.inl rfl | exact Or.inr (Or.inl rfl) | exact Or.inr (Or.inr rfl)))))) (blkOk_by (own := [("_law_field", 5)]) (N := ["_law_one_here", "_law_other", "_law_third", "_law_fields_here", "_law_more", "_law_field"]) (sc := defScope s_law_objects_right) (by decide +kernel)) (fun _ _ _ _ _ => (jg_name sc_law_objects_right.nd rfl (by (first | exact Or.inl rfl | exact Or.inr rfl)))) (fun _ _ _ _ _ => jts_nil) (fun _ _ _ _ _ => (j_callB cj_len (by rfl) T.m_len (by decide +kernel) (j_cons (j_var rfl (by (first | exact Or.inl rfl | exact Or.inr (Or.inl rfl) | exact Or.inr (Or.inr rfl)))) j_nil)))) (j_bin opj_mul (j_lst (j_cons j_int j_nil)) j_int) (nomark _)) R he fun as' H9 τ' v R9 E9 V9 => ?_
  obtain rfl : v = .bl true := by cases (show Da (So S0 as') H9 v (.bool true) from V9); rfl
  exact q H9 (kk.trans fun p o e => E9.kp p o as6_no e)
end
end K84
set_option Elab.async false
set_option linter.all false
set_option maxRecDepth 100000
set_option maxHeartbeats 4000000
namespace K84
open PySem PySem.Spec PyProof.Rows L2 Evl Sl
section
variable {P : Program} {w : World} {K : PySem.W.Frag} {mg : Str → Option Value} {base : Heap}
theorem upd_kp {H : Hp} {l : Addr} {o : HO} {S : Addr → Prop} (h : S l) : Kp S H (upd H l o) := fun a u n e => by
  rw [upd_ne (fun z => n (by rw [z]; exact h))]
  exact e
/-! ### draws: what is known of them is that they lie below what was asked -/
def Drawn (H : Hp) (p : Addr) : Prop := ∃ g m c : Int, H p = some (.lst [.int g, .int m, .int c]) ∧ 0 ≤ g ∧ 0 ≤ m ∧ m < 2305843009213693951 ∧ 0 ≤ c
theorem Drawn.same {H H' : Hp} {p : Addr} (e : Ex H H') (h : Drawn H p) : Drawn H' p := by
  obtain ⟨g, m, c, h, r⟩ := h
  exact ⟨g, m, c, e _ _ h, r⟩
theorem Drawn.some {H : Hp} {p : Addr} (h : Drawn H p) : H p ≠ none := by
  obtain ⟨g, m, c, h, _⟩ := h
  rw [h]
  intro z
  cases z
theorem ev_abs {σ : L2.St} {H : Hp} {ta : TE} {i : Int} (h : Ev ta σ H (.int i)) : Ev (tCB (fun xs H Q => ∃ i, xs = [.int i] ∧ Q (.int (if i < 0 then -i else i)) H) (tCons ta tNil)) σ H (.int (if i < 0 then -i else i)) := fun H1 e Q q =>
  h H1 e _ fun H2 e2 => ⟨i, rfl, q H2 e2⟩
theorem ev_int1b {σ : L2.St} {H : Hp} {ta : TE} {k : Bool} (h : Ev ta σ H (.bl k)) : Ev (tCB (fun xs H Q => (∃ i, xs = [.int i] ∧ Q (.int i) H) ∨ ∃ k, xs = [.bl k] ∧ Q (.int (if k then 1 else 0)) H) (tCons ta tNil)) σ H (.int (if k then 1 else 0)) := fun H1 e Q q =>
  h H1 e _ fun H2 e2 => .inr ⟨k, rfl, q H2 e2⟩
def spDraws (K : PySem.W.Frag) : Sp := fun vs H Q _ => ∃ (a : Addr) (ns : List Int), vs = [.ref a] ∧ SqL K H a (ns.map V.int) ∧ ns.length ≤ 63 ∧ ∀ p H', H p = none → Ex H H' → Drawn H' p → Q (.ref p) H'
theorem ok_law_draws (T : Tx K mg) : FnOk P w K mg base CX0 1 T.law_draws.f T.law_draws.fd ["_law_script"] (spDraws K) := by
  refine T.law_draws.F.ok sc_law_draws (fun vs H Q E h => ?_) (fun cdv A outer s H vs Q E hr h => ?_)
  · obtain ⟨a, ns, rfl, _⟩ := h
    rfl
  obtain ⟨a, ns, rfl, hS, hl, q⟩ := h
  refine ⟨_, pss_cons (ps_par (i := 2) (j := 3) rfl sc_law_draws.nd rfl rfl (by decide) rfl rfl (pa_cons pe_int (pa_cons (pe_op op_add pe_int (pe_op op_mul pe_int (pe_callB call_len_seq (by rfl) T.m_len (by decide +kernel) (pa_cons (pv 0) pa_nil)))) pa_nil)) (by rfl))
      (pss_cons (ps_for PassesOwn.never rfl (pi_list (pe_slice sl_list (pv 0) po_none (po_some pe_int))) (pg_name (i := 1) sc_law_draws.nd rfl (Or.inl rfl)) (pss_cons (ps_set (i := 3) sc_law_draws.nd rfl (Or.inl rfl) (pe_op op_mod (pe_op op_add (pe_op op_add (pe_op op_add (pe_op op_mul (pv 3) pe_int) (pe_op op_mul pe_int (pe_callB call_abs (by rfl) T.m_abs (by decide +kernel) (pa_cons (pv 1) pa_nil)))) (pe_callTy call_int1 (by rfl) T.m_int (by decide +kernel) (pa_cons (pe_cmpR op_lt (pv 1) pe_int (nomark _)) pa_nil))) pe_int) pe_int))
      (pss_one (ps_if (pt_cmpR op_ge (pe_callB call_abs (by rfl) T.m_abs (by decide +kernel) (pa_cons (pv 1) pa_nil)) (pe_op op_pow pe_int pe_int) (nomark _)) (pss_one (ps_set (i := 2) sc_law_draws.nd rfl (Or.inl rfl) (pe_op op_add (pe_op op_mul (pv 2) pe_int) (pe_callB call_abs (by rfl) T.m_abs (by decide +kernel) (pa_cons (pv 1) pa_nil))))) pss_nil))))
      (pss_one (ps_ret (pe_lst (pa_cons (pv 2) (pa_cons (pv 3) (pa_cons pe_int pa_nil))))))), ?_⟩
  have hlen : (ns.map V.int).length = ns.length := List.length_map _
  refine q_any (fun σ' H' => Ex H H' ∧ σ' = [some (.ref a), none, some (.int 0), some (.int (2901 + 31 * ((ns.map V.int).length : Int)))]) (fun nx hn => ?_) ?_
  · refine ea_cons ev_c (ea_cons (ev_op ev_c (ev_op ev_c (ev_len (ev_var rfl) hS) (rv_I (.inl ⟨by decide, by decide⟩))) rv_I0) ea_nil) H (Ex.refl H) _ fun H1 e1 => ⟨_, _, rfl, hn _ _ ⟨e1, rfl⟩⟩
  rintro _ H1 ⟨e1, rfl⟩
  rw [hlen]
  refine q_forNLn (el_sl (lo := none) (hi := some 60) (ev_var rfl) eo_none (eo_some ev_c) (ex_l e1 hS)) (fun p i σ' H' => Ex H1 H' ∧ H' p = some (.lst (cutV (ns.map V.int) none (some 60))) ∧ ∃ (y1 : Option V) (g m : Int), σ' = [some (.ref a), y1, some (.int g), some (.int m)] ∧ 0 ≤ g ∧ 0 ≤ m ∧ m < 2305843009213693951)
    (fun p H2 _ e2 hp => ⟨e2, hp, none, 0, _, rfl, by omega, by omega, by omega⟩) (fun p i σ' H' _ h => sq_of h.2.1) (fun p i x σ' H' hx h => ?_) (fun p σ' H' h => ?_)
  · obtain ⟨hE, hp, y1, g, m, rfl, hg, hm0, hm⟩ := h
    have hxi : ∃ n : Int, x = .int n := by
      have h1 : x ∈ cutV (ns.map V.int) none (some 60) := List.mem_of_getElem? hx
      have h2 : x ∈ ns.map V.int := by
        unfold cutV at h1
        exact List.mem_of_mem_drop (List.mem_of_mem_take h1)
      obtain ⟨n, _, e⟩ := List.mem_map.mp h2
      exact ⟨n, e.symm⟩
    obtain ⟨n, rfl⟩ := hxi
    refine q_asg (ev_op (ev_op (ev_op (ev_op (ev_op (ev_var rfl) ev_c (rv_I (.inr ⟨by decide, by decide⟩))) (ev_op ev_c (ev_abs (ev_var rfl)) (rv_I (.inl ⟨by decide, by decide⟩))) rv_I0) (ev_int1b (ev_op (ev_var rfl) ev_c rv_I0)) rv_I0) ev_c rv_I0) ev_c (rv_I (by decide))) fun H2 e2 => ?_
    have hb0 : ∀ z : Int, 0 ≤ z % 2305843009213693951 ∧ z % 2305843009213693951 < 2305843009213693951 := fun z => ⟨Int.emod_nonneg _ (by decide), Int.emod_lt_of_pos _ (by decide)⟩
    refine s_when (et_test (ev_op (ev_abs (ev_var rfl)) (ev_op ev_c ev_c (rv_I ⟨by decide, by decide, by decide⟩)) rv_I0)) (fun _ H3 e3 => ?_) (fun _ H3 e3 => ?_)
    · refine s_asg (ev_op (ev_op (ev_var rfl) ev_c (rv_I (.inr ⟨by decide, by decide⟩))) (ev_abs (ev_var rfl)) rv_I0) fun H4 e4 => ?_
      refine ⟨((hE.trans e2).trans e3).trans e4, e4 _ _ (e3 _ _ (e2 _ _ hp)), _, _, _, rfl, ?_, (hb0 _).1, (hb0 _).2⟩
      split <;> omega
    · exact ⟨(hE.trans e2).trans e3, e3 _ _ (e2 _ _ hp), _, _, _, rfl, hg, (hb0 _).1, (hb0 _).2⟩
  · obtain ⟨hE, hp, y1, g, m, rfl, hg, hm0, hm⟩ := h
    refine s_retL (el_lst (ea_cons (ev_var rfl) (ea_cons (ev_var rfl) (ea_cons ev_c ea_nil))) (by show 3 ≤ 100000; decide)) fun l H3 hl3 e3 h3 => ?_
    exact q l H3 (fresh_back (e1.trans hE) hl3) ((e1.trans hE).trans e3) ⟨g, m, 0, h3, hg, hm0, hm, Int.le_refl 0⟩
def spNext : Sp := fun vs H Q _ => ∃ (p : Addr) (m : Int), vs = [.ref p, .int m] ∧ Drawn H p ∧ 1 ≤ m ∧ m ≤ 1000000 ∧ ∀ r H', 0 ≤ r → r < m → Kp (fun a => a = p) H H' → Drawn H' p → Q (.int r) H'
theorem Kp.ex {p : Addr} {H H' : Hp} (e : Ex H H') : Kp (fun a => a = p) H H' := fun a o _ h => e a o h
theorem ok_law_next (T : Tx K mg) : FnOk P w K mg base CX0 1 T.law_next.f T.law_next.fd ["_law_drawn", "_law_many"] spNext := by
  refine T.law_next.F.ok sc_law_next (fun vs H Q E h => ?_) (fun cdv A outer s H vs Q E hr h => ?_)
  · obtain ⟨p, m, rfl, _⟩ := h
    rfl
  obtain ⟨p, many, rfl, ⟨g, m, c, hp, hg, hm0, hm, hc⟩, h1, h2, q⟩ := h
  refine ⟨_, pss_cons (ps_if (pt_cmpR op_gt (pe_ix ix_list (pv 0) pe_int (fun _ _ => rfl)) pe_int (nomark _)) (pss_cons (ps_set (i := 3) sc_law_next.nd rfl (Or.inl rfl) (pe_op op_mod (pe_ix ix_list (pv 0) pe_int (fun _ _ => rfl)) (pv 1)))
      (pss_cons (ps_asg (pe_op op_fdiv (pe_ix ix_list (pv 0) pe_int (fun _ _ => rfl)) (pv 1)) (pg_sub (pv 0) pe_int set_list))
      (pss_one (ps_ret (pv 3))))) pss_nil)
      (pss_cons (ps_asg (pe_op op_add (pe_ix ix_list (pv 0) pe_int (fun _ _ => rfl)) pe_int) (pg_sub (pv 0) pe_int set_list))
      (pss_cons (ps_set (i := 2) sc_law_next.nd rfl (Or.inl rfl) (pe_op op_mod (pe_op op_add (pe_ix ix_list (pv 0) pe_int (fun _ _ => rfl)) (pe_op op_mul pe_int (pe_ix ix_list (pv 0) pe_int (fun _ _ => rfl)))) pe_int))
      (pss_cons (ps_set (i := 2) sc_law_next.nd rfl (Or.inl rfl) (pe_op op_mod (pe_op op_mul (pv 2) (pe_op op_add (pe_op op_mod (pv 2) pe_int) pe_int)) pe_int))
      (pss_one (ps_ret (pe_op op_mod (pe_op op_fdiv (pe_op op_mod (pe_op op_mul (pv 2) (pv 2)) pe_int) pe_int) (pv 1))))))), ?_⟩
  have item0 : ∀ {H' : Hp} {g m c : Int}, H' p = some (.lst [.int g, .int m, .int c]) → RV (rIxL K) (.ref p) (.int 0) H' (.int g) := fun h => rv_ixL (sq_of h) (atI_nat (j := 0) rfl)
  have item1 : ∀ {H' : Hp} {g m c : Int}, H' p = some (.lst [.int g, .int m, .int c]) → RV (rIxL K) (.ref p) (.int 1) H' (.int m) := fun h => rv_ixL (sq_of h) (atI_nat (j := 1) rfl)
  have item2 : ∀ {H' : Hp} {g m c : Int}, H' p = some (.lst [.int g, .int m, .int c]) → RV (rIxL K) (.ref p) (.int 2) H' (.int c) := fun h => rv_ixL (sq_of h) (atI_nat (j := 2) rfl)
  have hmod : ∀ z : Int, 0 ≤ z % many ∧ z % many < many := fun z => ⟨Int.emod_nonneg _ (by omega), Int.emod_lt_of_pos _ (by omega)⟩
  refine q_when (et_test (ev_op (ev_op (ev_var rfl) ev_c (item0 hp)) ev_c rv_I0)) (fun hb H1 e1 => ?_) (fun hb H1 e1 => ?_)
  · have p1 := e1 _ _ hp
    refine q_asg (ev_op (ev_op (ev_var rfl) ev_c (item0 p1)) (ev_var rfl) (rv_I (by omega))) fun H2 e2 => ?_
    have p2 := e2 _ _ p1
    refine q_setL (j := 0) p2 (ev_op (ev_op (ev_var rfl) ev_c (item0 p2)) (ev_var rfl) (rv_I ⟨by omega, by omega⟩)) (ev_var rfl) ev_c (by show 0 < 3; decide) fun H3 e3 => ?_
    refine s_ret (ev_var rfl) fun H4 e4 => ?_
    refine q _ _ (hmod g).1 (hmod g).2 (((Kp.ex ((e1.trans e2).trans e3)).trans (upd_kp rfl)).trans (Kp.ex e4)) ⟨g / many, m, c, e4 _ _ upd_same, Int.ediv_nonneg hg (by omega), hm0, hm, hc⟩
  · have p1 := e1 _ _ hp
    refine q_setL (j := 2) p1 (ev_op (ev_op (ev_var rfl) ev_c (item2 p1)) ev_c rv_I0) (ev_var rfl) ev_c (by show 2 < 3; decide) fun H2 e2 => ?_
    have p2 : (upd H2 p (.lst ([.int g, .int m, .int c].set 2 (.int (c + 1))))) p = some (.lst [.int g, .int m, .int (c + 1)]) := upd_same
    generalize hH3 : upd H2 p (.lst ([.int g, .int m, .int c].set 2 (.int (c + 1)))) = H3 at p2
    have k3 : Kp (fun a => a = p) H H3 := by
      rw [← hH3]
      exact (Kp.ex (e1.trans e2)).trans (upd_kp rfl)
    refine q_asg (ev_op (ev_op (ev_op (ev_var rfl) ev_c (item1 p2)) (ev_op ev_c (ev_op (ev_var rfl) ev_c (item2 p2)) (rv_I (.inl ⟨by decide, by decide⟩))) rv_I0) ev_c (rv_I (by decide))) fun H4 e4 => ?_
    have b1 : ∀ z : Int, 0 ≤ z % 18446744073709551557 ∧ z % 18446744073709551557 < 18446744073709551557 := fun z => ⟨Int.emod_nonneg _ (by decide), Int.emod_lt_of_pos _ (by decide)⟩
    generalize hx : (m + 11400714819323198485 * (c + 1)) % 18446744073709551557 = x
    have bx := b1 (m + 11400714819323198485 * (c + 1))
    rw [hx] at bx
    refine q_asg (ev_op (ev_op (ev_var rfl) (ev_op (ev_op (ev_var rfl) ev_c (rv_I (by decide))) ev_c rv_I0) (rv_I (.inl ⟨by omega, by omega⟩))) ev_c (rv_I (by decide))) fun H5 e5 => ?_
    generalize hy : (x * (x % 4294967291 + 5)) % 2305843009213693951 = y
    have by0 : 0 ≤ y ∧ y < 2305843009213693951 := by
      rw [← hy]
      exact ⟨Int.emod_nonneg _ (by decide), Int.emod_lt_of_pos _ (by decide)⟩
    refine s_ret (ev_op (ev_op (ev_op (ev_op (ev_var rfl) (ev_var rfl) (rv_I (.inl ⟨by omega, by omega⟩))) ev_c (rv_I (by decide))) ev_c (rv_I ⟨by decide, by decide⟩)) (ev_var rfl) (rv_I (by omega))) fun H6 e6 => ?_
    exact q _ _ (hmod _).1 (hmod _).2 (k3.trans (Kp.ex ((e4.trans e5).trans e6))) ⟨g, m, c + 1, e6 _ _ (e5 _ _ (e4 _ _ p2)), hg, hm0, hm, by omega⟩
def spOne : Sp := fun vs H Q _ => ∃ (p l : Addr) (xs : List V), vs = [.ref p, .ref l] ∧ Drawn H p ∧ H l = some (.lst xs) ∧ l ≠ p ∧ 1 ≤ xs.length ∧ xs.length ≤ 1000 ∧ ∀ v H', v ∈ xs → Kp (fun a => a = p) H H' → Drawn H' p → Q v H'
theorem ok_law_one (T : Tx K mg) : FnOk P w K mg base CX0 2 T.law_one.f T.law_one.fd ["_law_drawn", "_law_items"] spOne := by
  have G_law_next := ok_law_next (P := P) (w := w) (base := base) T
  refine T.law_one.F.ok sc_law_one (fun vs H Q E h => ?_) (fun cdv A outer s H vs Q E hr h => ?_)
  · obtain ⟨p, l, xs, rfl, _⟩ := h
    rfl
  obtain ⟨p, l, xs, rfl, hp, hl, hne, h1, h2, q⟩ := h
  refine ⟨_, pss_one (ps_ret (pe_ix ix_list (pv 1) (pe_call G_law_next (hr.mono (by omega)) (by rfl) T.law_next.g T.law_next.F.kp T.law_next.b .nil pass0 (pa_cons (pv 0) (pa_cons (pe_callB call_len_seq (by rfl) T.m_len (by decide +kernel) (pa_cons (pv 1) pa_nil)) pa_nil))) (fun _ _ => rfl))), ?_⟩
  refine ⟨.ref l, rfl, .ref p, rfl, .ref l, rfl, l, xs, rfl, .inl (sq_of hl), p, (xs.length : Int), rfl, hp, by omega, by omega, fun r H' h0 hr2 k d => ?_⟩
  have hi : r.toNat < xs.length := by omega
  have hg : atI xs r = some xs[r.toNat] := at_of (j := r.toNat) (by omega) (List.getElem?_eq_getElem hi)
  exact ⟨l, xs, r, _, rfl, rfl, sq_of (k _ _ hne hl), hg, q _ _ (List.getElem_mem hi) k d⟩
end
end K84
set_option Elab.async false
set_option linter.all false
set_option maxRecDepth 100000
set_option maxHeartbeats 4000000
namespace K84
open PySem PySem.Spec PyProof.Rows L2 Sl
section
variable {X : Cx} {W : L2.WX} {x : Str} {k : Nat} {f : Addr} {fd : FuncData} {sp : Sp} {p pos : Pos}
theorem pe_callX0 (F : FnX X.prog X.w X.K X.mg X.base k f fd [] sp) (g : X.A.guards = some []) (hr : Room k X.A) (tk : Takes X W) (hg : Gl X x) (hm : X.mg x = some (.ref f)) (hk : PySem.W.keepIn X.K (.ref f) = true) (hb : Binds X.K fd [] [])
    (hdb : (x == ("__debug__" : Str)) = false := by decide) : PE X (.Call (.Name x p) [] [] pos) (fun σ H Q => sp [] H Q fun cls d H' => W cls d σ H') := by
  refine ⟨fun pins s σ H Q I h => wpAny_Call_Name_kw (ld_glob I hg hm ?_ hdb)⟩
  refine PySem.W.callWith_K0 I.kIn hk ?_
  have b1 := hb s [] I.kIn rfl
  refine wpAny_call (codeAny_mono (F.go X.A X.stack s H ⟨[], []⟩ [] [] Q _ g hr I.env0 b1 .nil h) fun res s' z => ?_)
  cases res with
  | error er => exact tk er s' (XE.of_call I (fun cls d H' h => h) z)
  | ok fl =>
    cases fl with
    | ret u => exact I.after z
    | next => exact z.elim
    | brk => exact z.elim
    | cont => exact z.elim
end
theorem fnG_ofX {P : Program} {w : World} {K : PySem.W.Frag} {mg : Str → Option Value} {base : Heap} {k : Nat} {f : Addr} {fd : FuncData} {ps : List Str} {sp : Sp} (F : FnX P w K mg base k f fd ps sp) : FnG P w K mg base k f fd ps sp :=
  ⟨F.len, fun A o s H as us vs Q g r e b v q => codeAny_mono (F.go A o s H as us vs Q E0 g r e b v q) fun res s' z => by
    cases res with
    | error er =>
      obtain ⟨_, _, _, _, _, _, _, _, _, _, _, _, hE⟩ := z
      exact hE.elim
    | ok fl => cases fl <;> exact z⟩
/-! ### the law -/
def eN : JEnv := [.no, .no, .no, .no, .no, .no]
def eLD (a b : D) : JEnv := [.no, .no, .dat a, .dat b, .no, .no]
theorem relN {S : Addr → Prop} {σ : L2.St} {H : Hp} (hl : σ.length = 6) (hS : ∀ a, S a → ∃ o, H a = some o ∧ isMO o) {x2 x3 : SV} (h2 : SlotOk S as6 σ H 2 none x2) (h3 : SlotOk S as6 σ H 3 none x3) : Rel S [.no, .no, x2, x3, .no, .no] as6 σ H := by
  refine ⟨rfl, hl, fun i w e => ?_, fun i j a h => ?_, hS⟩
  · match i, e with
    | 0, e => cases e; exact ⟨none, rfl, rfl⟩
    | 1, e => cases e; exact ⟨none, rfl, rfl⟩
    | 2, e => cases e; exact ⟨none, rfl, h2⟩
    | 3, e => cases e; exact ⟨none, rfl, h3⟩
    | 4, e => cases e; exact ⟨none, rfl, rfl⟩
    | 5, e => cases e; exact ⟨none, rfl, rfl⟩
    | n + 6, e => cases e
  · exact absurd (List.mem_of_getElem? h) as6_no
def limD : D := .list [.int 199, .int 200, .int 30, .int 80, .int 50, .int 6, .int 60, .int 8, .int 200, .int 40, .int 500, .int 1000, .int 8, .int 2000]
def dueD : D := .list [.int 199, .int 200, .int 30, .int 80, .int 50, .int 6, .int 60, .int 8, .int 200, .int 40, .int 500, .int 1000, .int 8, .int 2000, .int 500, .int 3, .int 60, .int 20]
theorem f_lim : ((eFz kLst (aCons (eC (.int 199)) (aCons (eC (.int 200)) (aCons (eC (.int 30)) (aCons (eC (.int 80)) (aCons (eC (.int 50)) (aCons (eC (.int 6)) (aCons (eC (.int 60)) (aCons (eC (.int 8)) (aCons (eC (.int 200)) (aCons (eC (.int 40)) (aCons (eC (.int 500)) (aCons (eC (.int 1000)) (aCons (eC (.int 8)) (aCons (eC (.int 2000)) aNil)))))))))))))))) eN = some (.ok (.nam 6) (eN ++ [.own limD])) := by rfl
theorem f_due {a : D} : ((eFz kLst (aCons (eC (.int 199)) (aCons (eC (.int 200)) (aCons (eC (.int 30)) (aCons (eC (.int 80)) (aCons (eC (.int 50)) (aCons (eC (.int 6)) (aCons (eC (.int 60)) (aCons (eC (.int 8)) (aCons (eC (.int 200)) (aCons (eC (.int 40)) (aCons (eC (.int 500)) (aCons (eC (.int 1000)) (aCons (eC (.int 8)) (aCons (eC (.int 2000)) (aCons (eC (.int 500)) (aCons (eC (.int 3)) (aCons (eC (.int 60)) (aCons (eC (.int 20)) aNil)))))))))))))))))))) [.no, .no, .dat a, .no, .no, .no] = some (.ok (.nam 6) ([.no, .no, .dat a, .no, .no, .no] ++ [.own dueD])) := by rfl
def okB : Option (Rs Bool) → Bool
  | some (.ok false _) => true
  | _ => false
theorem okB_e {r : Option (Rs Bool)} (h : okB r = true) : ∃ e, r = some (.ok false e) := by
  unfold okB at h
  split at h
  · exact ⟨_, rfl⟩
  · cases h
theorem f_cond : okB (((tBl (eBin oNe (eBin oAdd (eVar 2) (eFz kLst (aCons (eC (.int 500)) (aCons (eC (.int 3)) (aCons (eC (.int 60)) (aCons (eC (.int 20)) aNil)))))) (eVar 3)))) (eLD limD dueD)) = true := by kernel_rfl
def okI (i : Int) : Option (Rs AV) → Bool
  | some (.ok (.dat (.int j)) _) => i == j
  | _ => false
theorem okI_e {i : Int} {r : Option (Rs AV)} (h : okI i r = true) : ∃ e, r = some (.ok (.dat (.int i)) e) := by
  unfold okI at h
  split at h
  · rw [beq_iff_eq] at h
    subst h
    exact ⟨_, rfl⟩
  · cases h
theorem f_neg : okI (-1) (((eUn oNeg (eC (.int 1)))) eN) = true := by kernel_rfl
theorem f_pow : okI (10 ^ 29) (((eBin oPow (eC (.int 10)) (eC (.int 29)))) eN) = true := by kernel_rfl
def someD : List D := [.none, .bool true, .bool false, .int (-1), .int (10 ^ 29), .str "", .str "x", .tuple [], .list [], .dict [], .tuple [.int 0], .list [.int 0], .dict [(.str "x", .int 1)], .tuple [.str "->", .int 0, .int 1]]
theorem some_small : someD.all small = true := by kernel_rfl
theorem da_mem {T : Addr → Prop} {H : Hp} : ∀ {vs : List V} {ds : List D} {v : V}, DaAll T H vs ds → v ∈ vs → ∃ d, d ∈ ds ∧ Da T H v d
  | _, _, _, .nil, h => nomatch h
  | _, _, v, .cons (d := d) a t, h => by
    rcases List.mem_cons.mp h with rfl | h
    · exact ⟨d, List.mem_cons_self, a⟩
    · obtain ⟨d', m, r⟩ := da_mem t h
      exact ⟨d', List.mem_cons_of_mem _ m, r⟩
section
variable {P : Program} {w : World} {K : PySem.W.Frag} {mg : Str → Option Value} {base : Heap}
def spLaw (K : PySem.W.Frag) : Sp := fun vs H Q _ => ∃ (a : Addr) (ns : List Int), vs = [.ref a] ∧ SqL K H a (ns.map V.int) ∧ ns.length ≤ 63 ∧ ∀ H', Q (.bl true) H'
theorem ok_law (T : Ty K mg) : FnX P w K mg base 64 T.law.f T.law.fd ["_law_script"] (spLaw K) := by
  refine fnX_mk T.law.F sc_law (fun vs H Q E h => by obtain ⟨a, ns, rfl, _⟩ := h; rfl) fun cdv A outer s H vs Q E hgd hr hsp => ?_
  have tk := takes_of (E := E) (X := cxOf (L2.CX P w) P w K mg base ["_law_script", "_law_drawn", "_law_limits", "_law_due", "_law_some", "_law_turn"] "law" (defScope s_law) T.law.f cdv A outer s H E) rfl rfl rfl rfl
  obtain ⟨a, ns, rfl, hS, hlen, q⟩ := hsp
  have G1 := ok_law_one (P := P) (w := w) (base := base) T.toTx
  have one := pa_cons (pe_var (X := cxOf (L2.CX P w) P w K mg base ["_law_script", "_law_drawn", "_law_limits", "_law_due", "_law_some", "_law_turn"] "law" (defScope s_law) T.law.f cdv A outer s H E) (i := 1) (pos := ⟨0, 0, 0, 0⟩) (x := "_law_drawn") (by rfl) (by (first | exact Or.inl rfl | exact Or.inr (Or.inl rfl) | exact Or.inr (Or.inr rfl)))) (pa_cons (pe_var (i := 4) (pos := ⟨0, 0, 0, 0⟩) (x := "_law_some") (by rfl) (by (first | exact Or.inl rfl | exact Or.inr (Or.inl rfl) | exact Or.inr (Or.inr rfl)))) pa_nil)
  refine ⟨_, pss_cons (ps_set (i := 1) sc_law.nd rfl (by (first | exact Or.inl rfl | exact Or.inr rfl)) (pe_call (ok_law_draws T.toTx) (hr.mono (by omega)) (by rfl) T.law_draws.g T.law_draws.F.kp T.law_draws.b .nil pass0 (pa_cons (pe_var (i := 0) (by rfl) (by (first | exact Or.inl rfl | exact Or.inr (Or.inl rfl) | exact Or.inr (Or.inr rfl)))) pa_nil)))
    (pss_cons (ps_set (i := 2) sc_law.nd rfl (by (first | exact Or.inl rfl | exact Or.inr rfl)) pe_w) (pss_cons (ps_set (i := 3) sc_law.nd rfl (by (first | exact Or.inl rfl | exact Or.inr rfl)) (pe_lst (pa_cons pe_int (pa_cons pe_int (pa_cons pe_int (pa_cons pe_int (pa_cons pe_int (pa_cons pe_int (pa_cons pe_int (pa_cons pe_int (pa_cons pe_int (pa_cons pe_int (pa_cons pe_int (pa_cons pe_int (pa_cons pe_int (pa_cons pe_int (pa_cons pe_int (pa_cons pe_int (pa_cons pe_int (pa_cons pe_int pa_nil))))))))))))))))))))
      (pss_cons (ps_if (PW.pt (pw_or pt_w (pw_or1 (pt_not (pt_val (pe_callX0 (ok_objects T) hgd (hr.mono (by omega)) tk (by rfl) T.law_objects_right.g T.law_objects_right.F.kp T.law_objects_right.b)))))) pss_w pss_nil)
        (pss_cons (ps_set (i := 4) sc_law.nd rfl (by (first | exact Or.inl rfl | exact Or.inr rfl)) (pe_lst (pa_cons pe_non (pa_cons pe_bl (pa_cons pe_bl (pa_cons pe_w (pa_cons pe_w (pa_cons pe_str (pa_cons pe_str (pa_cons (pe_tup pa_nil) (pa_cons (pe_lst pa_nil) (pa_cons pe_dnewK (pa_cons (pe_tup (pa_cons pe_int pa_nil)) (pa_cons (pe_lst (pa_cons pe_int pa_nil)) (pa_cons (pe_disp (pps_cons pe_str pe_int pps_nil) (by rfl) (by rfl) (by simp) (by decide)) (pa_cons (pe_tup (pa_cons pe_str (pa_cons pe_int (pa_cons pe_int pa_nil)))) pa_nil))))))))))))))))
          (pss_cons (ps_for PassesOwn.leaving rfl (pi_range1 (by rfl) T.m_range (pa_cons pe_int pa_nil)) (pg_name (i := 5) sc_law.nd rfl (by (first | exact Or.inl rfl | exact Or.inr rfl)))
              (pss_one (ps_if (pt_not (pt_val (pe_callX (ok_right T) hgd (hr.mono (by omega)) tk (by rfl) T.law_right.g T.law_right.F.kp T.law_right.b
                (pa_cons (pe_call G1 (hr.mono (by omega)) (by rfl) T.law_one.g T.law_one.F.kp T.law_one.b .nil pass0 (pa_cons (pe_var (i := 1) (by rfl) (by (first | exact Or.inl rfl | exact Or.inr (Or.inl rfl) | exact Or.inr (Or.inr rfl)))) (pa_cons (pe_var (i := 4) (by rfl) (by (first | exact Or.inl rfl | exact Or.inr (Or.inl rfl) | exact Or.inr (Or.inr rfl)))) pa_nil)))
                  (pa_cons (pe_call G1 (hr.mono (by omega)) (by rfl) T.law_one.g T.law_one.F.kp T.law_one.b .nil pass0 (pa_cons (pe_var (i := 1) (by rfl) (by (first | exact Or.inl rfl | exact Or.inr (Or.inl rfl) | exact Or.inr (Or.inr rfl)))) (pa_cons (pe_var (i := 4) (by rfl) (by (first | exact Or.inl rfl | exact Or.inr (Or.inl rfl) | exact Or.inr (Or.inr rfl)))) pa_nil)))
                    (pa_cons (pe_call G1 (hr.mono (by omega)) (by rfl) T.law_one.g T.law_one.F.kp T.law_one.b .nil pass0 (pa_cons (pe_var (i := 1) (by rfl) (by (first | exact Or.inl rfl | exact Or.inr (Or.inl rfl) | exact Or.inr (Or.inr rfl)))) (pa_cons (pe_var (i := 4) (by rfl) (by (first | exact Or.inl rfl | exact Or.inr (Or.inl rfl) | exact Or.inr (Or.inr rfl)))) pa_nil))) pa_nil)))))) pss_w pss_nil)))
            (pss_one (ps_ret pe_bl))))))), ?_⟩
  refine ⟨.ref a, rfl, a, ns, rfl, hS, hlen, fun p H1 hp k1 dr1 => ?_⟩
  obtain ⟨g0, m0, c0, hp1, _⟩ := id dr1
  -- the limits
  refine je_run (W := fun cls d _ H' => E cls d H') (j_lst (j_cons (j_gI (by rfl) T.g_VARIABLES) (j_cons (j_gI (by rfl) T.g_NODES) (j_cons (j_gI (by rfl) T.g_DEPTH) (j_cons (j_gI (by rfl) T.g_GROUPS) (j_cons (j_gI (by rfl) T.g_LISTED) (j_cons (j_gI (by rfl) T.g_DATAS) (j_cons (j_gI (by rfl) T.g_PLACES) (j_cons (j_gI (by rfl) T.g_ROWS) (j_cons (j_gI (by rfl) T.g_MET) (j_cons (j_gI (by rfl) T.g_SIZES) (j_cons (j_gI (by rfl) T.g_FORM) (j_cons (j_gI (by rfl) T.g_TREE) (j_cons (j_gI (by rfl) T.g_DEFINITIONS) (j_cons (j_gI (by rfl) T.g_CALLS) j_nil))))))))))))))) (relN (S := S0) (x2 := .no) (x3 := .no) (by rfl) (fun a h => h.elim) (by rfl) (by rfl)) f_lim fun as2 H2 τ2 v2 R2 E2 V2 => ?_
  have k2 : Same H1 H2 := fun b o e => E2.kp b o as6_no e
  have D2 : Da S0 H2 v2 limD := (V2.lk R2 rfl).read
  refine ⟨by show 18 ≤ sizeLine; rw [sizeLine_eq]; decide, fun p0 h0 => ?_⟩
  have k3 : Same H2 (upd H2 p0 (.lst [.int 199, .int 200, .int 30, .int 80, .int 50, .int 6, .int 60, .int 8, .int 200, .int 40, .int 500, .int 1000, .int 8, .int 2000, .int 500, .int 3, .int 60, .int 20])) := same_upd h0
  have D3 : Da S0 (upd H2 p0 (.lst [.int 199, .int 200, .int 30, .int 80, .int 50, .int 6, .int 60, .int 8, .int 200, .int 40, .int 500, .int 1000, .int 8, .int 2000, .int 500, .int 3, .int 60, .int 20])) (.ref p0) dueD := .lst (fun h => h) upd_same (.cons (.int _) (.cons (.int _) (.cons (.int _) (.cons (.int _) (.cons (.int _) (.cons (.int _) (.cons (.int _) (.cons (.int _) (.cons (.int _) (.cons (.int _) (.cons (.int _) (.cons (.int _) (.cons (.int _) (.cons (.int _) (.cons (.int _) (.cons (.int _) (.cons (.int _) (.cons (.int _) .nil))))))))))))))))))
  dsimp only [gName]
  generalize (upd H2 p0 (.lst [V.int 199, V.int 200, V.int 30, V.int 80, V.int 50, V.int 6, V.int 60, V.int 8, V.int 200, V.int 40, V.int 500, V.int 1000, V.int 8, V.int 2000, V.int 500, V.int 3, V.int 60, V.int 20])) = H3 at k3 D3 ⊢
  obtain ⟨e4, he4⟩ := okB_e f_cond
  dsimp only [gName, tSeq, tIfS, tOr]
  refine jt_run (W := fun cls d _ H' => E cls d H') (j_tcmp (opj_ne (hu64 hr)) (j_bin opj_add (j_var rfl (by (first | exact Or.inl rfl | exact Or.inr (Or.inl rfl) | exact Or.inr (Or.inr rfl)))) (j_lst (j_cons (j_gI (by rfl) T.g_SHOWN) (j_cons (j_gI (by rfl) T.g_PARAMETERS) (j_cons (j_gI (by rfl) T.g_EDITS) (j_cons (j_gI (by rfl) T.g_BATCH) j_nil)))))) (j_var rfl (by (first | exact Or.inl rfl | exact Or.inr (Or.inl rfl) | exact Or.inr (Or.inr rfl)))) (nomark _)) (relN (S := S0) (x2 := .dat limD) (x3 := .dat dueD) (by rfl) (fun a h => h.elim) ⟨by rfl, v2, by rfl, so6 (D2.same k3)⟩ ⟨by rfl, .ref p0, by rfl, so6 D3⟩) he4 fun as4 H4 τ4 R4 E4 => ?_
  have k4 : Same H3 H4 := fun b o e => E4.kp b o as6_no e
  try dsimp only
  rw [if_neg (by decide)]
  refine ⟨rfl, fun H5 k5 => ⟨true, rfl, ?_⟩⟩
  try dsimp only
  rw [if_neg (by decide)]
  -- the values
  obtain ⟨e6, he6⟩ := okI_e f_neg
  refine je_run (W := fun cls d _ H' => E cls d H') (j_neg j_int) (relN (S := S0) (x2 := .no) (x3 := .no) (by rfl) (fun a h => h.elim) (by rfl) (by rfl)) he6 fun as6' H6 τ6 v6 R6 E6 V6 => ?_
  have k6 : Same H5 H6 := fun b o e => E6.kp b o as6_no e
  obtain rfl : v6 = .int (-1) := by cases (show Da (So S0 as6') H6 v6 (.int (-1)) from V6); rfl
  obtain ⟨e7, he7⟩ := okI_e f_pow
  refine je_run (W := fun cls d _ H' => E cls d H') (j_bin opj_pow j_int j_int) (relN (S := S0) (x2 := .no) (x3 := .no) (by rfl) (fun a h => h.elim) (by rfl) (by rfl)) he7 fun as7' H7 τ7 v7 R7 E7 V7 => ?_
  have k7 : Same H6 H7 := fun b o e => E7.kp b o as6_no e
  obtain rfl : v7 = .int (10 ^ 29) := by cases (show Da (So S0 as7') H7 v7 (.int (10 ^ 29)) from V7); rfl
  have kA : Same H1 H7 := ((((k2.trans k3).trans k4).trans k5).trans k6).trans k7
  have dr7 : Drawn H7 p := dr1.same kA
  have gp7 := kA _ _ hp1
  clear V7 R7 E7 V6 R6 E6 R4 E4 V2 R2 E2
  refine ⟨Nat.zero_le _, fun p1 h1 => ?_⟩
  refine ⟨Nat.zero_le _, fun p2 h2 => ?_⟩
  refine fun p3 h3 => ?_
  refine ⟨by show 1 ≤ sizeLine; rw [sizeLine_eq]; decide, fun p4 h4 => ?_⟩
  refine ⟨by show 1 ≤ sizeLine; rw [sizeLine_eq]; decide, fun p5 h5 => ?_⟩
  refine fun p6 h6 => ⟨upd_same, [(.inr "x", .int 1)], rfl, by decide, ?_⟩
  refine ⟨by show 3 ≤ sizeLine; rw [sizeLine_eq]; decide, fun p7 h7 => ?_⟩
  refine ⟨by show 14 ≤ sizeLine; rw [sizeLine_eq]; decide, fun p8 h8 => ?_⟩
  rw [upd_upd] at h7 h8 ⊢
  have s1 := same_upd (o := .tup []) h1
  have s2 := same_upd (o := .lst []) h2
  have s3 := same_upd (o := .dK []) h3
  have s4 := same_upd (o := .tup [.int 0]) h4
  have s5 := same_upd (o := .lst [.int 0]) h5
  have s6 := same_upd (o := .dK (mergeK [] [(.inr "x", .int 1)])) h6
  have s7 := same_upd (o := .tup [.str "->", .int 0, .int 1]) h7
  have s8 := same_upd (o := .lst [.non, .bl true, .bl false, .int (-1), .int (10 ^ 29), .str "", .str "x", .ref p1, .ref p2, .ref p3, .ref p4, .ref p5, .ref p6, .ref p7]) h8
  have nw : ∀ {J : Hp} {b : Addr}, J b = none → Same H7 J → b ≠ p := fun h k e => by
    rw [e, k _ _ gp7] at h
    cases h
  have t12 := s1.trans s2
  have t13 := t12.trans s3
  have t14 := t13.trans s4
  have t15 := t14.trans s5
  have t16 := t15.trans s6
  have t17 := t16.trans s7
  have t18 := t17.trans s8
  have c8 := nw h8 t17
  have A1 : Da (fun b => b = p) (upd H7 p1 (.tup [])) (.ref p1) (.tuple []) := .tup (nw h1 (Same.refl _)) upd_same .nil
  have A2 : Da (fun b => b = p) (upd (upd H7 p1 (.tup [])) p2 (.lst [])) (.ref p2) (.list []) := .lst (nw h2 s1) upd_same .nil
  have A3 : Da (fun b => b = p) (upd (upd (upd H7 p1 (.tup [])) p2 (.lst [])) p3 (.dK [])) (.ref p3) (.dict []) := .dct (kvs := []) (ds := []) (nw h3 t12) upd_same .nil
  have A4 : Da (fun b => b = p) (upd (upd (upd (upd H7 p1 (.tup [])) p2 (.lst [])) p3 (.dK [])) p4 (.tup [.int 0])) (.ref p4) (.tuple [.int 0]) := .tup (nw h4 t13) upd_same (.cons (.int 0) .nil)
  have A5 : Da (fun b => b = p) (upd (upd (upd (upd (upd H7 p1 (.tup [])) p2 (.lst [])) p3 (.dK [])) p4 (.tup [.int 0])) p5 (.lst [.int 0])) (.ref p5) (.list [.int 0]) := .lst (nw h5 t14) upd_same (.cons (.int 0) .nil)
  have A6 : Da (fun b => b = p) (upd (upd (upd (upd (upd (upd H7 p1 (.tup [])) p2 (.lst [])) p3 (.dK [])) p4 (.tup [.int 0])) p5 (.lst [.int 0])) p6 (.dK (mergeK [] [(.inr "x", .int 1)]))) (.ref p6) (.dict [(.str "x", .int 1)]) := .dct (kvs := [(.inr "x", .int 1)]) (ds := [.int 1]) (nw h6 t15) upd_same (.cons (.int 1) .nil)
  have A7 : Da (fun b => b = p) (upd (upd (upd (upd (upd (upd (upd H7 p1 (.tup [])) p2 (.lst [])) p3 (.dK [])) p4 (.tup [.int 0])) p5 (.lst [.int 0])) p6 (.dK (mergeK [] [(.inr "x", .int 1)]))) p7 (.tup [.str "->", .int 0, .int 1])) (.ref p7) (.tuple [.str "->", .int 0, .int 1]) := .tup (nw h7 t16) upd_same (.cons (.str "->") (.cons (.int 0) (.cons (.int 1) .nil)))
  have dr8 := dr7.same t18
  have B1 := A1.same (((((((s2.trans s3).trans s4).trans s5).trans s6).trans s7).trans s8))
  have B2 := A2.same ((((((s3.trans s4).trans s5).trans s6).trans s7).trans s8))
  have B3 := A3.same (((((s4.trans s5).trans s6).trans s7).trans s8))
  have B4 := A4.same ((((s5.trans s6).trans s7).trans s8))
  have B5 := A5.same (((s6.trans s7).trans s8))
  have B6 := A6.same ((s7.trans s8))
  have B7 := A7.same s8
  have BA := (DaAll.cons (S := fun b => b = p) Da.non (.cons (.bl true) (.cons (.bl false) (.cons (.int (-1)) (.cons (.int (10 ^ 29)) (.cons (.str "") (.cons (.str "x") (.cons B1 (.cons B2 (.cons B3 (.cons B4 (.cons B5 (.cons B6 (.cons B7 .nil))))))))))))))
  have g8 : ∀ J : Hp, (upd J p8 (.lst [.non, .bl true, .bl false, .int (-1), .int (10 ^ 29), .str "", .str "x", .ref p1, .ref p2, .ref p3, .ref p4, .ref p5, .ref p6, .ref p7])) p8 = _ := fun J => upd_same
  have g9 := g8 (upd (upd (upd (upd (upd (upd (upd H7 p1 (.tup [])) p2 (.lst [])) p3 (.dK [])) p4 (.tup [.int 0])) p5 (.lst [.int 0])) p6 (.dK (mergeK [] [(.inr "x", .int 1)]))) p7 (.tup [.str "->", .int 0, .int 1]))
  have BD : DaAll (fun b => b = p) _ _ someD := BA
  refine ⟨4, rfl, by decide, by decide, fun i m σ H' => i + m = 4 ∧ σ.length = 6 ∧ σ[1]? = some (some (.ref p)) ∧ σ[4]? = some (some (.ref p8)) ∧ Drawn H' p ∧ H' p8 = some (.lst [.non, .bl true, .bl false, .int (-1), .int (10 ^ 29), .str "", .str "x", .ref p1, .ref p2, .ref p3, .ref p4, .ref p5, .ref p6, .ref p7]) ∧ DaAll (fun b => b = p) H' [.non, .bl true, .bl false, .int (-1), .int (10 ^ 29), .str "", .str "x", .ref p1, .ref p2, .ref p3, .ref p4, .ref p5, .ref p6, .ref p7] someD, ⟨4, rfl, rfl, rfl, rfl, dr8, g9, BD⟩, ?_⟩
  clear BD BA B1 B2 B3 B4 B5 B6 B7 A1 A2 A3 A4 A5 A6 A7 g9 g8 dr8
  generalize [V.non, .bl true, .bl false, .int (-1), .int (10 ^ 29), .str "", .str "x", .ref p1, .ref p2, .ref p3, .ref p4, .ref p5, .ref p6, .ref p7] = xs
  rintro i m σ Hc ⟨him, hl, a1, a4, drc, hx, hda⟩
  by_cases hi : i < 4
  · refine .inr ⟨hi, fun σ' H' => (i + 1) + (m - 1) = 4 ∧ σ'.length = 6 ∧ σ'[1]? = some (some (.ref p)) ∧ σ'[4]? = some (some (.ref p8)) ∧ Drawn H' p ∧ H' p8 = some (.lst xs) ∧ DaAll (fun b => b = p) H' xs someD, fun σ' H' h => ⟨m - 1, by omega, h⟩, ?_⟩
    rintro v _ ⟨rfl, rfl⟩
    have hlen2 : xs.length = 14 := hda.length.trans rfl
    have b1 : (σ.set 5 (some (V.int (0 + (i : Nat)))))[1]? = some (some (.ref p)) := by rw [List.getElem?_set_ne (by decide)]; exact a1
    have b4 : (σ.set 5 (some (V.int (0 + (i : Nat)))))[4]? = some (some (.ref p8)) := by rw [List.getElem?_set_ne (by decide)]; exact a4
    refine ⟨_, b1, _, b4, p, p8, xs, rfl, drc, hx, c8, by omega, by omega, fun x1 Hd m1 k1' d1 => ?_⟩
    have keep : ∀ {J J' : Hp} {vs : List V} {ds : List D}, Kp (fun b => b = p) J J' → DaAll (fun b => b = p) J vs ds → DaAll (fun b => b = p) J' vs ds := fun k h => DaAll.keep k (fun _ z => z) h
    have keep1 : ∀ {J J' : Hp} {v : V} {d : D}, Kp (fun b => b = p) J J' → Da (fun b => b = p) J v d → Da (fun b => b = p) J' v d := fun k h => Da.keep k (fun _ z => z) h
    obtain ⟨y1, n1, z1⟩ := da_mem (keep k1' hda) m1
    have hx1 := k1' _ _ c8 hx
    have hda1 := keep k1' hda
    refine ⟨_, b1, _, b4, p, p8, xs, rfl, d1, hx1, c8, by omega, by omega, fun x2 He m2 k2' d2 => ?_⟩
    obtain ⟨y2, n2, z2⟩ := da_mem (keep k2' hda1) m2
    have hx2 := k2' _ _ c8 hx1
    have hda2 := keep k2' hda1
    refine ⟨_, b1, _, b4, p, p8, xs, rfl, d2, hx2, c8, by omega, by omega, fun x3 Hf m3 k3' d3 => ?_⟩
    obtain ⟨y3, n3, z3⟩ := da_mem (keep k3' hda2) m3
    have hx3 := k3' _ _ c8 hx2
    have hda3 := keep k3' hda2
    have sm := fun y hy => List.all_eq_true.mp some_small y hy
    refine ⟨x1, x2, x3, y1, y2, y3, rfl, (keep1 k3' (keep1 k2' z1)).less (fun _ h => h.elim), (keep1 k3' z2).less (fun _ h => h.elim), z3.less (fun _ h => h.elim), sm _ n1, sm _ n2, sm _ n3, fun Hg kg => ⟨true, rfl, ?_⟩⟩
    try dsimp only
    rw [if_neg (by decide)]
    exact ⟨by omega, by rw [List.length_set]; exact hl, b1, b4, d3.same kg, kg _ _ hx3, hda3.same kg⟩
  · exact .inl ⟨by show 4 ≤ i; omega, q _⟩
end
end K84
set_option Elab.async false
set_option linter.all false
set_option maxRecDepth 100000
set_option maxHeartbeats 4000000
namespace Sl
open PySem PySem.Spec PyProof.Rows L2
/-! ### what the top leaves, told by one look at the heap behind it -/
structure Qs (fn : List He.FnD) (ex : PySem.W.Frag → Bool) (K : PySem.W.Frag) : Prop where
  x : ex K = true
  v : fn.map (fun d => He.fnObs K d.at_) = fn.map He.FnD.val
def lookH (fn : List He.FnD) (ex : PySem.W.Frag → Bool) (K : PySem.W.Frag) : Bool × List He.FnV := (ex K, fn.map fun d => He.fnObs K d.at_)
def lookG (n : Nat) (fn : List He.FnD) (ex : PySem.W.Frag → Bool) (g : Addr → Option Obj) : Bool × List He.FnV := lookH fn ex (He.frG g (He.asG g n))
def hookH (n : Nat) (fn : List He.FnD) (ex : PySem.W.Frag → Bool) : PySem.W.Hook where
  α := Bool × List He.FnV
  obs := fun s => lookG n fn ex s.heap.get?
  val := fun _ => (true, fn.map He.FnD.val)
  says := fun _ h => ∃ K : PySem.W.Frag, K.In h ∧ Qs fn ex K
  of := fun _ _ e => ⟨_, He.frG_in, ⟨congrArg (fun z : Bool × List He.FnV => z.1) e, congrArg (fun z : Bool × List He.FnV => z.2) e⟩⟩
  keeps := fun _ _ _ ⟨K, i, c⟩ k => ⟨K, PySem.W.Frag.In.keeps i k, c⟩
def obH (n : Nat) (fn : List He.FnD) (ex : PySem.W.Frag → Bool) (s : PySem.W.SharedT) : Bool × List He.FnV := lookG n fn ex (HandSHeadRun.getT s)
theorem obH_eq {n : Nat} {fn : List He.FnD} {ex : PySem.W.Frag → Bool} (s : PySem.W.SharedT) : obH n fn ex s = (hookH n fn ex).obs s.abs := by
  have e : HandSHeadRun.getT s = s.abs.heap.get? := funext (HandSHeadRun.getT_eq s)
  show lookG n fn ex (HandSHeadRun.getT s) = lookG n fn ex s.abs.heap.get?
  rw [e]
/-! ### its parts -/
def fnB (K : PySem.W.Frag) (d : He.FnD) : Bool := (He.Fa.code d.at_ d.qual).ok K && PySem.W.keepIn K (.ref (He.fAd K d.at_))
def gloB (K : PySem.W.Frag) (x : Str) : Bool := decide (PySem.W.nsIn K mainGlobals x = some (some (.ref (He.ga K x))))
def freeB (K : PySem.W.Frag) (x : Str) : Bool := decide (PySem.W.nsIn K mainGlobals x = some none)
def numB (K : PySem.W.Frag) (p : Str × Int) : Bool := match PySem.W.nsIn K mainGlobals p.1 with
  | some (some (.int j _)) => decide (j = p.2)
  | _ => false
def txtB (K : PySem.W.Frag) (p : Str × Str) : Bool := match PySem.W.nsIn K mainGlobals p.1 with
  | some (some (.str y _)) => decide (y = p.2)
  | _ => false
section
variable {fn : List He.FnD} {ex : PySem.W.Frag → Bool} {K : PySem.W.Frag} {x : Str}
theorem gloB_ok {xs : List Str} (h : xs.all (gloB K) = true) (x : Str) (m : xs.contains x = true := by decide +kernel) : PySem.W.nsIn K mainGlobals x = some (some (.ref (He.ga K x))) :=
  of_decide_eq_true (List.all_eq_true.mp h x (List.contains_iff_mem.mp m))
theorem freeB_ok {xs : List Str} (h : xs.all (freeB K) = true) (x : Str) (m : xs.contains x = true := by decide +kernel) : PySem.W.nsIn K mainGlobals x = some none :=
  of_decide_eq_true (List.all_eq_true.mp h x (List.contains_iff_mem.mp m))
theorem numB_at {p : Str × Int} (h : numB K p = true) : ∃ t, PySem.W.nsIn K mainGlobals p.1 = some (some (.int p.2 t)) := by
  unfold numB at h
  split at h
  · rename_i j t e
    exact ⟨t, by rw [e, of_decide_eq_true h]⟩
  · cases h
theorem txtB_at {p : Str × Str} (h : txtB K p = true) : ∃ t, PySem.W.nsIn K mainGlobals p.1 = some (some (.str p.2 t)) := by
  unfold txtB at h
  split at h
  · rename_i j t e
    exact ⟨t, by rw [e, of_decide_eq_true h]⟩
  · cases h
theorem numB_ok {xs : List (Str × Int)} (h : xs.all (numB K) = true) (x : Str) (i : Int) (m : xs.contains (x, i) = true := by decide +kernel) : ∃ t, PySem.W.nsIn K mainGlobals x = some (some (.int i t)) :=
  numB_at (List.all_eq_true.mp h (x, i) (List.contains_iff_mem.mp m))
theorem txtB_ok {xs : List (Str × Str)} (h : xs.all (txtB K) = true) (x z : Str) (m : xs.contains (x, z) = true := by decide +kernel) : ∃ t, PySem.W.nsIn K mainGlobals x = some (some (.str z t)) :=
  txtB_at (List.all_eq_true.mp h (x, z) (List.contains_iff_mem.mp m))
theorem Qs.def_ (c : Qs fn ex K) (h2 : fn.all (fnB K) = true) (i : Nat) {d : He.FnD} (h : fn[i]? = some d := by rfl) :
    ∃ oc od osl kV doc pm an cdv ct, K.lookup (He.fAd K d.at_) = some ⟨oc, od, .func (PySem.W.fnOf d.name d.qual d.params d.body d.scope .none kV doc pm an cdv ct), osl⟩ ∧ PySem.W.codeIn K cdv d.qual = true ∧ PySem.W.keepIn K (.ref (He.fAd K d.at_)) = true := by
  have e2 : (fn.map fun d => He.fnObs K d.at_)[i]? = (fn.map He.FnD.val)[i]? := by rw [c.v]
  rw [List.getElem?_map, List.getElem?_map, h] at e2
  have b := List.all_eq_true.mp h2 d (List.mem_of_getElem? h)
  unfold fnB at b
  rw [Bool.and_eq_true] at b
  obtain ⟨oc, od, osl, kV, doc, pm, an, cdv, ct, l, cc⟩ := He.fn_ok (Option.some.inj e2) b.1
  exact ⟨oc, od, osl, kV, doc, pm, an, cdv, ct, l, cc, b.2⟩
end
/-- the end, for a part of the heap that is told by a look -/
theorem walk_goH {l : PySem.W.OpenLaw} {n k : Nat} {q : Program} {loose : List Str} {XP : (Str → Option Value) → Heap → Prop} {YP : World → Heap → Prop} {d : DefRec} {sp : PySem.W.Frag → Sp} {x : Str}
    (hn : l.most = some n) (hz : n ≤ sizeLine) (hdf : d.params.defaults = []) (hr : Room k callerA)
    (F : ∀ (w : World) (mg : Str → Option Value) (fa : Addr) (h : Heap), YP w h → h.Ns mainGlobals mg → mg d.name = some (.ref fa) →
      ∃ (K : PySem.W.Frag) (fd : FuncData), K.In h ∧ (∀ (s : Shared) (u : Value), BindsTo s fd ⟨[u], []⟩ [(x, u)]) ∧ ∀ base : Heap, K.In base → base.Ns mainGlobals mg → FnG l.prog w K mg base k fa fd [x] (sp K))
    (hsp : ∀ (K : PySem.W.Frag) (H : Hp) (a : Addr) (ns : List Int), ns.length ≤ n → SqL K H a (ns.map V.int) → (∀ b, b ≠ a → H b = none) → (H a ≠ none → ∃ o, H a = some (.frz o (.lst (ns.map V.int)))) → sp K [.ref a] H (fun v _ => v = .bl true) E0) :
    PySem.W.WalkO q loose XP YP l.row.toRowW d [] (fun f vs => PySem.call f vs) := by
  refine Att.attach_call hn hdf fun w s₀ s₁ mg mb fa o pm cd doc a vs ns G Y _ _ _ hmg hobj hints hlen hg => ?_
  obtain ⟨K, fd, KX, hb, hF⟩ := F w mg fa _ Y G.T.g hmg
  exact law_go KX G.T.g G.T.b G.T.builtins G.T.nolimit hg hobj hints (Nat.le_trans hlen hz) hr hF hb fun H h1 h2 h3 => hsp _ H a ns hlen h1 h2 h3
end Sl
set_option Elab.async false
set_option linter.all false
set_option maxRecDepth 100000
set_option maxHeartbeats 8000000
namespace K84
open PySem PySem.Spec PyProof.Rows L2 Sl
/-! ### the facts of a class, by one test -/
def gB (K : PySem.W.Frag) (C : Addr) : Bool := xfB K C && ((PySem.W.clsIn K C).isSome && (decide (PySem.W.findIn K (.ref C) "__class__" = some (some (.builtin "object.__class__"))) && (decide (PySem.W.specialIn K (.builtin "object.__class__") "__get__" = some (some (.builtin "getset_descriptor.__get__"))) &&
  (decide (PySem.W.takesIn K (.builtin "object.__class__") = some true) && decide (PySem.W.mroIn K C (.type "object") = some true)))))
theorem gB_is {K : PySem.W.Frag} {C : Addr} (h : gB K C = true) : IsG K C := by
  unfold gB at h
  simp only [Bool.and_eq_true, decide_eq_true_eq] at h
  obtain ⟨h1, h2, h3, h4, h5, h6⟩ := h
  have x := xfB_ok h1
  exact ⟨h2, x.ga, x.gg, x.exC, h3, h4, h5, h6⟩
theorem gB_xf {K : PySem.W.Frag} {C : Addr} (h : gB K C = true) : XfC K C := xfB_ok ((Bool.and_eq_true _ _).mp h).1
def eB (K : PySem.W.Frag) (C : Addr) (bmB : List Value) (newId : String) (fs : List Str) : Bool := gB K C && (PySem.W.excInitIn K C bmB newId && (PySem.W.excOver K C bmB && (decide (PySem.W.findIn K (.ref C) "__setattr__" = some (some (.builtin "object.__setattr__"))) && (PySem.W.hasDictIn K C && (PySem.W.keepIn K (.ref C) && fs.all fun f => decide (PySem.W.findIn K (.ref C) f = some none))))))
section
variable {K : PySem.W.Frag} {C : Addr} {bmB : List Value} {B newId initId : String} {fs : List Str}
theorem eB_ok (FB : ExcBaseFacts B newId initId bmB) (SF : StoreFacts B bmB "object.__setattr__" "object") (h : eB K C bmB newId fs = true) : ExG K C := by
  unfold eB at h
  simp only [Bool.and_eq_true, decide_eq_true_eq] at h
  obtain ⟨_, h2, h3, h4, h5, h6, _⟩ := h
  exact ⟨⟨B, newId, initId, bmB, FB, SF, h2, h3⟩, h4, h5, h6⟩
theorem eB_nf (h : eB K C bmB newId fs = true) : ∀ f ∈ fs, PySem.W.findIn K (.ref C) f = some none := by
  unfold eB at h
  simp only [Bool.and_eq_true, List.all_eq_true, decide_eq_true_eq] at h
  exact h.2.2.2.2.2.2
theorem eB_is (h : eB K C bmB newId fs = true) : IsG K C := gB_is ((Bool.and_eq_true _ _).mp h).1
theorem eB_xf (h : eB K C bmB newId fs = true) : XfC K C := gB_xf ((Bool.and_eq_true _ _).mp h).1
def nB (K : PySem.W.Frag) (C : Addr) (bmB : List Value) (newId : String) : Bool := gB K C && (PySem.W.excIn K C bmB newId && PySem.W.keepIn K (.ref C))
theorem nB_ok (FB : ExcBaseFacts B newId initId bmB) (h : nB K C bmB newId = true) : ExN K C := by
  unfold nB at h
  simp only [Bool.and_eq_true] at h
  exact ⟨⟨B, newId, initId, bmB, FB, h.2.1⟩, h.2.2⟩
theorem nB_is (h : nB K C bmB newId = true) : IsG K C := gB_is ((Bool.and_eq_true _ _).mp h).1
end
theorem all_mk {l : PySem.W.OpenLaw} {w : World} {K : PySem.W.Frag} {h : Heap} {mg : Str → Option Value} {fa f0 f1 f2 f3 f4 f5 f6 f7 f8 f9 C_BadShape i_BadShape_f C_BadCount i_BadCount_f C_NoMeeting C_NoSolution C_TooMany i_TooMany_f C_TooLarge i_TooLarge_f C_Clash i_Clash_f C_BadChain i_BadChain_f C_BadValue i_BadValue_f C_BadForm i_BadForm_f C_BadSize i_BadSize_f C_NoValue i_NoValue_f C_HasValues C_NotMet i_NotMet_f C_Idle i_Idle_f C_BadRows i_BadRows_f C_BadBook i_BadBook_f C_HasHole i_HasHole_f C_NotPlain i_NotPlain_f C_BadDatas i_BadDatas_f C_Used i_Used_f C_Refused i_Refused_f C_TooManyEdits C_NothingToUndo C_BadEdits C_BadEdit i_BadEdit_f C_Rejected i_Rejected_f C_Busy C_BadExpression i_BadExpression_f C_Incomplete i_Incomplete_f C_BadText i_BadText_f C_NoPlace i_NoPlace_f C_NoMaker i_NoMaker_f C_NoIndex i_NoIndex_f C_NoRow i_NoRow_f C_NoDefinition i_NoDefinition_f C_NoWord i_NoWord_f C_NoVersion i_NoVersion_f lang : Addr} (X : K.In h) (G : h.Ns mainGlobals mg) (hfa : mg "law" = some (.ref fa))
    {od0 an0 : Option Addr} {sl0 : Array (Option Value)} {oc0 kV0 dc0 pm0 cd0 ct0 : Value}
    {od1 an1 : Option Addr} {sl1 : Array (Option Value)} {oc1 kV1 dc1 pm1 cd1 ct1 : Value}
    {od2 an2 : Option Addr} {sl2 : Array (Option Value)} {oc2 kV2 dc2 pm2 cd2 ct2 : Value}
    {od3 an3 : Option Addr} {sl3 : Array (Option Value)} {oc3 kV3 dc3 pm3 cd3 ct3 : Value}
    {od4 an4 : Option Addr} {sl4 : Array (Option Value)} {oc4 kV4 dc4 pm4 cd4 ct4 : Value}
    {od5 an5 : Option Addr} {sl5 : Array (Option Value)} {oc5 kV5 dc5 pm5 cd5 ct5 : Value}
    {od6 an6 : Option Addr} {sl6 : Array (Option Value)} {oc6 kV6 dc6 pm6 cd6 ct6 : Value}
    {od7 an7 : Option Addr} {sl7 : Array (Option Value)} {oc7 kV7 dc7 pm7 cd7 ct7 : Value}
    {od8 an8 : Option Addr} {sl8 : Array (Option Value)} {oc8 kV8 dc8 pm8 cd8 ct8 : Value}
    {od9 an9 : Option Addr} {sl9 : Array (Option Value)} {oc9 kV9 dc9 pm9 cd9 ct9 : Value}
    {t_VARIABLES : Tok}
    {t_NODES : Tok}
    {t_DEPTH : Tok}
    {t_GROUPS : Tok}
    {t_LISTED : Tok}
    {t_DATAS : Tok}
    {t_PLACES : Tok}
    {t_ROWS : Tok}
    {t_MET : Tok}
    {t_SIZES : Tok}
    {t_FORM : Tok}
    {t_TREE : Tok}
    {t_DEFINITIONS : Tok}
    {t_CALLS : Tok}
    {t_SHOWN : Tok}
    {t_PARAMETERS : Tok}
    {t_EDITS : Tok}
    {t_BATCH : Tok}
    {od_BadShape an_BadShape : Option Addr} {sl_BadShape : Array (Option Value)} {oc_BadShape kV_BadShape dc_BadShape pm_BadShape cd_BadShape ct_BadShape : Value}
    {od_BadCount an_BadCount : Option Addr} {sl_BadCount : Array (Option Value)} {oc_BadCount kV_BadCount dc_BadCount pm_BadCount cd_BadCount ct_BadCount : Value}
    {od_TooMany an_TooMany : Option Addr} {sl_TooMany : Array (Option Value)} {oc_TooMany kV_TooMany dc_TooMany pm_TooMany cd_TooMany ct_TooMany : Value}
    {od_TooLarge an_TooLarge : Option Addr} {sl_TooLarge : Array (Option Value)} {oc_TooLarge kV_TooLarge dc_TooLarge pm_TooLarge cd_TooLarge ct_TooLarge : Value}
    {od_Clash an_Clash : Option Addr} {sl_Clash : Array (Option Value)} {oc_Clash kV_Clash dc_Clash pm_Clash cd_Clash ct_Clash : Value}
    {od_BadChain an_BadChain : Option Addr} {sl_BadChain : Array (Option Value)} {oc_BadChain kV_BadChain dc_BadChain pm_BadChain cd_BadChain ct_BadChain : Value}
    {od_BadValue an_BadValue : Option Addr} {sl_BadValue : Array (Option Value)} {oc_BadValue kV_BadValue dc_BadValue pm_BadValue cd_BadValue ct_BadValue : Value}
    {od_BadForm an_BadForm : Option Addr} {sl_BadForm : Array (Option Value)} {oc_BadForm kV_BadForm dc_BadForm pm_BadForm cd_BadForm ct_BadForm : Value}
    {od_BadSize an_BadSize : Option Addr} {sl_BadSize : Array (Option Value)} {oc_BadSize kV_BadSize dc_BadSize pm_BadSize cd_BadSize ct_BadSize : Value}
    {od_NoValue an_NoValue : Option Addr} {sl_NoValue : Array (Option Value)} {oc_NoValue kV_NoValue dc_NoValue pm_NoValue cd_NoValue ct_NoValue : Value}
    {od_NotMet an_NotMet : Option Addr} {sl_NotMet : Array (Option Value)} {oc_NotMet kV_NotMet dc_NotMet pm_NotMet cd_NotMet ct_NotMet : Value}
    {od_Idle an_Idle : Option Addr} {sl_Idle : Array (Option Value)} {oc_Idle kV_Idle dc_Idle pm_Idle cd_Idle ct_Idle : Value}
    {od_BadRows an_BadRows : Option Addr} {sl_BadRows : Array (Option Value)} {oc_BadRows kV_BadRows dc_BadRows pm_BadRows cd_BadRows ct_BadRows : Value}
    {od_BadBook an_BadBook : Option Addr} {sl_BadBook : Array (Option Value)} {oc_BadBook kV_BadBook dc_BadBook pm_BadBook cd_BadBook ct_BadBook : Value}
    {od_HasHole an_HasHole : Option Addr} {sl_HasHole : Array (Option Value)} {oc_HasHole kV_HasHole dc_HasHole pm_HasHole cd_HasHole ct_HasHole : Value}
    {od_NotPlain an_NotPlain : Option Addr} {sl_NotPlain : Array (Option Value)} {oc_NotPlain kV_NotPlain dc_NotPlain pm_NotPlain cd_NotPlain ct_NotPlain : Value}
    {od_BadDatas an_BadDatas : Option Addr} {sl_BadDatas : Array (Option Value)} {oc_BadDatas kV_BadDatas dc_BadDatas pm_BadDatas cd_BadDatas ct_BadDatas : Value}
    {od_Used an_Used : Option Addr} {sl_Used : Array (Option Value)} {oc_Used kV_Used dc_Used pm_Used cd_Used ct_Used : Value}
    {od_Refused an_Refused : Option Addr} {sl_Refused : Array (Option Value)} {oc_Refused kV_Refused dc_Refused pm_Refused cd_Refused ct_Refused : Value}
    {od_BadEdit an_BadEdit : Option Addr} {sl_BadEdit : Array (Option Value)} {oc_BadEdit kV_BadEdit dc_BadEdit pm_BadEdit cd_BadEdit ct_BadEdit : Value}
    {od_Rejected an_Rejected : Option Addr} {sl_Rejected : Array (Option Value)} {oc_Rejected kV_Rejected dc_Rejected pm_Rejected cd_Rejected ct_Rejected : Value}
    {od_BadExpression an_BadExpression : Option Addr} {sl_BadExpression : Array (Option Value)} {oc_BadExpression kV_BadExpression dc_BadExpression pm_BadExpression cd_BadExpression ct_BadExpression : Value}
    {od_Incomplete an_Incomplete : Option Addr} {sl_Incomplete : Array (Option Value)} {oc_Incomplete kV_Incomplete dc_Incomplete pm_Incomplete cd_Incomplete ct_Incomplete : Value}
    {od_BadText an_BadText : Option Addr} {sl_BadText : Array (Option Value)} {oc_BadText kV_BadText dc_BadText pm_BadText cd_BadText ct_BadText : Value}
    {od_NoPlace an_NoPlace : Option Addr} {sl_NoPlace : Array (Option Value)} {oc_NoPlace kV_NoPlace dc_NoPlace pm_NoPlace cd_NoPlace ct_NoPlace : Value}
    {od_NoMaker an_NoMaker : Option Addr} {sl_NoMaker : Array (Option Value)} {oc_NoMaker kV_NoMaker dc_NoMaker pm_NoMaker cd_NoMaker ct_NoMaker : Value}
    {od_NoIndex an_NoIndex : Option Addr} {sl_NoIndex : Array (Option Value)} {oc_NoIndex kV_NoIndex dc_NoIndex pm_NoIndex cd_NoIndex ct_NoIndex : Value}
    {od_NoRow an_NoRow : Option Addr} {sl_NoRow : Array (Option Value)} {oc_NoRow kV_NoRow dc_NoRow pm_NoRow cd_NoRow ct_NoRow : Value}
    {od_NoDefinition an_NoDefinition : Option Addr} {sl_NoDefinition : Array (Option Value)} {oc_NoDefinition kV_NoDefinition dc_NoDefinition pm_NoDefinition cd_NoDefinition ct_NoDefinition : Value}
    {od_NoWord an_NoWord : Option Addr} {sl_NoWord : Array (Option Value)} {oc_NoWord kV_NoWord dc_NoWord pm_NoWord cd_NoWord ct_NoWord : Value}
    {od_NoVersion an_NoVersion : Option Addr} {sl_NoVersion : Array (Option Value)} {oc_NoVersion kV_NoVersion dc_NoVersion pm_NoVersion cd_NoVersion ct_NoVersion : Value}
    (a0 : PySem.W.nsIn K mainGlobals "_law_draws" = some (some (.ref f0))) (l0 : K.lookup f0 = some ⟨oc0, od0, .func (PySem.W.fnOf "_law_draws" "_law_draws" (defArgs s_law_draws) (defBody s_law_draws) (defScope s_law_draws) .none kV0 dc0 pm0 an0 cd0 ct0), sl0⟩) (c0 : PySem.W.codeIn K cd0 "_law_draws" = true) (k0 : PySem.W.keepIn K (.ref f0) = true)
    (a1 : PySem.W.nsIn K mainGlobals "_law_next" = some (some (.ref f1))) (l1 : K.lookup f1 = some ⟨oc1, od1, .func (PySem.W.fnOf "_law_next" "_law_next" (defArgs s_law_next) (defBody s_law_next) (defScope s_law_next) .none kV1 dc1 pm1 an1 cd1 ct1), sl1⟩) (c1 : PySem.W.codeIn K cd1 "_law_next" = true) (k1 : PySem.W.keepIn K (.ref f1) = true)
    (a2 : PySem.W.nsIn K mainGlobals "_law_one" = some (some (.ref f2))) (l2 : K.lookup f2 = some ⟨oc2, od2, .func (PySem.W.fnOf "_law_one" "_law_one" (defArgs s_law_one) (defBody s_law_one) (defScope s_law_one) .none kV2 dc2 pm2 an2 cd2 ct2), sl2⟩) (c2 : PySem.W.codeIn K cd2 "_law_one" = true) (k2 : PySem.W.keepIn K (.ref f2) = true)
    (a3 : PySem.W.nsIn K mainGlobals "_law_errors" = some (some (.ref f3))) (l3 : K.lookup f3 = some ⟨oc3, od3, .func (PySem.W.fnOf "_law_errors" "_law_errors" (defArgs s_law_errors) (defBody s_law_errors) (defScope s_law_errors) .none kV3 dc3 pm3 an3 cd3 ct3), sl3⟩) (c3 : PySem.W.codeIn K cd3 "_law_errors" = true) (k3 : PySem.W.keepIn K (.ref f3) = true)
    (a4 : PySem.W.nsIn K mainGlobals "_law_flags" = some (some (.ref f4))) (l4 : K.lookup f4 = some ⟨oc4, od4, .func (PySem.W.fnOf "_law_flags" "_law_flags" (defArgs s_law_flags) (defBody s_law_flags) (defScope s_law_flags) .none kV4 dc4 pm4 an4 cd4 ct4), sl4⟩) (c4 : PySem.W.codeIn K cd4 "_law_flags" = true) (k4 : PySem.W.keepIn K (.ref f4) = true)
    (a5 : PySem.W.nsIn K mainGlobals "_law_fields" = some (some (.ref f5))) (l5 : K.lookup f5 = some ⟨oc5, od5, .func (PySem.W.fnOf "_law_fields" "_law_fields" (defArgs s_law_fields) (defBody s_law_fields) (defScope s_law_fields) .none kV5 dc5 pm5 an5 cd5 ct5), sl5⟩) (c5 : PySem.W.codeIn K cd5 "_law_fields" = true) (k5 : PySem.W.keepIn K (.ref f5) = true)
    (a6 : PySem.W.nsIn K mainGlobals "_law_more_fields" = some (some (.ref f6))) (l6 : K.lookup f6 = some ⟨oc6, od6, .func (PySem.W.fnOf "_law_more_fields" "_law_more_fields" (defArgs s_law_more_fields) (defBody s_law_more_fields) (defScope s_law_more_fields) .none kV6 dc6 pm6 an6 cd6 ct6), sl6⟩) (c6 : PySem.W.codeIn K cd6 "_law_more_fields" = true) (k6 : PySem.W.keepIn K (.ref f6) = true)
    (a7 : PySem.W.nsIn K mainGlobals "_law_right" = some (some (.ref f7))) (l7 : K.lookup f7 = some ⟨oc7, od7, .func (PySem.W.fnOf "_law_right" "_law_right" (defArgs s_law_right) (defBody s_law_right) (defScope s_law_right) .none kV7 dc7 pm7 an7 cd7 ct7), sl7⟩) (c7 : PySem.W.codeIn K cd7 "_law_right" = true) (k7 : PySem.W.keepIn K (.ref f7) = true)
    (a8 : PySem.W.nsIn K mainGlobals "_law_objects_right" = some (some (.ref f8))) (l8 : K.lookup f8 = some ⟨oc8, od8, .func (PySem.W.fnOf "_law_objects_right" "_law_objects_right" (defArgs s_law_objects_right) (defBody s_law_objects_right) (defScope s_law_objects_right) .none kV8 dc8 pm8 an8 cd8 ct8), sl8⟩) (c8 : PySem.W.codeIn K cd8 "_law_objects_right" = true) (k8 : PySem.W.keepIn K (.ref f8) = true)
    (a9 : PySem.W.nsIn K mainGlobals "law" = some (some (.ref f9))) (l9 : K.lookup f9 = some ⟨oc9, od9, .func (PySem.W.fnOf "law" "law" (defArgs s_law) (defBody s_law) (defScope s_law) .none kV9 dc9 pm9 an9 cd9 ct9), sl9⟩) (c9 : PySem.W.codeIn K cd9 "law" = true) (k9 : PySem.W.keepIn K (.ref f9) = true)
    (v_VARIABLES : PySem.W.nsIn K mainGlobals "VARIABLES" = some (some (.int 199 t_VARIABLES)))
    (v_NODES : PySem.W.nsIn K mainGlobals "NODES" = some (some (.int 200 t_NODES)))
    (v_DEPTH : PySem.W.nsIn K mainGlobals "DEPTH" = some (some (.int 30 t_DEPTH)))
    (v_GROUPS : PySem.W.nsIn K mainGlobals "GROUPS" = some (some (.int 80 t_GROUPS)))
    (v_LISTED : PySem.W.nsIn K mainGlobals "LISTED" = some (some (.int 50 t_LISTED)))
    (v_DATAS : PySem.W.nsIn K mainGlobals "DATAS" = some (some (.int 6 t_DATAS)))
    (v_PLACES : PySem.W.nsIn K mainGlobals "PLACES" = some (some (.int 60 t_PLACES)))
    (v_ROWS : PySem.W.nsIn K mainGlobals "ROWS" = some (some (.int 8 t_ROWS)))
    (v_MET : PySem.W.nsIn K mainGlobals "MET" = some (some (.int 200 t_MET)))
    (v_SIZES : PySem.W.nsIn K mainGlobals "SIZES" = some (some (.int 40 t_SIZES)))
    (v_FORM : PySem.W.nsIn K mainGlobals "FORM" = some (some (.int 500 t_FORM)))
    (v_TREE : PySem.W.nsIn K mainGlobals "TREE" = some (some (.int 1000 t_TREE)))
    (v_DEFINITIONS : PySem.W.nsIn K mainGlobals "DEFINITIONS" = some (some (.int 8 t_DEFINITIONS)))
    (v_CALLS : PySem.W.nsIn K mainGlobals "CALLS" = some (some (.int 2000 t_CALLS)))
    (v_SHOWN : PySem.W.nsIn K mainGlobals "SHOWN" = some (some (.int 500 t_SHOWN)))
    (v_PARAMETERS : PySem.W.nsIn K mainGlobals "PARAMETERS" = some (some (.int 3 t_PARAMETERS)))
    (v_EDITS : PySem.W.nsIn K mainGlobals "EDITS" = some (some (.int 60 t_EDITS)))
    (v_BATCH : PySem.W.nsIn K mainGlobals "BATCH" = some (some (.int 20 t_BATCH)))
    (z_isinstance : PySem.W.nsIn K mainGlobals "isinstance" = some none)
    (z_len : PySem.W.nsIn K mainGlobals "len" = some none)
    (z_int : PySem.W.nsIn K mainGlobals "int" = some none)
    (z_abs : PySem.W.nsIn K mainGlobals "abs" = some none)
    (z_repr : PySem.W.nsIn K mainGlobals "repr" = some none)
    (z_range : PySem.W.nsIn K mainGlobals "range" = some none)
    (z_enumerate : PySem.W.nsIn K mainGlobals "enumerate" = some none)
    (z_ValueError : PySem.W.nsIn K mainGlobals "ValueError" = some none)
    (z_LookupError : PySem.W.nsIn K mainGlobals "LookupError" = some none)
    (a_BadShape : PySem.W.nsIn K mainGlobals "BadShape" = some (some (.ref C_BadShape)))
    (i_BadShape_h : PySem.W.findIn K (.ref C_BadShape) "__init__" = some (some (.ref i_BadShape_f))) (t_BadShape_h : PySem.W.typeIn K (.ref i_BadShape_f) = some (.type "function")) (l_BadShape : K.lookup i_BadShape_f = some ⟨oc_BadShape, od_BadShape, .func (PySem.W.fnOf "__init__" "BadShape.__init__" (defArgs i_BadShape) (defBody i_BadShape) (defScope i_BadShape) .none kV_BadShape dc_BadShape pm_BadShape an_BadShape cd_BadShape ct_BadShape), sl_BadShape⟩) (c_BadShape : PySem.W.codeIn K cd_BadShape "BadShape.__init__" = true) (k_BadShape : PySem.W.keepIn K (.ref i_BadShape_f) = true)
    (b_BadShape : eB K C_BadShape [.type "ValueError", .type "Exception", .type "BaseException", .type "object"] "ValueError.__new__" ["value"] = true)
    (a_BadCount : PySem.W.nsIn K mainGlobals "BadCount" = some (some (.ref C_BadCount)))
    (i_BadCount_h : PySem.W.findIn K (.ref C_BadCount) "__init__" = some (some (.ref i_BadCount_f))) (t_BadCount_h : PySem.W.typeIn K (.ref i_BadCount_f) = some (.type "function")) (l_BadCount : K.lookup i_BadCount_f = some ⟨oc_BadCount, od_BadCount, .func (PySem.W.fnOf "__init__" "BadCount.__init__" (defArgs i_BadCount) (defBody i_BadCount) (defScope i_BadCount) .none kV_BadCount dc_BadCount pm_BadCount an_BadCount cd_BadCount ct_BadCount), sl_BadCount⟩) (c_BadCount : PySem.W.codeIn K cd_BadCount "BadCount.__init__" = true) (k_BadCount : PySem.W.keepIn K (.ref i_BadCount_f) = true)
    (b_BadCount : eB K C_BadCount [.type "ValueError", .type "Exception", .type "BaseException", .type "object"] "ValueError.__new__" ["value"] = true)
    (a_NoMeeting : PySem.W.nsIn K mainGlobals "NoMeeting" = some (some (.ref C_NoMeeting)))
    (b_NoMeeting : nB K C_NoMeeting [.type "ValueError", .type "Exception", .type "BaseException", .type "object"] "ValueError.__new__" = true)
    (a_NoSolution : PySem.W.nsIn K mainGlobals "NoSolution" = some (some (.ref C_NoSolution)))
    (b_NoSolution : nB K C_NoSolution [.type "ValueError", .type "Exception", .type "BaseException", .type "object"] "ValueError.__new__" = true)
    (a_TooMany : PySem.W.nsIn K mainGlobals "TooMany" = some (some (.ref C_TooMany)))
    (i_TooMany_h : PySem.W.findIn K (.ref C_TooMany) "__init__" = some (some (.ref i_TooMany_f))) (t_TooMany_h : PySem.W.typeIn K (.ref i_TooMany_f) = some (.type "function")) (l_TooMany : K.lookup i_TooMany_f = some ⟨oc_TooMany, od_TooMany, .func (PySem.W.fnOf "__init__" "TooMany.__init__" (defArgs i_TooMany) (defBody i_TooMany) (defScope i_TooMany) .none kV_TooMany dc_TooMany pm_TooMany an_TooMany cd_TooMany ct_TooMany), sl_TooMany⟩) (c_TooMany : PySem.W.codeIn K cd_TooMany "TooMany.__init__" = true) (k_TooMany : PySem.W.keepIn K (.ref i_TooMany_f) = true)
    (b_TooMany : eB K C_TooMany [.type "ValueError", .type "Exception", .type "BaseException", .type "object"] "ValueError.__new__" ["limit"] = true)
    (a_TooLarge : PySem.W.nsIn K mainGlobals "TooLarge" = some (some (.ref C_TooLarge)))
    (i_TooLarge_h : PySem.W.findIn K (.ref C_TooLarge) "__init__" = some (some (.ref i_TooLarge_f))) (t_TooLarge_h : PySem.W.typeIn K (.ref i_TooLarge_f) = some (.type "function")) (l_TooLarge : K.lookup i_TooLarge_f = some ⟨oc_TooLarge, od_TooLarge, .func (PySem.W.fnOf "__init__" "TooLarge.__init__" (defArgs i_TooLarge) (defBody i_TooLarge) (defScope i_TooLarge) .none kV_TooLarge dc_TooLarge pm_TooLarge an_TooLarge cd_TooLarge ct_TooLarge), sl_TooLarge⟩) (c_TooLarge : PySem.W.codeIn K cd_TooLarge "TooLarge.__init__" = true) (k_TooLarge : PySem.W.keepIn K (.ref i_TooLarge_f) = true)
    (b_TooLarge : eB K C_TooLarge [.type "ValueError", .type "Exception", .type "BaseException", .type "object"] "ValueError.__new__" ["limit"] = true)
    (a_Clash : PySem.W.nsIn K mainGlobals "Clash" = some (some (.ref C_Clash)))
    (i_Clash_h : PySem.W.findIn K (.ref C_Clash) "__init__" = some (some (.ref i_Clash_f))) (t_Clash_h : PySem.W.typeIn K (.ref i_Clash_f) = some (.type "function")) (l_Clash : K.lookup i_Clash_f = some ⟨oc_Clash, od_Clash, .func (PySem.W.fnOf "__init__" "Clash.__init__" (defArgs i_Clash) (defBody i_Clash) (defScope i_Clash) .none kV_Clash dc_Clash pm_Clash an_Clash cd_Clash ct_Clash), sl_Clash⟩) (c_Clash : PySem.W.codeIn K cd_Clash "Clash.__init__" = true) (k_Clash : PySem.W.keepIn K (.ref i_Clash_f) = true)
    (b_Clash : eB K C_Clash [.type "ValueError", .type "Exception", .type "BaseException", .type "object"] "ValueError.__new__" ["places"] = true)
    (a_BadChain : PySem.W.nsIn K mainGlobals "BadChain" = some (some (.ref C_BadChain)))
    (i_BadChain_h : PySem.W.findIn K (.ref C_BadChain) "__init__" = some (some (.ref i_BadChain_f))) (t_BadChain_h : PySem.W.typeIn K (.ref i_BadChain_f) = some (.type "function")) (l_BadChain : K.lookup i_BadChain_f = some ⟨oc_BadChain, od_BadChain, .func (PySem.W.fnOf "__init__" "BadChain.__init__" (defArgs i_BadChain) (defBody i_BadChain) (defScope i_BadChain) .none kV_BadChain dc_BadChain pm_BadChain an_BadChain cd_BadChain ct_BadChain), sl_BadChain⟩) (c_BadChain : PySem.W.codeIn K cd_BadChain "BadChain.__init__" = true) (k_BadChain : PySem.W.keepIn K (.ref i_BadChain_f) = true)
    (b_BadChain : eB K C_BadChain [.type "ValueError", .type "Exception", .type "BaseException", .type "object"] "ValueError.__new__" ["index"] = true)
    (a_BadValue : PySem.W.nsIn K mainGlobals "BadValue" = some (some (.ref C_BadValue)))
    (i_BadValue_h : PySem.W.findIn K (.ref C_BadValue) "__init__" = some (some (.ref i_BadValue_f))) (t_BadValue_h : PySem.W.typeIn K (.ref i_BadValue_f) = some (.type "function")) (l_BadValue : K.lookup i_BadValue_f = some ⟨oc_BadValue, od_BadValue, .func (PySem.W.fnOf "__init__" "BadValue.__init__" (defArgs i_BadValue) (defBody i_BadValue) (defScope i_BadValue) .none kV_BadValue dc_BadValue pm_BadValue an_BadValue cd_BadValue ct_BadValue), sl_BadValue⟩) (c_BadValue : PySem.W.codeIn K cd_BadValue "BadValue.__init__" = true) (k_BadValue : PySem.W.keepIn K (.ref i_BadValue_f) = true)
    (b_BadValue : eB K C_BadValue [.type "ValueError", .type "Exception", .type "BaseException", .type "object"] "ValueError.__new__" ["value"] = true)
    (a_BadForm : PySem.W.nsIn K mainGlobals "BadForm" = some (some (.ref C_BadForm)))
    (i_BadForm_h : PySem.W.findIn K (.ref C_BadForm) "__init__" = some (some (.ref i_BadForm_f))) (t_BadForm_h : PySem.W.typeIn K (.ref i_BadForm_f) = some (.type "function")) (l_BadForm : K.lookup i_BadForm_f = some ⟨oc_BadForm, od_BadForm, .func (PySem.W.fnOf "__init__" "BadForm.__init__" (defArgs i_BadForm) (defBody i_BadForm) (defScope i_BadForm) .none kV_BadForm dc_BadForm pm_BadForm an_BadForm cd_BadForm ct_BadForm), sl_BadForm⟩) (c_BadForm : PySem.W.codeIn K cd_BadForm "BadForm.__init__" = true) (k_BadForm : PySem.W.keepIn K (.ref i_BadForm_f) = true)
    (b_BadForm : eB K C_BadForm [.type "ValueError", .type "Exception", .type "BaseException", .type "object"] "ValueError.__new__" ["form"] = true)
    (a_BadSize : PySem.W.nsIn K mainGlobals "BadSize" = some (some (.ref C_BadSize)))
    (i_BadSize_h : PySem.W.findIn K (.ref C_BadSize) "__init__" = some (some (.ref i_BadSize_f))) (t_BadSize_h : PySem.W.typeIn K (.ref i_BadSize_f) = some (.type "function")) (l_BadSize : K.lookup i_BadSize_f = some ⟨oc_BadSize, od_BadSize, .func (PySem.W.fnOf "__init__" "BadSize.__init__" (defArgs i_BadSize) (defBody i_BadSize) (defScope i_BadSize) .none kV_BadSize dc_BadSize pm_BadSize an_BadSize cd_BadSize ct_BadSize), sl_BadSize⟩) (c_BadSize : PySem.W.codeIn K cd_BadSize "BadSize.__init__" = true) (k_BadSize : PySem.W.keepIn K (.ref i_BadSize_f) = true)
    (b_BadSize : eB K C_BadSize [.type "ValueError", .type "Exception", .type "BaseException", .type "object"] "ValueError.__new__" ["size"] = true)
    (a_NoValue : PySem.W.nsIn K mainGlobals "NoValue" = some (some (.ref C_NoValue)))
    (i_NoValue_h : PySem.W.findIn K (.ref C_NoValue) "__init__" = some (some (.ref i_NoValue_f))) (t_NoValue_h : PySem.W.typeIn K (.ref i_NoValue_f) = some (.type "function")) (l_NoValue : K.lookup i_NoValue_f = some ⟨oc_NoValue, od_NoValue, .func (PySem.W.fnOf "__init__" "NoValue.__init__" (defArgs i_NoValue) (defBody i_NoValue) (defScope i_NoValue) .none kV_NoValue dc_NoValue pm_NoValue an_NoValue cd_NoValue ct_NoValue), sl_NoValue⟩) (c_NoValue : PySem.W.codeIn K cd_NoValue "NoValue.__init__" = true) (k_NoValue : PySem.W.keepIn K (.ref i_NoValue_f) = true)
    (b_NoValue : eB K C_NoValue [.type "ValueError", .type "Exception", .type "BaseException", .type "object"] "ValueError.__new__" ["value"] = true)
    (a_HasValues : PySem.W.nsIn K mainGlobals "HasValues" = some (some (.ref C_HasValues)))
    (b_HasValues : nB K C_HasValues [.type "ValueError", .type "Exception", .type "BaseException", .type "object"] "ValueError.__new__" = true)
    (a_NotMet : PySem.W.nsIn K mainGlobals "NotMet" = some (some (.ref C_NotMet)))
    (i_NotMet_h : PySem.W.findIn K (.ref C_NotMet) "__init__" = some (some (.ref i_NotMet_f))) (t_NotMet_h : PySem.W.typeIn K (.ref i_NotMet_f) = some (.type "function")) (l_NotMet : K.lookup i_NotMet_f = some ⟨oc_NotMet, od_NotMet, .func (PySem.W.fnOf "__init__" "NotMet.__init__" (defArgs i_NotMet) (defBody i_NotMet) (defScope i_NotMet) .none kV_NotMet dc_NotMet pm_NotMet an_NotMet cd_NotMet ct_NotMet), sl_NotMet⟩) (c_NotMet : PySem.W.codeIn K cd_NotMet "NotMet.__init__" = true) (k_NotMet : PySem.W.keepIn K (.ref i_NotMet_f) = true)
    (b_NotMet : eB K C_NotMet [.type "ValueError", .type "Exception", .type "BaseException", .type "object"] "ValueError.__new__" ["value"] = true)
    (a_Idle : PySem.W.nsIn K mainGlobals "Idle" = some (some (.ref C_Idle)))
    (i_Idle_h : PySem.W.findIn K (.ref C_Idle) "__init__" = some (some (.ref i_Idle_f))) (t_Idle_h : PySem.W.typeIn K (.ref i_Idle_f) = some (.type "function")) (l_Idle : K.lookup i_Idle_f = some ⟨oc_Idle, od_Idle, .func (PySem.W.fnOf "__init__" "Idle.__init__" (defArgs i_Idle) (defBody i_Idle) (defScope i_Idle) .none kV_Idle dc_Idle pm_Idle an_Idle cd_Idle ct_Idle), sl_Idle⟩) (c_Idle : PySem.W.codeIn K cd_Idle "Idle.__init__" = true) (k_Idle : PySem.W.keepIn K (.ref i_Idle_f) = true)
    (b_Idle : eB K C_Idle [.type "ValueError", .type "Exception", .type "BaseException", .type "object"] "ValueError.__new__" ["number"] = true)
    (a_BadRows : PySem.W.nsIn K mainGlobals "BadRows" = some (some (.ref C_BadRows)))
    (i_BadRows_h : PySem.W.findIn K (.ref C_BadRows) "__init__" = some (some (.ref i_BadRows_f))) (t_BadRows_h : PySem.W.typeIn K (.ref i_BadRows_f) = some (.type "function")) (l_BadRows : K.lookup i_BadRows_f = some ⟨oc_BadRows, od_BadRows, .func (PySem.W.fnOf "__init__" "BadRows.__init__" (defArgs i_BadRows) (defBody i_BadRows) (defScope i_BadRows) .none kV_BadRows dc_BadRows pm_BadRows an_BadRows cd_BadRows ct_BadRows), sl_BadRows⟩) (c_BadRows : PySem.W.codeIn K cd_BadRows "BadRows.__init__" = true) (k_BadRows : PySem.W.keepIn K (.ref i_BadRows_f) = true)
    (b_BadRows : eB K C_BadRows [.type "ValueError", .type "Exception", .type "BaseException", .type "object"] "ValueError.__new__" ["error"] = true)
    (a_BadBook : PySem.W.nsIn K mainGlobals "BadBook" = some (some (.ref C_BadBook)))
    (i_BadBook_h : PySem.W.findIn K (.ref C_BadBook) "__init__" = some (some (.ref i_BadBook_f))) (t_BadBook_h : PySem.W.typeIn K (.ref i_BadBook_f) = some (.type "function")) (l_BadBook : K.lookup i_BadBook_f = some ⟨oc_BadBook, od_BadBook, .func (PySem.W.fnOf "__init__" "BadBook.__init__" (defArgs i_BadBook) (defBody i_BadBook) (defScope i_BadBook) .none kV_BadBook dc_BadBook pm_BadBook an_BadBook cd_BadBook ct_BadBook), sl_BadBook⟩) (c_BadBook : PySem.W.codeIn K cd_BadBook "BadBook.__init__" = true) (k_BadBook : PySem.W.keepIn K (.ref i_BadBook_f) = true)
    (b_BadBook : eB K C_BadBook [.type "ValueError", .type "Exception", .type "BaseException", .type "object"] "ValueError.__new__" ["error"] = true)
    (a_HasHole : PySem.W.nsIn K mainGlobals "HasHole" = some (some (.ref C_HasHole)))
    (i_HasHole_h : PySem.W.findIn K (.ref C_HasHole) "__init__" = some (some (.ref i_HasHole_f))) (t_HasHole_h : PySem.W.typeIn K (.ref i_HasHole_f) = some (.type "function")) (l_HasHole : K.lookup i_HasHole_f = some ⟨oc_HasHole, od_HasHole, .func (PySem.W.fnOf "__init__" "HasHole.__init__" (defArgs i_HasHole) (defBody i_HasHole) (defScope i_HasHole) .none kV_HasHole dc_HasHole pm_HasHole an_HasHole cd_HasHole ct_HasHole), sl_HasHole⟩) (c_HasHole : PySem.W.codeIn K cd_HasHole "HasHole.__init__" = true) (k_HasHole : PySem.W.keepIn K (.ref i_HasHole_f) = true)
    (b_HasHole : eB K C_HasHole [.type "ValueError", .type "Exception", .type "BaseException", .type "object"] "ValueError.__new__" ["spot"] = true)
    (a_NotPlain : PySem.W.nsIn K mainGlobals "NotPlain" = some (some (.ref C_NotPlain)))
    (i_NotPlain_h : PySem.W.findIn K (.ref C_NotPlain) "__init__" = some (some (.ref i_NotPlain_f))) (t_NotPlain_h : PySem.W.typeIn K (.ref i_NotPlain_f) = some (.type "function")) (l_NotPlain : K.lookup i_NotPlain_f = some ⟨oc_NotPlain, od_NotPlain, .func (PySem.W.fnOf "__init__" "NotPlain.__init__" (defArgs i_NotPlain) (defBody i_NotPlain) (defScope i_NotPlain) .none kV_NotPlain dc_NotPlain pm_NotPlain an_NotPlain cd_NotPlain ct_NotPlain), sl_NotPlain⟩) (c_NotPlain : PySem.W.codeIn K cd_NotPlain "NotPlain.__init__" = true) (k_NotPlain : PySem.W.keepIn K (.ref i_NotPlain_f) = true)
    (b_NotPlain : eB K C_NotPlain [.type "ValueError", .type "Exception", .type "BaseException", .type "object"] "ValueError.__new__" ["index"] = true)
    (a_BadDatas : PySem.W.nsIn K mainGlobals "BadDatas" = some (some (.ref C_BadDatas)))
    (i_BadDatas_h : PySem.W.findIn K (.ref C_BadDatas) "__init__" = some (some (.ref i_BadDatas_f))) (t_BadDatas_h : PySem.W.typeIn K (.ref i_BadDatas_f) = some (.type "function")) (l_BadDatas : K.lookup i_BadDatas_f = some ⟨oc_BadDatas, od_BadDatas, .func (PySem.W.fnOf "__init__" "BadDatas.__init__" (defArgs i_BadDatas) (defBody i_BadDatas) (defScope i_BadDatas) .none kV_BadDatas dc_BadDatas pm_BadDatas an_BadDatas cd_BadDatas ct_BadDatas), sl_BadDatas⟩) (c_BadDatas : PySem.W.codeIn K cd_BadDatas "BadDatas.__init__" = true) (k_BadDatas : PySem.W.keepIn K (.ref i_BadDatas_f) = true)
    (b_BadDatas : eB K C_BadDatas [.type "ValueError", .type "Exception", .type "BaseException", .type "object"] "ValueError.__new__" ["error"] = true)
    (a_Used : PySem.W.nsIn K mainGlobals "Used" = some (some (.ref C_Used)))
    (i_Used_h : PySem.W.findIn K (.ref C_Used) "__init__" = some (some (.ref i_Used_f))) (t_Used_h : PySem.W.typeIn K (.ref i_Used_f) = some (.type "function")) (l_Used : K.lookup i_Used_f = some ⟨oc_Used, od_Used, .func (PySem.W.fnOf "__init__" "Used.__init__" (defArgs i_Used) (defBody i_Used) (defScope i_Used) .none kV_Used dc_Used pm_Used an_Used cd_Used ct_Used), sl_Used⟩) (c_Used : PySem.W.codeIn K cd_Used "Used.__init__" = true) (k_Used : PySem.W.keepIn K (.ref i_Used_f) = true)
    (b_Used : eB K C_Used [.type "ValueError", .type "Exception", .type "BaseException", .type "object"] "ValueError.__new__" ["word"] = true)
    (a_Refused : PySem.W.nsIn K mainGlobals "Refused" = some (some (.ref C_Refused)))
    (i_Refused_h : PySem.W.findIn K (.ref C_Refused) "__init__" = some (some (.ref i_Refused_f))) (t_Refused_h : PySem.W.typeIn K (.ref i_Refused_f) = some (.type "function")) (l_Refused : K.lookup i_Refused_f = some ⟨oc_Refused, od_Refused, .func (PySem.W.fnOf "__init__" "Refused.__init__" (defArgs i_Refused) (defBody i_Refused) (defScope i_Refused) .none kV_Refused dc_Refused pm_Refused an_Refused cd_Refused ct_Refused), sl_Refused⟩) (c_Refused : PySem.W.codeIn K cd_Refused "Refused.__init__" = true) (k_Refused : PySem.W.keepIn K (.ref i_Refused_f) = true)
    (b_Refused : eB K C_Refused [.type "ValueError", .type "Exception", .type "BaseException", .type "object"] "ValueError.__new__" ["index", "verdict"] = true)
    (a_TooManyEdits : PySem.W.nsIn K mainGlobals "TooManyEdits" = some (some (.ref C_TooManyEdits)))
    (b_TooManyEdits : nB K C_TooManyEdits [.type "ValueError", .type "Exception", .type "BaseException", .type "object"] "ValueError.__new__" = true)
    (a_NothingToUndo : PySem.W.nsIn K mainGlobals "NothingToUndo" = some (some (.ref C_NothingToUndo)))
    (b_NothingToUndo : nB K C_NothingToUndo [.type "ValueError", .type "Exception", .type "BaseException", .type "object"] "ValueError.__new__" = true)
    (a_BadEdits : PySem.W.nsIn K mainGlobals "BadEdits" = some (some (.ref C_BadEdits)))
    (b_BadEdits : nB K C_BadEdits [.type "ValueError", .type "Exception", .type "BaseException", .type "object"] "ValueError.__new__" = true)
    (a_BadEdit : PySem.W.nsIn K mainGlobals "BadEdit" = some (some (.ref C_BadEdit)))
    (i_BadEdit_h : PySem.W.findIn K (.ref C_BadEdit) "__init__" = some (some (.ref i_BadEdit_f))) (t_BadEdit_h : PySem.W.typeIn K (.ref i_BadEdit_f) = some (.type "function")) (l_BadEdit : K.lookup i_BadEdit_f = some ⟨oc_BadEdit, od_BadEdit, .func (PySem.W.fnOf "__init__" "BadEdit.__init__" (defArgs i_BadEdit) (defBody i_BadEdit) (defScope i_BadEdit) .none kV_BadEdit dc_BadEdit pm_BadEdit an_BadEdit cd_BadEdit ct_BadEdit), sl_BadEdit⟩) (c_BadEdit : PySem.W.codeIn K cd_BadEdit "BadEdit.__init__" = true) (k_BadEdit : PySem.W.keepIn K (.ref i_BadEdit_f) = true)
    (b_BadEdit : eB K C_BadEdit [.type "ValueError", .type "Exception", .type "BaseException", .type "object"] "ValueError.__new__" ["index"] = true)
    (a_Rejected : PySem.W.nsIn K mainGlobals "Rejected" = some (some (.ref C_Rejected)))
    (i_Rejected_h : PySem.W.findIn K (.ref C_Rejected) "__init__" = some (some (.ref i_Rejected_f))) (t_Rejected_h : PySem.W.typeIn K (.ref i_Rejected_f) = some (.type "function")) (l_Rejected : K.lookup i_Rejected_f = some ⟨oc_Rejected, od_Rejected, .func (PySem.W.fnOf "__init__" "Rejected.__init__" (defArgs i_Rejected) (defBody i_Rejected) (defScope i_Rejected) .none kV_Rejected dc_Rejected pm_Rejected an_Rejected cd_Rejected ct_Rejected), sl_Rejected⟩) (c_Rejected : PySem.W.codeIn K cd_Rejected "Rejected.__init__" = true) (k_Rejected : PySem.W.keepIn K (.ref i_Rejected_f) = true)
    (b_Rejected : eB K C_Rejected [.type "ValueError", .type "Exception", .type "BaseException", .type "object"] "ValueError.__new__" ["index"] = true)
    (a_Busy : PySem.W.nsIn K mainGlobals "Busy" = some (some (.ref C_Busy)))
    (b_Busy : nB K C_Busy [.type "ValueError", .type "Exception", .type "BaseException", .type "object"] "ValueError.__new__" = true)
    (a_BadExpression : PySem.W.nsIn K mainGlobals "BadExpression" = some (some (.ref C_BadExpression)))
    (i_BadExpression_h : PySem.W.findIn K (.ref C_BadExpression) "__init__" = some (some (.ref i_BadExpression_f))) (t_BadExpression_h : PySem.W.typeIn K (.ref i_BadExpression_f) = some (.type "function")) (l_BadExpression : K.lookup i_BadExpression_f = some ⟨oc_BadExpression, od_BadExpression, .func (PySem.W.fnOf "__init__" "BadExpression.__init__" (defArgs i_BadExpression) (defBody i_BadExpression) (defScope i_BadExpression) .none kV_BadExpression dc_BadExpression pm_BadExpression an_BadExpression cd_BadExpression ct_BadExpression), sl_BadExpression⟩) (c_BadExpression : PySem.W.codeIn K cd_BadExpression "BadExpression.__init__" = true) (k_BadExpression : PySem.W.keepIn K (.ref i_BadExpression_f) = true)
    (b_BadExpression : eB K C_BadExpression [.type "ValueError", .type "Exception", .type "BaseException", .type "object"] "ValueError.__new__" ["error"] = true)
    (a_Incomplete : PySem.W.nsIn K mainGlobals "Incomplete" = some (some (.ref C_Incomplete)))
    (i_Incomplete_h : PySem.W.findIn K (.ref C_Incomplete) "__init__" = some (some (.ref i_Incomplete_f))) (t_Incomplete_h : PySem.W.typeIn K (.ref i_Incomplete_f) = some (.type "function")) (l_Incomplete : K.lookup i_Incomplete_f = some ⟨oc_Incomplete, od_Incomplete, .func (PySem.W.fnOf "__init__" "Incomplete.__init__" (defArgs i_Incomplete) (defBody i_Incomplete) (defScope i_Incomplete) .none kV_Incomplete dc_Incomplete pm_Incomplete an_Incomplete cd_Incomplete ct_Incomplete), sl_Incomplete⟩) (c_Incomplete : PySem.W.codeIn K cd_Incomplete "Incomplete.__init__" = true) (k_Incomplete : PySem.W.keepIn K (.ref i_Incomplete_f) = true)
    (b_Incomplete : eB K C_Incomplete [.type "ValueError", .type "Exception", .type "BaseException", .type "object"] "ValueError.__new__" ["word", "place", "outline"] = true)
    (a_BadText : PySem.W.nsIn K mainGlobals "BadText" = some (some (.ref C_BadText)))
    (i_BadText_h : PySem.W.findIn K (.ref C_BadText) "__init__" = some (some (.ref i_BadText_f))) (t_BadText_h : PySem.W.typeIn K (.ref i_BadText_f) = some (.type "function")) (l_BadText : K.lookup i_BadText_f = some ⟨oc_BadText, od_BadText, .func (PySem.W.fnOf "__init__" "BadText.__init__" (defArgs i_BadText) (defBody i_BadText) (defScope i_BadText) .none kV_BadText dc_BadText pm_BadText an_BadText cd_BadText ct_BadText), sl_BadText⟩) (c_BadText : PySem.W.codeIn K cd_BadText "BadText.__init__" = true) (k_BadText : PySem.W.keepIn K (.ref i_BadText_f) = true)
    (b_BadText : eB K C_BadText [.type "ValueError", .type "Exception", .type "BaseException", .type "object"] "ValueError.__new__" ["index"] = true)
    (a_NoPlace : PySem.W.nsIn K mainGlobals "NoPlace" = some (some (.ref C_NoPlace)))
    (i_NoPlace_h : PySem.W.findIn K (.ref C_NoPlace) "__init__" = some (some (.ref i_NoPlace_f))) (t_NoPlace_h : PySem.W.typeIn K (.ref i_NoPlace_f) = some (.type "function")) (l_NoPlace : K.lookup i_NoPlace_f = some ⟨oc_NoPlace, od_NoPlace, .func (PySem.W.fnOf "__init__" "NoPlace.__init__" (defArgs i_NoPlace) (defBody i_NoPlace) (defScope i_NoPlace) .none kV_NoPlace dc_NoPlace pm_NoPlace an_NoPlace cd_NoPlace ct_NoPlace), sl_NoPlace⟩) (c_NoPlace : PySem.W.codeIn K cd_NoPlace "NoPlace.__init__" = true) (k_NoPlace : PySem.W.keepIn K (.ref i_NoPlace_f) = true)
    (b_NoPlace : eB K C_NoPlace [.type "LookupError", .type "Exception", .type "BaseException", .type "object"] "LookupError.__new__" ["value"] = true)
    (a_NoMaker : PySem.W.nsIn K mainGlobals "NoMaker" = some (some (.ref C_NoMaker)))
    (i_NoMaker_h : PySem.W.findIn K (.ref C_NoMaker) "__init__" = some (some (.ref i_NoMaker_f))) (t_NoMaker_h : PySem.W.typeIn K (.ref i_NoMaker_f) = some (.type "function")) (l_NoMaker : K.lookup i_NoMaker_f = some ⟨oc_NoMaker, od_NoMaker, .func (PySem.W.fnOf "__init__" "NoMaker.__init__" (defArgs i_NoMaker) (defBody i_NoMaker) (defScope i_NoMaker) .none kV_NoMaker dc_NoMaker pm_NoMaker an_NoMaker cd_NoMaker ct_NoMaker), sl_NoMaker⟩) (c_NoMaker : PySem.W.codeIn K cd_NoMaker "NoMaker.__init__" = true) (k_NoMaker : PySem.W.keepIn K (.ref i_NoMaker_f) = true)
    (b_NoMaker : eB K C_NoMaker [.type "LookupError", .type "Exception", .type "BaseException", .type "object"] "LookupError.__new__" ["name"] = true)
    (a_NoIndex : PySem.W.nsIn K mainGlobals "NoIndex" = some (some (.ref C_NoIndex)))
    (i_NoIndex_h : PySem.W.findIn K (.ref C_NoIndex) "__init__" = some (some (.ref i_NoIndex_f))) (t_NoIndex_h : PySem.W.typeIn K (.ref i_NoIndex_f) = some (.type "function")) (l_NoIndex : K.lookup i_NoIndex_f = some ⟨oc_NoIndex, od_NoIndex, .func (PySem.W.fnOf "__init__" "NoIndex.__init__" (defArgs i_NoIndex) (defBody i_NoIndex) (defScope i_NoIndex) .none kV_NoIndex dc_NoIndex pm_NoIndex an_NoIndex cd_NoIndex ct_NoIndex), sl_NoIndex⟩) (c_NoIndex : PySem.W.codeIn K cd_NoIndex "NoIndex.__init__" = true) (k_NoIndex : PySem.W.keepIn K (.ref i_NoIndex_f) = true)
    (b_NoIndex : eB K C_NoIndex [.type "LookupError", .type "Exception", .type "BaseException", .type "object"] "LookupError.__new__" ["index"] = true)
    (a_NoRow : PySem.W.nsIn K mainGlobals "NoRow" = some (some (.ref C_NoRow)))
    (i_NoRow_h : PySem.W.findIn K (.ref C_NoRow) "__init__" = some (some (.ref i_NoRow_f))) (t_NoRow_h : PySem.W.typeIn K (.ref i_NoRow_f) = some (.type "function")) (l_NoRow : K.lookup i_NoRow_f = some ⟨oc_NoRow, od_NoRow, .func (PySem.W.fnOf "__init__" "NoRow.__init__" (defArgs i_NoRow) (defBody i_NoRow) (defScope i_NoRow) .none kV_NoRow dc_NoRow pm_NoRow an_NoRow cd_NoRow ct_NoRow), sl_NoRow⟩) (c_NoRow : PySem.W.codeIn K cd_NoRow "NoRow.__init__" = true) (k_NoRow : PySem.W.keepIn K (.ref i_NoRow_f) = true)
    (b_NoRow : eB K C_NoRow [.type "LookupError", .type "Exception", .type "BaseException", .type "object"] "LookupError.__new__" ["number"] = true)
    (a_NoDefinition : PySem.W.nsIn K mainGlobals "NoDefinition" = some (some (.ref C_NoDefinition)))
    (i_NoDefinition_h : PySem.W.findIn K (.ref C_NoDefinition) "__init__" = some (some (.ref i_NoDefinition_f))) (t_NoDefinition_h : PySem.W.typeIn K (.ref i_NoDefinition_f) = some (.type "function")) (l_NoDefinition : K.lookup i_NoDefinition_f = some ⟨oc_NoDefinition, od_NoDefinition, .func (PySem.W.fnOf "__init__" "NoDefinition.__init__" (defArgs i_NoDefinition) (defBody i_NoDefinition) (defScope i_NoDefinition) .none kV_NoDefinition dc_NoDefinition pm_NoDefinition an_NoDefinition cd_NoDefinition ct_NoDefinition), sl_NoDefinition⟩) (c_NoDefinition : PySem.W.codeIn K cd_NoDefinition "NoDefinition.__init__" = true) (k_NoDefinition : PySem.W.keepIn K (.ref i_NoDefinition_f) = true)
    (b_NoDefinition : eB K C_NoDefinition [.type "LookupError", .type "Exception", .type "BaseException", .type "object"] "LookupError.__new__" ["value"] = true)
    (a_NoWord : PySem.W.nsIn K mainGlobals "NoWord" = some (some (.ref C_NoWord)))
    (i_NoWord_h : PySem.W.findIn K (.ref C_NoWord) "__init__" = some (some (.ref i_NoWord_f))) (t_NoWord_h : PySem.W.typeIn K (.ref i_NoWord_f) = some (.type "function")) (l_NoWord : K.lookup i_NoWord_f = some ⟨oc_NoWord, od_NoWord, .func (PySem.W.fnOf "__init__" "NoWord.__init__" (defArgs i_NoWord) (defBody i_NoWord) (defScope i_NoWord) .none kV_NoWord dc_NoWord pm_NoWord an_NoWord cd_NoWord ct_NoWord), sl_NoWord⟩) (c_NoWord : PySem.W.codeIn K cd_NoWord "NoWord.__init__" = true) (k_NoWord : PySem.W.keepIn K (.ref i_NoWord_f) = true)
    (b_NoWord : eB K C_NoWord [.type "LookupError", .type "Exception", .type "BaseException", .type "object"] "LookupError.__new__" ["word"] = true)
    (a_NoVersion : PySem.W.nsIn K mainGlobals "NoVersion" = some (some (.ref C_NoVersion)))
    (i_NoVersion_h : PySem.W.findIn K (.ref C_NoVersion) "__init__" = some (some (.ref i_NoVersion_f))) (t_NoVersion_h : PySem.W.typeIn K (.ref i_NoVersion_f) = some (.type "function")) (l_NoVersion : K.lookup i_NoVersion_f = some ⟨oc_NoVersion, od_NoVersion, .func (PySem.W.fnOf "__init__" "NoVersion.__init__" (defArgs i_NoVersion) (defBody i_NoVersion) (defScope i_NoVersion) .none kV_NoVersion dc_NoVersion pm_NoVersion an_NoVersion cd_NoVersion ct_NoVersion), sl_NoVersion⟩) (c_NoVersion : PySem.W.codeIn K cd_NoVersion "NoVersion.__init__" = true) (k_NoVersion : PySem.W.keepIn K (.ref i_NoVersion_f) = true)
    (b_NoVersion : eB K C_NoVersion [.type "LookupError", .type "Exception", .type "BaseException", .type "object"] "LookupError.__new__" ["value"] = true)
    (a_lang : PySem.W.nsIn K mainGlobals "LangError" = some (some (.ref lang)))
    (b_tab : tabB K [C_BadShape, C_BadCount, C_NoMeeting, C_NoSolution, C_TooMany, C_TooLarge, C_Clash, C_BadChain, C_BadValue, C_BadForm, C_BadSize, C_NoValue, C_HasValues, C_NotMet, C_Idle, C_BadRows, C_BadBook, C_HasHole, C_NotPlain, C_BadDatas, C_Used, C_Refused, C_TooManyEdits, C_NothingToUndo, C_BadEdits, C_BadEdit, C_Rejected, C_Busy, C_BadExpression, C_Incomplete, C_BadText, C_NoPlace, C_NoMaker, C_NoIndex, C_NoRow, C_NoDefinition, C_NoWord, C_NoVersion] lang = true)
    : ∃ fd : FuncData, (∀ (s : Shared) (v : Value), BindsTo s fd ⟨[v], []⟩ [("_law_script", v)]) ∧ ∀ base : Heap, K.In base → base.Ns mainGlobals mg → FnG l.prog w K mg base 64 fa fd ["_law_script"] (K84.spLaw K) := by
  have e := hfa.symm.trans (PySem.W.mg_of X G a9)
  cases e
  let T : Ty K mg := {
    law_draws := ⟨f0, _, fun_mk (st := s_law_draws) l0 c0 k0, PySem.W.mg_of X G a0, (fun_mk (st := s_law_draws) l0 c0 k0).binds (ps := ["_law_script"]) fun _ _ _ _ _ _ us hl => match us, hl with | [_], _ => rfl⟩,
    law_next := ⟨f1, _, fun_mk (st := s_law_next) l1 c1 k1, PySem.W.mg_of X G a1, (fun_mk (st := s_law_next) l1 c1 k1).binds (ps := ["_law_drawn", "_law_many"]) fun _ _ _ _ _ _ us hl => match us, hl with | [_, _], _ => rfl⟩,
    law_one := ⟨f2, _, fun_mk (st := s_law_one) l2 c2 k2, PySem.W.mg_of X G a2, (fun_mk (st := s_law_one) l2 c2 k2).binds (ps := ["_law_drawn", "_law_items"]) fun _ _ _ _ _ _ us hl => match us, hl with | [_, _], _ => rfl⟩,
    law_errors := ⟨f3, _, fun_mk (st := s_law_errors) l3 c3 k3, PySem.W.mg_of X G a3, (fun_mk (st := s_law_errors) l3 c3 k3).binds (ps := ["_law_one_here", "_law_other", "_law_third"]) fun _ _ _ _ _ _ us hl => match us, hl with | [_, _, _], _ => rfl⟩,
    law_flags := ⟨f4, _, fun_mk (st := s_law_flags) l4 c4 k4, PySem.W.mg_of X G a4, (fun_mk (st := s_law_flags) l4 c4 k4).binds (ps := ["_law_e"]) fun _ _ _ _ _ _ us hl => match us, hl with | [_], _ => rfl⟩,
    law_fields := ⟨f5, _, fun_mk (st := s_law_fields) l5 c5 k5, PySem.W.mg_of X G a5, (fun_mk (st := s_law_fields) l5 c5 k5).binds (ps := ["_law_one_here"]) fun _ _ _ _ _ _ us hl => match us, hl with | [_], _ => rfl⟩,
    law_more_fields := ⟨f6, _, fun_mk (st := s_law_more_fields) l6 c6 k6, PySem.W.mg_of X G a6, (fun_mk (st := s_law_more_fields) l6 c6 k6).binds (ps := ["_law_one_here", "_law_other", "_law_third"]) fun _ _ _ _ _ _ us hl => match us, hl with | [_, _, _], _ => rfl⟩,
    law_right := ⟨f7, _, fun_mk (st := s_law_right) l7 c7 k7, PySem.W.mg_of X G a7, (fun_mk (st := s_law_right) l7 c7 k7).binds (ps := ["_law_one_here", "_law_other", "_law_third"]) fun _ _ _ _ _ _ us hl => match us, hl with | [_, _, _], _ => rfl⟩,
    law_objects_right := ⟨f8, _, fun_mk (st := s_law_objects_right) l8 c8 k8, PySem.W.mg_of X G a8, (fun_mk (st := s_law_objects_right) l8 c8 k8).binds (ps := []) fun _ _ _ _ _ _ us hl => match us, hl with | [], _ => rfl⟩,
    law := ⟨fa, _, fun_mk (st := s_law) l9 c9 k9, PySem.W.mg_of X G a9, (fun_mk (st := s_law) l9 c9 k9).binds (ps := ["_law_script"]) fun _ _ _ _ _ _ us hl => match us, hl with | [_], _ => rfl⟩,
    g_VARIABLES := ⟨_, PySem.W.mg_of X G v_VARIABLES⟩,
    g_NODES := ⟨_, PySem.W.mg_of X G v_NODES⟩,
    g_DEPTH := ⟨_, PySem.W.mg_of X G v_DEPTH⟩,
    g_GROUPS := ⟨_, PySem.W.mg_of X G v_GROUPS⟩,
    g_LISTED := ⟨_, PySem.W.mg_of X G v_LISTED⟩,
    g_DATAS := ⟨_, PySem.W.mg_of X G v_DATAS⟩,
    g_PLACES := ⟨_, PySem.W.mg_of X G v_PLACES⟩,
    g_ROWS := ⟨_, PySem.W.mg_of X G v_ROWS⟩,
    g_MET := ⟨_, PySem.W.mg_of X G v_MET⟩,
    g_SIZES := ⟨_, PySem.W.mg_of X G v_SIZES⟩,
    g_FORM := ⟨_, PySem.W.mg_of X G v_FORM⟩,
    g_TREE := ⟨_, PySem.W.mg_of X G v_TREE⟩,
    g_DEFINITIONS := ⟨_, PySem.W.mg_of X G v_DEFINITIONS⟩,
    g_CALLS := ⟨_, PySem.W.mg_of X G v_CALLS⟩,
    g_SHOWN := ⟨_, PySem.W.mg_of X G v_SHOWN⟩,
    g_PARAMETERS := ⟨_, PySem.W.mg_of X G v_PARAMETERS⟩,
    g_EDITS := ⟨_, PySem.W.mg_of X G v_EDITS⟩,
    g_BATCH := ⟨_, PySem.W.mg_of X G v_BATCH⟩,
    m_isinstance := PySem.W.mg_none_of X G z_isinstance,
    m_len := PySem.W.mg_none_of X G z_len,
    m_int := PySem.W.mg_none_of X G z_int,
    m_abs := PySem.W.mg_none_of X G z_abs,
    m_repr := PySem.W.mg_none_of X G z_repr,
    m_range := PySem.W.mg_none_of X G z_range,
    m_enumerate := PySem.W.mg_none_of X G z_enumerate,
    m_ValueError := PySem.W.mg_none_of X G z_ValueError,
    m_LookupError := PySem.W.mg_none_of X G z_LookupError,
    e_BadShape := ⟨C_BadShape, i_BadShape_f, _, _, PySem.W.mg_of X G a_BadShape, eB_ok F.excBase_ValueError F.store_ValueError b_BadShape, i_BadShape_h, t_BadShape_h, fun_mk (st := i_BadShape) l_BadShape c_BadShape k_BadShape, eB_nf b_BadShape, (fun_mk (st := i_BadShape) l_BadShape c_BadShape k_BadShape).binds (ps := ["self", "value"]) fun _ _ _ _ _ _ us hl => match us, hl with | [_, _], _ => rfl, eB_xf b_BadShape, eB_is b_BadShape⟩,
    e_BadCount := ⟨C_BadCount, i_BadCount_f, _, _, PySem.W.mg_of X G a_BadCount, eB_ok F.excBase_ValueError F.store_ValueError b_BadCount, i_BadCount_h, t_BadCount_h, fun_mk (st := i_BadCount) l_BadCount c_BadCount k_BadCount, eB_nf b_BadCount, (fun_mk (st := i_BadCount) l_BadCount c_BadCount k_BadCount).binds (ps := ["self", "value"]) fun _ _ _ _ _ _ us hl => match us, hl with | [_, _], _ => rfl, eB_xf b_BadCount, eB_is b_BadCount⟩,
    n_NoMeeting := ⟨C_NoMeeting, PySem.W.mg_of X G a_NoMeeting, nB_ok F.excBase_ValueError b_NoMeeting, nB_is b_NoMeeting⟩,
    n_NoSolution := ⟨C_NoSolution, PySem.W.mg_of X G a_NoSolution, nB_ok F.excBase_ValueError b_NoSolution, nB_is b_NoSolution⟩,
    e_TooMany := ⟨C_TooMany, i_TooMany_f, _, _, PySem.W.mg_of X G a_TooMany, eB_ok F.excBase_ValueError F.store_ValueError b_TooMany, i_TooMany_h, t_TooMany_h, fun_mk (st := i_TooMany) l_TooMany c_TooMany k_TooMany, eB_nf b_TooMany, (fun_mk (st := i_TooMany) l_TooMany c_TooMany k_TooMany).binds (ps := ["self", "limit"]) fun _ _ _ _ _ _ us hl => match us, hl with | [_, _], _ => rfl, eB_xf b_TooMany, eB_is b_TooMany⟩,
    e_TooLarge := ⟨C_TooLarge, i_TooLarge_f, _, _, PySem.W.mg_of X G a_TooLarge, eB_ok F.excBase_ValueError F.store_ValueError b_TooLarge, i_TooLarge_h, t_TooLarge_h, fun_mk (st := i_TooLarge) l_TooLarge c_TooLarge k_TooLarge, eB_nf b_TooLarge, (fun_mk (st := i_TooLarge) l_TooLarge c_TooLarge k_TooLarge).binds (ps := ["self", "limit"]) fun _ _ _ _ _ _ us hl => match us, hl with | [_, _], _ => rfl, eB_xf b_TooLarge, eB_is b_TooLarge⟩,
    e_Clash := ⟨C_Clash, i_Clash_f, _, _, PySem.W.mg_of X G a_Clash, eB_ok F.excBase_ValueError F.store_ValueError b_Clash, i_Clash_h, t_Clash_h, fun_mk (st := i_Clash) l_Clash c_Clash k_Clash, eB_nf b_Clash, (fun_mk (st := i_Clash) l_Clash c_Clash k_Clash).binds (ps := ["self", "places"]) fun _ _ _ _ _ _ us hl => match us, hl with | [_, _], _ => rfl, eB_xf b_Clash, eB_is b_Clash⟩,
    e_BadChain := ⟨C_BadChain, i_BadChain_f, _, _, PySem.W.mg_of X G a_BadChain, eB_ok F.excBase_ValueError F.store_ValueError b_BadChain, i_BadChain_h, t_BadChain_h, fun_mk (st := i_BadChain) l_BadChain c_BadChain k_BadChain, eB_nf b_BadChain, (fun_mk (st := i_BadChain) l_BadChain c_BadChain k_BadChain).binds (ps := ["self", "index"]) fun _ _ _ _ _ _ us hl => match us, hl with | [_, _], _ => rfl, eB_xf b_BadChain, eB_is b_BadChain⟩,
    e_BadValue := ⟨C_BadValue, i_BadValue_f, _, _, PySem.W.mg_of X G a_BadValue, eB_ok F.excBase_ValueError F.store_ValueError b_BadValue, i_BadValue_h, t_BadValue_h, fun_mk (st := i_BadValue) l_BadValue c_BadValue k_BadValue, eB_nf b_BadValue, (fun_mk (st := i_BadValue) l_BadValue c_BadValue k_BadValue).binds (ps := ["self", "value"]) fun _ _ _ _ _ _ us hl => match us, hl with | [_, _], _ => rfl, eB_xf b_BadValue, eB_is b_BadValue⟩,
    e_BadForm := ⟨C_BadForm, i_BadForm_f, _, _, PySem.W.mg_of X G a_BadForm, eB_ok F.excBase_ValueError F.store_ValueError b_BadForm, i_BadForm_h, t_BadForm_h, fun_mk (st := i_BadForm) l_BadForm c_BadForm k_BadForm, eB_nf b_BadForm, (fun_mk (st := i_BadForm) l_BadForm c_BadForm k_BadForm).binds (ps := ["self", "form"]) fun _ _ _ _ _ _ us hl => match us, hl with | [_, _], _ => rfl, eB_xf b_BadForm, eB_is b_BadForm⟩,
    e_BadSize := ⟨C_BadSize, i_BadSize_f, _, _, PySem.W.mg_of X G a_BadSize, eB_ok F.excBase_ValueError F.store_ValueError b_BadSize, i_BadSize_h, t_BadSize_h, fun_mk (st := i_BadSize) l_BadSize c_BadSize k_BadSize, eB_nf b_BadSize, (fun_mk (st := i_BadSize) l_BadSize c_BadSize k_BadSize).binds (ps := ["self", "size"]) fun _ _ _ _ _ _ us hl => match us, hl with | [_, _], _ => rfl, eB_xf b_BadSize, eB_is b_BadSize⟩,
    e_NoValue := ⟨C_NoValue, i_NoValue_f, _, _, PySem.W.mg_of X G a_NoValue, eB_ok F.excBase_ValueError F.store_ValueError b_NoValue, i_NoValue_h, t_NoValue_h, fun_mk (st := i_NoValue) l_NoValue c_NoValue k_NoValue, eB_nf b_NoValue, (fun_mk (st := i_NoValue) l_NoValue c_NoValue k_NoValue).binds (ps := ["self", "value"]) fun _ _ _ _ _ _ us hl => match us, hl with | [_, _], _ => rfl, eB_xf b_NoValue, eB_is b_NoValue⟩,
    n_HasValues := ⟨C_HasValues, PySem.W.mg_of X G a_HasValues, nB_ok F.excBase_ValueError b_HasValues, nB_is b_HasValues⟩,
    e_NotMet := ⟨C_NotMet, i_NotMet_f, _, _, PySem.W.mg_of X G a_NotMet, eB_ok F.excBase_ValueError F.store_ValueError b_NotMet, i_NotMet_h, t_NotMet_h, fun_mk (st := i_NotMet) l_NotMet c_NotMet k_NotMet, eB_nf b_NotMet, (fun_mk (st := i_NotMet) l_NotMet c_NotMet k_NotMet).binds (ps := ["self", "value"]) fun _ _ _ _ _ _ us hl => match us, hl with | [_, _], _ => rfl, eB_xf b_NotMet, eB_is b_NotMet⟩,
    e_Idle := ⟨C_Idle, i_Idle_f, _, _, PySem.W.mg_of X G a_Idle, eB_ok F.excBase_ValueError F.store_ValueError b_Idle, i_Idle_h, t_Idle_h, fun_mk (st := i_Idle) l_Idle c_Idle k_Idle, eB_nf b_Idle, (fun_mk (st := i_Idle) l_Idle c_Idle k_Idle).binds (ps := ["self", "number"]) fun _ _ _ _ _ _ us hl => match us, hl with | [_, _], _ => rfl, eB_xf b_Idle, eB_is b_Idle⟩,
    e_BadRows := ⟨C_BadRows, i_BadRows_f, _, _, PySem.W.mg_of X G a_BadRows, eB_ok F.excBase_ValueError F.store_ValueError b_BadRows, i_BadRows_h, t_BadRows_h, fun_mk (st := i_BadRows) l_BadRows c_BadRows k_BadRows, eB_nf b_BadRows, (fun_mk (st := i_BadRows) l_BadRows c_BadRows k_BadRows).binds (ps := ["self", "error"]) fun _ _ _ _ _ _ us hl => match us, hl with | [_, _], _ => rfl, eB_xf b_BadRows, eB_is b_BadRows⟩,
    e_BadBook := ⟨C_BadBook, i_BadBook_f, _, _, PySem.W.mg_of X G a_BadBook, eB_ok F.excBase_ValueError F.store_ValueError b_BadBook, i_BadBook_h, t_BadBook_h, fun_mk (st := i_BadBook) l_BadBook c_BadBook k_BadBook, eB_nf b_BadBook, (fun_mk (st := i_BadBook) l_BadBook c_BadBook k_BadBook).binds (ps := ["self", "error"]) fun _ _ _ _ _ _ us hl => match us, hl with | [_, _], _ => rfl, eB_xf b_BadBook, eB_is b_BadBook⟩,
    e_HasHole := ⟨C_HasHole, i_HasHole_f, _, _, PySem.W.mg_of X G a_HasHole, eB_ok F.excBase_ValueError F.store_ValueError b_HasHole, i_HasHole_h, t_HasHole_h, fun_mk (st := i_HasHole) l_HasHole c_HasHole k_HasHole, eB_nf b_HasHole, (fun_mk (st := i_HasHole) l_HasHole c_HasHole k_HasHole).binds (ps := ["self", "spot"]) fun _ _ _ _ _ _ us hl => match us, hl with | [_, _], _ => rfl, eB_xf b_HasHole, eB_is b_HasHole⟩,
    e_NotPlain := ⟨C_NotPlain, i_NotPlain_f, _, _, PySem.W.mg_of X G a_NotPlain, eB_ok F.excBase_ValueError F.store_ValueError b_NotPlain, i_NotPlain_h, t_NotPlain_h, fun_mk (st := i_NotPlain) l_NotPlain c_NotPlain k_NotPlain, eB_nf b_NotPlain, (fun_mk (st := i_NotPlain) l_NotPlain c_NotPlain k_NotPlain).binds (ps := ["self", "index"]) fun _ _ _ _ _ _ us hl => match us, hl with | [_, _], _ => rfl, eB_xf b_NotPlain, eB_is b_NotPlain⟩,
    e_BadDatas := ⟨C_BadDatas, i_BadDatas_f, _, _, PySem.W.mg_of X G a_BadDatas, eB_ok F.excBase_ValueError F.store_ValueError b_BadDatas, i_BadDatas_h, t_BadDatas_h, fun_mk (st := i_BadDatas) l_BadDatas c_BadDatas k_BadDatas, eB_nf b_BadDatas, (fun_mk (st := i_BadDatas) l_BadDatas c_BadDatas k_BadDatas).binds (ps := ["self", "error"]) fun _ _ _ _ _ _ us hl => match us, hl with | [_, _], _ => rfl, eB_xf b_BadDatas, eB_is b_BadDatas⟩,
    e_Used := ⟨C_Used, i_Used_f, _, _, PySem.W.mg_of X G a_Used, eB_ok F.excBase_ValueError F.store_ValueError b_Used, i_Used_h, t_Used_h, fun_mk (st := i_Used) l_Used c_Used k_Used, eB_nf b_Used, (fun_mk (st := i_Used) l_Used c_Used k_Used).binds (ps := ["self", "word"]) fun _ _ _ _ _ _ us hl => match us, hl with | [_, _], _ => rfl, eB_xf b_Used, eB_is b_Used⟩,
    e_Refused := ⟨C_Refused, i_Refused_f, _, _, PySem.W.mg_of X G a_Refused, eB_ok F.excBase_ValueError F.store_ValueError b_Refused, i_Refused_h, t_Refused_h, fun_mk (st := i_Refused) l_Refused c_Refused k_Refused, eB_nf b_Refused, (fun_mk (st := i_Refused) l_Refused c_Refused k_Refused).binds (ps := ["self", "index", "verdict"]) fun _ _ _ _ _ _ us hl => match us, hl with | [_, _, _], _ => rfl, eB_xf b_Refused, eB_is b_Refused⟩,
    n_TooManyEdits := ⟨C_TooManyEdits, PySem.W.mg_of X G a_TooManyEdits, nB_ok F.excBase_ValueError b_TooManyEdits, nB_is b_TooManyEdits⟩,
    n_NothingToUndo := ⟨C_NothingToUndo, PySem.W.mg_of X G a_NothingToUndo, nB_ok F.excBase_ValueError b_NothingToUndo, nB_is b_NothingToUndo⟩,
    n_BadEdits := ⟨C_BadEdits, PySem.W.mg_of X G a_BadEdits, nB_ok F.excBase_ValueError b_BadEdits, nB_is b_BadEdits⟩,
    e_BadEdit := ⟨C_BadEdit, i_BadEdit_f, _, _, PySem.W.mg_of X G a_BadEdit, eB_ok F.excBase_ValueError F.store_ValueError b_BadEdit, i_BadEdit_h, t_BadEdit_h, fun_mk (st := i_BadEdit) l_BadEdit c_BadEdit k_BadEdit, eB_nf b_BadEdit, (fun_mk (st := i_BadEdit) l_BadEdit c_BadEdit k_BadEdit).binds (ps := ["self", "index"]) fun _ _ _ _ _ _ us hl => match us, hl with | [_, _], _ => rfl, eB_xf b_BadEdit, eB_is b_BadEdit⟩,
    e_Rejected := ⟨C_Rejected, i_Rejected_f, _, _, PySem.W.mg_of X G a_Rejected, eB_ok F.excBase_ValueError F.store_ValueError b_Rejected, i_Rejected_h, t_Rejected_h, fun_mk (st := i_Rejected) l_Rejected c_Rejected k_Rejected, eB_nf b_Rejected, (fun_mk (st := i_Rejected) l_Rejected c_Rejected k_Rejected).binds (ps := ["self", "index"]) fun _ _ _ _ _ _ us hl => match us, hl with | [_, _], _ => rfl, eB_xf b_Rejected, eB_is b_Rejected⟩,
    n_Busy := ⟨C_Busy, PySem.W.mg_of X G a_Busy, nB_ok F.excBase_ValueError b_Busy, nB_is b_Busy⟩,
    e_BadExpression := ⟨C_BadExpression, i_BadExpression_f, _, _, PySem.W.mg_of X G a_BadExpression, eB_ok F.excBase_ValueError F.store_ValueError b_BadExpression, i_BadExpression_h, t_BadExpression_h, fun_mk (st := i_BadExpression) l_BadExpression c_BadExpression k_BadExpression, eB_nf b_BadExpression, (fun_mk (st := i_BadExpression) l_BadExpression c_BadExpression k_BadExpression).binds (ps := ["self", "error"]) fun _ _ _ _ _ _ us hl => match us, hl with | [_, _], _ => rfl, eB_xf b_BadExpression, eB_is b_BadExpression⟩,
    e_Incomplete := ⟨C_Incomplete, i_Incomplete_f, _, _, PySem.W.mg_of X G a_Incomplete, eB_ok F.excBase_ValueError F.store_ValueError b_Incomplete, i_Incomplete_h, t_Incomplete_h, fun_mk (st := i_Incomplete) l_Incomplete c_Incomplete k_Incomplete, eB_nf b_Incomplete, (fun_mk (st := i_Incomplete) l_Incomplete c_Incomplete k_Incomplete).binds (ps := ["self", "word", "place", "outline"]) fun _ _ _ _ _ _ us hl => match us, hl with | [_, _, _, _], _ => rfl, eB_xf b_Incomplete, eB_is b_Incomplete⟩,
    e_BadText := ⟨C_BadText, i_BadText_f, _, _, PySem.W.mg_of X G a_BadText, eB_ok F.excBase_ValueError F.store_ValueError b_BadText, i_BadText_h, t_BadText_h, fun_mk (st := i_BadText) l_BadText c_BadText k_BadText, eB_nf b_BadText, (fun_mk (st := i_BadText) l_BadText c_BadText k_BadText).binds (ps := ["self", "index"]) fun _ _ _ _ _ _ us hl => match us, hl with | [_, _], _ => rfl, eB_xf b_BadText, eB_is b_BadText⟩,
    e_NoPlace := ⟨C_NoPlace, i_NoPlace_f, _, _, PySem.W.mg_of X G a_NoPlace, eB_ok F.excBase_LookupError F.store_LookupError b_NoPlace, i_NoPlace_h, t_NoPlace_h, fun_mk (st := i_NoPlace) l_NoPlace c_NoPlace k_NoPlace, eB_nf b_NoPlace, (fun_mk (st := i_NoPlace) l_NoPlace c_NoPlace k_NoPlace).binds (ps := ["self", "value"]) fun _ _ _ _ _ _ us hl => match us, hl with | [_, _], _ => rfl, eB_xf b_NoPlace, eB_is b_NoPlace⟩,
    e_NoMaker := ⟨C_NoMaker, i_NoMaker_f, _, _, PySem.W.mg_of X G a_NoMaker, eB_ok F.excBase_LookupError F.store_LookupError b_NoMaker, i_NoMaker_h, t_NoMaker_h, fun_mk (st := i_NoMaker) l_NoMaker c_NoMaker k_NoMaker, eB_nf b_NoMaker, (fun_mk (st := i_NoMaker) l_NoMaker c_NoMaker k_NoMaker).binds (ps := ["self", "name"]) fun _ _ _ _ _ _ us hl => match us, hl with | [_, _], _ => rfl, eB_xf b_NoMaker, eB_is b_NoMaker⟩,
    e_NoIndex := ⟨C_NoIndex, i_NoIndex_f, _, _, PySem.W.mg_of X G a_NoIndex, eB_ok F.excBase_LookupError F.store_LookupError b_NoIndex, i_NoIndex_h, t_NoIndex_h, fun_mk (st := i_NoIndex) l_NoIndex c_NoIndex k_NoIndex, eB_nf b_NoIndex, (fun_mk (st := i_NoIndex) l_NoIndex c_NoIndex k_NoIndex).binds (ps := ["self", "index"]) fun _ _ _ _ _ _ us hl => match us, hl with | [_, _], _ => rfl, eB_xf b_NoIndex, eB_is b_NoIndex⟩,
    e_NoRow := ⟨C_NoRow, i_NoRow_f, _, _, PySem.W.mg_of X G a_NoRow, eB_ok F.excBase_LookupError F.store_LookupError b_NoRow, i_NoRow_h, t_NoRow_h, fun_mk (st := i_NoRow) l_NoRow c_NoRow k_NoRow, eB_nf b_NoRow, (fun_mk (st := i_NoRow) l_NoRow c_NoRow k_NoRow).binds (ps := ["self", "number"]) fun _ _ _ _ _ _ us hl => match us, hl with | [_, _], _ => rfl, eB_xf b_NoRow, eB_is b_NoRow⟩,
    e_NoDefinition := ⟨C_NoDefinition, i_NoDefinition_f, _, _, PySem.W.mg_of X G a_NoDefinition, eB_ok F.excBase_LookupError F.store_LookupError b_NoDefinition, i_NoDefinition_h, t_NoDefinition_h, fun_mk (st := i_NoDefinition) l_NoDefinition c_NoDefinition k_NoDefinition, eB_nf b_NoDefinition, (fun_mk (st := i_NoDefinition) l_NoDefinition c_NoDefinition k_NoDefinition).binds (ps := ["self", "value"]) fun _ _ _ _ _ _ us hl => match us, hl with | [_, _], _ => rfl, eB_xf b_NoDefinition, eB_is b_NoDefinition⟩,
    e_NoWord := ⟨C_NoWord, i_NoWord_f, _, _, PySem.W.mg_of X G a_NoWord, eB_ok F.excBase_LookupError F.store_LookupError b_NoWord, i_NoWord_h, t_NoWord_h, fun_mk (st := i_NoWord) l_NoWord c_NoWord k_NoWord, eB_nf b_NoWord, (fun_mk (st := i_NoWord) l_NoWord c_NoWord k_NoWord).binds (ps := ["self", "word"]) fun _ _ _ _ _ _ us hl => match us, hl with | [_, _], _ => rfl, eB_xf b_NoWord, eB_is b_NoWord⟩,
    e_NoVersion := ⟨C_NoVersion, i_NoVersion_f, _, _, PySem.W.mg_of X G a_NoVersion, eB_ok F.excBase_LookupError F.store_LookupError b_NoVersion, i_NoVersion_h, t_NoVersion_h, fun_mk (st := i_NoVersion) l_NoVersion c_NoVersion k_NoVersion, eB_nf b_NoVersion, (fun_mk (st := i_NoVersion) l_NoVersion c_NoVersion k_NoVersion).binds (ps := ["self", "value"]) fun _ _ _ _ _ _ us hl => match us, hl with | [_, _], _ => rfl, eB_xf b_NoVersion, eB_is b_NoVersion⟩,
    lang := lang,
    gL := PySem.W.mg_of X G a_lang,
    tab := b_tab
  }
  exact ⟨T.law.fd, fun s v => .of_eq rfl, fun base _ _ => fnG_ofX (ok_law T)⟩
end K84
set_option Elab.async false
set_option linter.all false
set_option maxRecDepth 100000
set_option maxHeartbeats 0
namespace K84
open PySem PySem.Spec PyProof.Rows L2 Sl
def qFn0 : List (He.FnD) := [⟨("_law_draws", none), "_law_draws", "_law_draws", defArgs s_law_draws, defBody s_law_draws, defScope s_law_draws⟩, ⟨("_law_next", none), "_law_next", "_law_next", defArgs s_law_next, defBody s_law_next, defScope s_law_next⟩, ⟨("_law_one", none), "_law_one", "_law_one", defArgs s_law_one, defBody s_law_one, defScope s_law_one⟩, ⟨("_law_errors", none), "_law_errors", "_law_errors", defArgs s_law_errors, defBody s_law_errors, defScope s_law_errors⟩, ⟨("_law_flags", none), "_law_flags", "_law_flags", defArgs s_law_flags, defBody s_law_flags, defScope s_law_flags⟩, ⟨("_law_fields", none), "_law_fields", "_law_fields", defArgs s_law_fields, defBody s_law_fields, defScope s_law_fields⟩, ⟨("_law_more_fields", none), "_law_more_fields", "_law_more_fields", defArgs s_law_more_fields, defBody s_law_more_fields, defScope s_law_more_fields⟩, ⟨("_law_right", none), "_law_right", "_law_right", defArgs s_law_right, defBody s_law_right, defScope s_law_right⟩, ⟨("_law_objects_right", none), "_law_objects_right", "_law_objects_right", defArgs s_law_objects_right, defBody s_law_objects_right, defScope s_law_objects_right⟩, ⟨("law", none), "law", "law", defArgs s_law, defBody s_law, defScope s_law⟩]
def qFn1 : List (He.FnD) := [⟨("BadShape", some "__init__"), "__init__", "BadShape.__init__", defArgs i_BadShape, defBody i_BadShape, defScope i_BadShape⟩, ⟨("BadCount", some "__init__"), "__init__", "BadCount.__init__", defArgs i_BadCount, defBody i_BadCount, defScope i_BadCount⟩, ⟨("TooMany", some "__init__"), "__init__", "TooMany.__init__", defArgs i_TooMany, defBody i_TooMany, defScope i_TooMany⟩, ⟨("TooLarge", some "__init__"), "__init__", "TooLarge.__init__", defArgs i_TooLarge, defBody i_TooLarge, defScope i_TooLarge⟩, ⟨("Clash", some "__init__"), "__init__", "Clash.__init__", defArgs i_Clash, defBody i_Clash, defScope i_Clash⟩, ⟨("BadChain", some "__init__"), "__init__", "BadChain.__init__", defArgs i_BadChain, defBody i_BadChain, defScope i_BadChain⟩, ⟨("BadValue", some "__init__"), "__init__", "BadValue.__init__", defArgs i_BadValue, defBody i_BadValue, defScope i_BadValue⟩, ⟨("BadForm", some "__init__"), "__init__", "BadForm.__init__", defArgs i_BadForm, defBody i_BadForm, defScope i_BadForm⟩, ⟨("BadSize", some "__init__"), "__init__", "BadSize.__init__", defArgs i_BadSize, defBody i_BadSize, defScope i_BadSize⟩, ⟨("NoValue", some "__init__"), "__init__", "NoValue.__init__", defArgs i_NoValue, defBody i_NoValue, defScope i_NoValue⟩]
def qFn2 : List (He.FnD) := [⟨("NotMet", some "__init__"), "__init__", "NotMet.__init__", defArgs i_NotMet, defBody i_NotMet, defScope i_NotMet⟩, ⟨("Idle", some "__init__"), "__init__", "Idle.__init__", defArgs i_Idle, defBody i_Idle, defScope i_Idle⟩, ⟨("BadRows", some "__init__"), "__init__", "BadRows.__init__", defArgs i_BadRows, defBody i_BadRows, defScope i_BadRows⟩, ⟨("BadBook", some "__init__"), "__init__", "BadBook.__init__", defArgs i_BadBook, defBody i_BadBook, defScope i_BadBook⟩, ⟨("HasHole", some "__init__"), "__init__", "HasHole.__init__", defArgs i_HasHole, defBody i_HasHole, defScope i_HasHole⟩, ⟨("NotPlain", some "__init__"), "__init__", "NotPlain.__init__", defArgs i_NotPlain, defBody i_NotPlain, defScope i_NotPlain⟩, ⟨("BadDatas", some "__init__"), "__init__", "BadDatas.__init__", defArgs i_BadDatas, defBody i_BadDatas, defScope i_BadDatas⟩, ⟨("Used", some "__init__"), "__init__", "Used.__init__", defArgs i_Used, defBody i_Used, defScope i_Used⟩, ⟨("Refused", some "__init__"), "__init__", "Refused.__init__", defArgs i_Refused, defBody i_Refused, defScope i_Refused⟩, ⟨("BadEdit", some "__init__"), "__init__", "BadEdit.__init__", defArgs i_BadEdit, defBody i_BadEdit, defScope i_BadEdit⟩]
def qFn3 : List (He.FnD) := [⟨("Rejected", some "__init__"), "__init__", "Rejected.__init__", defArgs i_Rejected, defBody i_Rejected, defScope i_Rejected⟩, ⟨("BadExpression", some "__init__"), "__init__", "BadExpression.__init__", defArgs i_BadExpression, defBody i_BadExpression, defScope i_BadExpression⟩, ⟨("Incomplete", some "__init__"), "__init__", "Incomplete.__init__", defArgs i_Incomplete, defBody i_Incomplete, defScope i_Incomplete⟩, ⟨("BadText", some "__init__"), "__init__", "BadText.__init__", defArgs i_BadText, defBody i_BadText, defScope i_BadText⟩, ⟨("NoPlace", some "__init__"), "__init__", "NoPlace.__init__", defArgs i_NoPlace, defBody i_NoPlace, defScope i_NoPlace⟩, ⟨("NoMaker", some "__init__"), "__init__", "NoMaker.__init__", defArgs i_NoMaker, defBody i_NoMaker, defScope i_NoMaker⟩, ⟨("NoIndex", some "__init__"), "__init__", "NoIndex.__init__", defArgs i_NoIndex, defBody i_NoIndex, defScope i_NoIndex⟩, ⟨("NoRow", some "__init__"), "__init__", "NoRow.__init__", defArgs i_NoRow, defBody i_NoRow, defScope i_NoRow⟩, ⟨("NoDefinition", some "__init__"), "__init__", "NoDefinition.__init__", defArgs i_NoDefinition, defBody i_NoDefinition, defScope i_NoDefinition⟩, ⟨("NoWord", some "__init__"), "__init__", "NoWord.__init__", defArgs i_NoWord, defBody i_NoWord, defScope i_NoWord⟩]
def qFn4 : List (He.FnD) := [⟨("NoVersion", some "__init__"), "__init__", "NoVersion.__init__", defArgs i_NoVersion, defBody i_NoVersion, defScope i_NoVersion⟩]
def qFn : List (He.FnD) := qFn0 ++ qFn1 ++ qFn2 ++ qFn3 ++ qFn4
def qGlo0 : List (Str) := ["_law_draws", "_law_next", "_law_one", "_law_errors", "_law_flags", "_law_fields", "_law_more_fields", "_law_right", "_law_objects_right", "law", "BadShape", "BadCount", "NoMeeting", "NoSolution", "TooMany", "TooLarge", "Clash", "BadChain", "BadValue", "BadForm", "BadSize", "NoValue", "HasValues", "NotMet", "Idle", "BadRows", "BadBook", "HasHole", "NotPlain", "BadDatas"]
def qGlo1 : List (Str) := ["Used", "Refused", "TooManyEdits", "NothingToUndo", "BadEdits", "BadEdit", "Rejected", "Busy", "BadExpression", "Incomplete", "BadText", "NoPlace", "NoMaker", "NoIndex", "NoRow", "NoDefinition", "NoWord", "NoVersion", "LangError"]
def qGlo : List (Str) := qGlo0 ++ qGlo1
def qFree0 : List (Str) := ["isinstance", "len", "int", "abs", "repr", "range", "enumerate", "ValueError", "LookupError"]
def qFree : List (Str) := qFree0
def qInt0 : List (Str × Int) := [("VARIABLES", 199), ("NODES", 200), ("DEPTH", 30), ("GROUPS", 80), ("LISTED", 50), ("DATAS", 6), ("PLACES", 60), ("ROWS", 8), ("MET", 200), ("SIZES", 40), ("FORM", 500), ("TREE", 1000), ("DEFINITIONS", 8), ("CALLS", 2000), ("SHOWN", 500), ("PARAMETERS", 3), ("EDITS", 60), ("BATCH", 20)]
def qInt : List (Str × Int) := qInt0
def qOther0 : List (Str) := ["LangError", "BadShape", "BadCount", "NoMeeting", "NoSolution", "TooMany", "TooLarge", "Clash", "BadChain", "BadValue", "BadForm", "BadSize", "NoValue", "HasValues", "NotMet", "Idle", "BadRows", "BadBook", "HasHole", "NotPlain", "BadDatas", "Used", "Refused", "TooManyEdits", "NothingToUndo", "BadEdits", "BadEdit", "Rejected", "Busy", "BadExpression"]
def qOther1 : List (Str) := ["Incomplete", "BadText", "NoPlace", "NoMaker", "NoIndex", "NoRow", "NoDefinition", "NoWord", "NoVersion", "VARIABLES", "NODES", "DEPTH", "GROUPS", "LISTED", "DATAS", "PLACES", "ROWS", "MET", "SIZES", "FORM", "TREE", "DEFINITIONS", "CALLS", "SHOWN", "PARAMETERS", "EDITS", "BATCH", "_law_draws", "_law_next", "_law_one"]
def qOther2 : List (Str) := ["_law_errors", "_law_flags", "_law_fields", "_law_more_fields", "_law_right", "_law_objects_right"]
def qOther : List (Str) := qOther0 ++ qOther1 ++ qOther2
def qEV0 : List (Str × List Str) := [("BadShape", ["value"]), ("BadCount", ["value"]), ("TooMany", ["limit"]), ("TooLarge", ["limit"]), ("Clash", ["places"]), ("BadChain", ["index"]), ("BadValue", ["value"]), ("BadForm", ["form"]), ("BadSize", ["size"]), ("NoValue", ["value"]), ("NotMet", ["value"]), ("Idle", ["number"]), ("BadRows", ["error"]), ("BadBook", ["error"]), ("HasHole", ["spot"]), ("NotPlain", ["index"]), ("BadDatas", ["error"]), ("Used", ["word"]), ("Refused", ["index", "verdict"]), ("BadEdit", ["index"]), ("Rejected", ["index"]), ("BadExpression", ["error"]), ("Incomplete", ["word", "place", "outline"]), ("BadText", ["index"])]
def qEV : List (Str × List Str) := qEV0
def qEL0 : List (Str × List Str) := [("NoPlace", ["value"]), ("NoMaker", ["name"]), ("NoIndex", ["index"]), ("NoRow", ["number"]), ("NoDefinition", ["value"]), ("NoWord", ["word"]), ("NoVersion", ["value"])]
def qEL : List (Str × List Str) := qEL0
def qNV0 : List (Str) := ["NoMeeting", "NoSolution", "HasValues", "TooManyEdits", "NothingToUndo", "BadEdits", "Busy"]
def qNV : List (Str) := qNV0
def inB (K : PySem.W.Frag) (c : Str) : Bool := decide (PySem.W.findIn K (.ref (He.ga K c)) "__init__" = some (some (.ref (He.ma K (He.ga K c) "__init__")))) && decide (PySem.W.typeIn K (.ref (He.ma K (He.ga K c) "__init__")) = some (.type "function"))
def qEx (K : PySem.W.Frag) : Bool := qGlo.all (gloB K) && (qFree.all (freeB K) && (qInt.all (numB K) && (qFn.all (fnB K) && (qEV.all (fun p => inB K p.1 && eB K (He.ga K p.1) [.type "ValueError", .type "Exception", .type "BaseException", .type "object"] "ValueError.__new__" p.2) && (qEL.all (fun p => inB K p.1 && eB K (He.ga K p.1) [.type "LookupError", .type "Exception", .type "BaseException", .type "object"] "LookupError.__new__" p.2) && (qNV.all (fun c => nB K (He.ga K c) [.type "ValueError", .type "Exception", .type "BaseException", .type "object"] "ValueError.__new__") && tabB K [He.ga K "BadShape", He.ga K "BadCount", He.ga K "NoMeeting", He.ga K "NoSolution", He.ga K "TooMany", He.ga K "TooLarge", He.ga K "Clash", He.ga K "BadChain", He.ga K "BadValue", He.ga K "BadForm", He.ga K "BadSize", He.ga K "NoValue", He.ga K "HasValues", He.ga K "NotMet", He.ga K "Idle", He.ga K "BadRows", He.ga K "BadBook", He.ga K "HasHole", He.ga K "NotPlain", He.ga K "BadDatas", He.ga K "Used", He.ga K "Refused", He.ga K "TooManyEdits", He.ga K "NothingToUndo", He.ga K "BadEdits", He.ga K "BadEdit", He.ga K "Rejected", He.ga K "Busy", He.ga K "BadExpression", He.ga K "Incomplete", He.ga K "BadText", He.ga K "NoPlace", He.ga K "NoMaker", He.ga K "NoIndex", He.ga K "NoRow", He.ga K "NoDefinition", He.ga K "NoWord", He.ga K "NoVersion"] (He.ga K "LangError")))))))
abbrev R : PySem.W.OpenRow := PySem.W.OpenLaw.row PySem.Challenge.rw_shapelang_k84_errors_and_bounds
theorem run (w : World) : HandSHeadRun.RunEq R (PySem.W.view R.prog [68]) (hookH 5 qFn qEx) (obH 5 qFn qEx) 60000 qOther w := by
  intro os
  kernel_rfl
end K84
set_option Elab.async false
set_option linter.all false
set_option maxRecDepth 100000
set_option maxHeartbeats 0
namespace K84
open PySem PySem.Spec PyProof.Rows L2 Sl
theorem facts {l : PySem.W.OpenLaw} {w : World} {K : PySem.W.Frag} {h : Heap} {mg : Str → Option Value} {fa : Addr} (X : K.In h) (G : h.Ns mainGlobals mg) (hfa : mg "law" = some (.ref fa)) (Q : Qs qFn qEx K) :
    ∃ fd : FuncData, (∀ (s : Shared) (v : Value), BindsTo s fd ⟨[v], []⟩ [("_law_script", v)]) ∧ ∀ base : Heap, K.In base → base.Ns mainGlobals mg → FnG l.prog w K mg base 64 fa fd ["_law_script"] (K84.spLaw K) := by
  have hx := Q.x
  unfold qEx at hx
  simp only [Bool.and_eq_true] at hx
  obtain ⟨hg, hz, hi, hf, hev, hel, hnv, b_tab⟩ := hx
  have io : ∀ c, inB K c = true → PySem.W.findIn K (.ref (He.ga K c)) "__init__" = some (some (.ref (He.ma K (He.ga K c) "__init__"))) ∧ PySem.W.typeIn K (.ref (He.ma K (He.ga K c) "__init__")) = some (.type "function") := fun c h => by
    unfold inB at h
    rw [Bool.and_eq_true] at h
    exact ⟨of_decide_eq_true h.1, of_decide_eq_true h.2⟩
  have ev : ∀ (c : Str) (fs : List Str) (_ : qEV.contains (c, fs) = true := by decide +kernel), (PySem.W.findIn K (.ref (He.ga K c)) "__init__" = some (some (.ref (He.ma K (He.ga K c) "__init__"))) ∧ PySem.W.typeIn K (.ref (He.ma K (He.ga K c) "__init__")) = some (.type "function")) ∧ eB K (He.ga K c) [.type "ValueError", .type "Exception", .type "BaseException", .type "object"] "ValueError.__new__" fs = true := fun c fs m => by
    have z := List.all_eq_true.mp hev (c, fs) (List.contains_iff_mem.mp m)
    rw [Bool.and_eq_true] at z
    exact ⟨io c z.1, z.2⟩
  have el : ∀ (c : Str) (fs : List Str) (_ : qEL.contains (c, fs) = true := by decide +kernel), (PySem.W.findIn K (.ref (He.ga K c)) "__init__" = some (some (.ref (He.ma K (He.ga K c) "__init__"))) ∧ PySem.W.typeIn K (.ref (He.ma K (He.ga K c) "__init__")) = some (.type "function")) ∧ eB K (He.ga K c) [.type "LookupError", .type "Exception", .type "BaseException", .type "object"] "LookupError.__new__" fs = true := fun c fs m => by
    have z := List.all_eq_true.mp hel (c, fs) (List.contains_iff_mem.mp m)
    rw [Bool.and_eq_true] at z
    exact ⟨io c z.1, z.2⟩
  have nv : ∀ (c : Str) (_ : qNV.contains c = true := by decide +kernel), nB K (He.ga K c) [.type "ValueError", .type "Exception", .type "BaseException", .type "object"] "ValueError.__new__" = true := fun c m => List.all_eq_true.mp hnv c (List.contains_iff_mem.mp m)
  obtain ⟨_, _, _, _, _, _, _, _, _, l0, c0, k0⟩ := Q.def_ hf 0 (d := ⟨("_law_draws", none), "_law_draws", "_law_draws", defArgs s_law_draws, defBody s_law_draws, defScope s_law_draws⟩) rfl
  obtain ⟨_, _, _, _, _, _, _, _, _, l1, c1, k1⟩ := Q.def_ hf 1 (d := ⟨("_law_next", none), "_law_next", "_law_next", defArgs s_law_next, defBody s_law_next, defScope s_law_next⟩) rfl
  obtain ⟨_, _, _, _, _, _, _, _, _, l2, c2, k2⟩ := Q.def_ hf 2 (d := ⟨("_law_one", none), "_law_one", "_law_one", defArgs s_law_one, defBody s_law_one, defScope s_law_one⟩) rfl
  obtain ⟨_, _, _, _, _, _, _, _, _, l3, c3, k3⟩ := Q.def_ hf 3 (d := ⟨("_law_errors", none), "_law_errors", "_law_errors", defArgs s_law_errors, defBody s_law_errors, defScope s_law_errors⟩) rfl
  obtain ⟨_, _, _, _, _, _, _, _, _, l4, c4, k4⟩ := Q.def_ hf 4 (d := ⟨("_law_flags", none), "_law_flags", "_law_flags", defArgs s_law_flags, defBody s_law_flags, defScope s_law_flags⟩) rfl
  obtain ⟨_, _, _, _, _, _, _, _, _, l5, c5, k5⟩ := Q.def_ hf 5 (d := ⟨("_law_fields", none), "_law_fields", "_law_fields", defArgs s_law_fields, defBody s_law_fields, defScope s_law_fields⟩) rfl
  obtain ⟨_, _, _, _, _, _, _, _, _, l6, c6, k6⟩ := Q.def_ hf 6 (d := ⟨("_law_more_fields", none), "_law_more_fields", "_law_more_fields", defArgs s_law_more_fields, defBody s_law_more_fields, defScope s_law_more_fields⟩) rfl
  obtain ⟨_, _, _, _, _, _, _, _, _, l7, c7, k7⟩ := Q.def_ hf 7 (d := ⟨("_law_right", none), "_law_right", "_law_right", defArgs s_law_right, defBody s_law_right, defScope s_law_right⟩) rfl
  obtain ⟨_, _, _, _, _, _, _, _, _, l8, c8, k8⟩ := Q.def_ hf 8 (d := ⟨("_law_objects_right", none), "_law_objects_right", "_law_objects_right", defArgs s_law_objects_right, defBody s_law_objects_right, defScope s_law_objects_right⟩) rfl
  obtain ⟨_, _, _, _, _, _, _, _, _, l9, c9, k9⟩ := Q.def_ hf 9 (d := ⟨("law", none), "law", "law", defArgs s_law, defBody s_law, defScope s_law⟩) rfl
  obtain ⟨_, _, _, _, _, _, _, _, _, l_BadShape, c_BadShape, k_BadShape⟩ := Q.def_ hf 10 (d := ⟨("BadShape", some "__init__"), "__init__", "BadShape.__init__", defArgs i_BadShape, defBody i_BadShape, defScope i_BadShape⟩) rfl
  obtain ⟨_, _, _, _, _, _, _, _, _, l_BadCount, c_BadCount, k_BadCount⟩ := Q.def_ hf 11 (d := ⟨("BadCount", some "__init__"), "__init__", "BadCount.__init__", defArgs i_BadCount, defBody i_BadCount, defScope i_BadCount⟩) rfl
  obtain ⟨_, _, _, _, _, _, _, _, _, l_TooMany, c_TooMany, k_TooMany⟩ := Q.def_ hf 12 (d := ⟨("TooMany", some "__init__"), "__init__", "TooMany.__init__", defArgs i_TooMany, defBody i_TooMany, defScope i_TooMany⟩) rfl
  obtain ⟨_, _, _, _, _, _, _, _, _, l_TooLarge, c_TooLarge, k_TooLarge⟩ := Q.def_ hf 13 (d := ⟨("TooLarge", some "__init__"), "__init__", "TooLarge.__init__", defArgs i_TooLarge, defBody i_TooLarge, defScope i_TooLarge⟩) rfl
  obtain ⟨_, _, _, _, _, _, _, _, _, l_Clash, c_Clash, k_Clash⟩ := Q.def_ hf 14 (d := ⟨("Clash", some "__init__"), "__init__", "Clash.__init__", defArgs i_Clash, defBody i_Clash, defScope i_Clash⟩) rfl
  obtain ⟨_, _, _, _, _, _, _, _, _, l_BadChain, c_BadChain, k_BadChain⟩ := Q.def_ hf 15 (d := ⟨("BadChain", some "__init__"), "__init__", "BadChain.__init__", defArgs i_BadChain, defBody i_BadChain, defScope i_BadChain⟩) rfl
  obtain ⟨_, _, _, _, _, _, _, _, _, l_BadValue, c_BadValue, k_BadValue⟩ := Q.def_ hf 16 (d := ⟨("BadValue", some "__init__"), "__init__", "BadValue.__init__", defArgs i_BadValue, defBody i_BadValue, defScope i_BadValue⟩) rfl
  obtain ⟨_, _, _, _, _, _, _, _, _, l_BadForm, c_BadForm, k_BadForm⟩ := Q.def_ hf 17 (d := ⟨("BadForm", some "__init__"), "__init__", "BadForm.__init__", defArgs i_BadForm, defBody i_BadForm, defScope i_BadForm⟩) rfl
  obtain ⟨_, _, _, _, _, _, _, _, _, l_BadSize, c_BadSize, k_BadSize⟩ := Q.def_ hf 18 (d := ⟨("BadSize", some "__init__"), "__init__", "BadSize.__init__", defArgs i_BadSize, defBody i_BadSize, defScope i_BadSize⟩) rfl
  obtain ⟨_, _, _, _, _, _, _, _, _, l_NoValue, c_NoValue, k_NoValue⟩ := Q.def_ hf 19 (d := ⟨("NoValue", some "__init__"), "__init__", "NoValue.__init__", defArgs i_NoValue, defBody i_NoValue, defScope i_NoValue⟩) rfl
  obtain ⟨_, _, _, _, _, _, _, _, _, l_NotMet, c_NotMet, k_NotMet⟩ := Q.def_ hf 20 (d := ⟨("NotMet", some "__init__"), "__init__", "NotMet.__init__", defArgs i_NotMet, defBody i_NotMet, defScope i_NotMet⟩) rfl
  obtain ⟨_, _, _, _, _, _, _, _, _, l_Idle, c_Idle, k_Idle⟩ := Q.def_ hf 21 (d := ⟨("Idle", some "__init__"), "__init__", "Idle.__init__", defArgs i_Idle, defBody i_Idle, defScope i_Idle⟩) rfl
  obtain ⟨_, _, _, _, _, _, _, _, _, l_BadRows, c_BadRows, k_BadRows⟩ := Q.def_ hf 22 (d := ⟨("BadRows", some "__init__"), "__init__", "BadRows.__init__", defArgs i_BadRows, defBody i_BadRows, defScope i_BadRows⟩) rfl
  obtain ⟨_, _, _, _, _, _, _, _, _, l_BadBook, c_BadBook, k_BadBook⟩ := Q.def_ hf 23 (d := ⟨("BadBook", some "__init__"), "__init__", "BadBook.__init__", defArgs i_BadBook, defBody i_BadBook, defScope i_BadBook⟩) rfl
  obtain ⟨_, _, _, _, _, _, _, _, _, l_HasHole, c_HasHole, k_HasHole⟩ := Q.def_ hf 24 (d := ⟨("HasHole", some "__init__"), "__init__", "HasHole.__init__", defArgs i_HasHole, defBody i_HasHole, defScope i_HasHole⟩) rfl
  obtain ⟨_, _, _, _, _, _, _, _, _, l_NotPlain, c_NotPlain, k_NotPlain⟩ := Q.def_ hf 25 (d := ⟨("NotPlain", some "__init__"), "__init__", "NotPlain.__init__", defArgs i_NotPlain, defBody i_NotPlain, defScope i_NotPlain⟩) rfl
  obtain ⟨_, _, _, _, _, _, _, _, _, l_BadDatas, c_BadDatas, k_BadDatas⟩ := Q.def_ hf 26 (d := ⟨("BadDatas", some "__init__"), "__init__", "BadDatas.__init__", defArgs i_BadDatas, defBody i_BadDatas, defScope i_BadDatas⟩) rfl
  obtain ⟨_, _, _, _, _, _, _, _, _, l_Used, c_Used, k_Used⟩ := Q.def_ hf 27 (d := ⟨("Used", some "__init__"), "__init__", "Used.__init__", defArgs i_Used, defBody i_Used, defScope i_Used⟩) rfl
  obtain ⟨_, _, _, _, _, _, _, _, _, l_Refused, c_Refused, k_Refused⟩ := Q.def_ hf 28 (d := ⟨("Refused", some "__init__"), "__init__", "Refused.__init__", defArgs i_Refused, defBody i_Refused, defScope i_Refused⟩) rfl
  obtain ⟨_, _, _, _, _, _, _, _, _, l_BadEdit, c_BadEdit, k_BadEdit⟩ := Q.def_ hf 29 (d := ⟨("BadEdit", some "__init__"), "__init__", "BadEdit.__init__", defArgs i_BadEdit, defBody i_BadEdit, defScope i_BadEdit⟩) rfl
  obtain ⟨_, _, _, _, _, _, _, _, _, l_Rejected, c_Rejected, k_Rejected⟩ := Q.def_ hf 30 (d := ⟨("Rejected", some "__init__"), "__init__", "Rejected.__init__", defArgs i_Rejected, defBody i_Rejected, defScope i_Rejected⟩) rfl
  obtain ⟨_, _, _, _, _, _, _, _, _, l_BadExpression, c_BadExpression, k_BadExpression⟩ := Q.def_ hf 31 (d := ⟨("BadExpression", some "__init__"), "__init__", "BadExpression.__init__", defArgs i_BadExpression, defBody i_BadExpression, defScope i_BadExpression⟩) rfl
  obtain ⟨_, _, _, _, _, _, _, _, _, l_Incomplete, c_Incomplete, k_Incomplete⟩ := Q.def_ hf 32 (d := ⟨("Incomplete", some "__init__"), "__init__", "Incomplete.__init__", defArgs i_Incomplete, defBody i_Incomplete, defScope i_Incomplete⟩) rfl
  obtain ⟨_, _, _, _, _, _, _, _, _, l_BadText, c_BadText, k_BadText⟩ := Q.def_ hf 33 (d := ⟨("BadText", some "__init__"), "__init__", "BadText.__init__", defArgs i_BadText, defBody i_BadText, defScope i_BadText⟩) rfl
  obtain ⟨_, _, _, _, _, _, _, _, _, l_NoPlace, c_NoPlace, k_NoPlace⟩ := Q.def_ hf 34 (d := ⟨("NoPlace", some "__init__"), "__init__", "NoPlace.__init__", defArgs i_NoPlace, defBody i_NoPlace, defScope i_NoPlace⟩) rfl
  obtain ⟨_, _, _, _, _, _, _, _, _, l_NoMaker, c_NoMaker, k_NoMaker⟩ := Q.def_ hf 35 (d := ⟨("NoMaker", some "__init__"), "__init__", "NoMaker.__init__", defArgs i_NoMaker, defBody i_NoMaker, defScope i_NoMaker⟩) rfl
  obtain ⟨_, _, _, _, _, _, _, _, _, l_NoIndex, c_NoIndex, k_NoIndex⟩ := Q.def_ hf 36 (d := ⟨("NoIndex", some "__init__"), "__init__", "NoIndex.__init__", defArgs i_NoIndex, defBody i_NoIndex, defScope i_NoIndex⟩) rfl
  obtain ⟨_, _, _, _, _, _, _, _, _, l_NoRow, c_NoRow, k_NoRow⟩ := Q.def_ hf 37 (d := ⟨("NoRow", some "__init__"), "__init__", "NoRow.__init__", defArgs i_NoRow, defBody i_NoRow, defScope i_NoRow⟩) rfl
  obtain ⟨_, _, _, _, _, _, _, _, _, l_NoDefinition, c_NoDefinition, k_NoDefinition⟩ := Q.def_ hf 38 (d := ⟨("NoDefinition", some "__init__"), "__init__", "NoDefinition.__init__", defArgs i_NoDefinition, defBody i_NoDefinition, defScope i_NoDefinition⟩) rfl
  obtain ⟨_, _, _, _, _, _, _, _, _, l_NoWord, c_NoWord, k_NoWord⟩ := Q.def_ hf 39 (d := ⟨("NoWord", some "__init__"), "__init__", "NoWord.__init__", defArgs i_NoWord, defBody i_NoWord, defScope i_NoWord⟩) rfl
  obtain ⟨_, _, _, _, _, _, _, _, _, l_NoVersion, c_NoVersion, k_NoVersion⟩ := Q.def_ hf 40 (d := ⟨("NoVersion", some "__init__"), "__init__", "NoVersion.__init__", defArgs i_NoVersion, defBody i_NoVersion, defScope i_NoVersion⟩) rfl
  obtain ⟨_, v_VARIABLES⟩ := numB_ok hi "VARIABLES" 199
  obtain ⟨_, v_NODES⟩ := numB_ok hi "NODES" 200
  obtain ⟨_, v_DEPTH⟩ := numB_ok hi "DEPTH" 30
  obtain ⟨_, v_GROUPS⟩ := numB_ok hi "GROUPS" 80
  obtain ⟨_, v_LISTED⟩ := numB_ok hi "LISTED" 50
  obtain ⟨_, v_DATAS⟩ := numB_ok hi "DATAS" 6
  obtain ⟨_, v_PLACES⟩ := numB_ok hi "PLACES" 60
  obtain ⟨_, v_ROWS⟩ := numB_ok hi "ROWS" 8
  obtain ⟨_, v_MET⟩ := numB_ok hi "MET" 200
  obtain ⟨_, v_SIZES⟩ := numB_ok hi "SIZES" 40
  obtain ⟨_, v_FORM⟩ := numB_ok hi "FORM" 500
  obtain ⟨_, v_TREE⟩ := numB_ok hi "TREE" 1000
  obtain ⟨_, v_DEFINITIONS⟩ := numB_ok hi "DEFINITIONS" 8
  obtain ⟨_, v_CALLS⟩ := numB_ok hi "CALLS" 2000
  obtain ⟨_, v_SHOWN⟩ := numB_ok hi "SHOWN" 500
  obtain ⟨_, v_PARAMETERS⟩ := numB_ok hi "PARAMETERS" 3
  obtain ⟨_, v_EDITS⟩ := numB_ok hi "EDITS" 60
  obtain ⟨_, v_BATCH⟩ := numB_ok hi "BATCH" 20
  obtain ⟨⟨i_BadShape_h, t_BadShape_h⟩, b_BadShape⟩ := ev "BadShape" ["value"]
  obtain ⟨⟨i_BadCount_h, t_BadCount_h⟩, b_BadCount⟩ := ev "BadCount" ["value"]
  have b_NoMeeting := nv "NoMeeting"
  have b_NoSolution := nv "NoSolution"
  obtain ⟨⟨i_TooMany_h, t_TooMany_h⟩, b_TooMany⟩ := ev "TooMany" ["limit"]
  obtain ⟨⟨i_TooLarge_h, t_TooLarge_h⟩, b_TooLarge⟩ := ev "TooLarge" ["limit"]
  obtain ⟨⟨i_Clash_h, t_Clash_h⟩, b_Clash⟩ := ev "Clash" ["places"]
  obtain ⟨⟨i_BadChain_h, t_BadChain_h⟩, b_BadChain⟩ := ev "BadChain" ["index"]
  obtain ⟨⟨i_BadValue_h, t_BadValue_h⟩, b_BadValue⟩ := ev "BadValue" ["value"]
  obtain ⟨⟨i_BadForm_h, t_BadForm_h⟩, b_BadForm⟩ := ev "BadForm" ["form"]
  obtain ⟨⟨i_BadSize_h, t_BadSize_h⟩, b_BadSize⟩ := ev "BadSize" ["size"]
  obtain ⟨⟨i_NoValue_h, t_NoValue_h⟩, b_NoValue⟩ := ev "NoValue" ["value"]
  have b_HasValues := nv "HasValues"
  obtain ⟨⟨i_NotMet_h, t_NotMet_h⟩, b_NotMet⟩ := ev "NotMet" ["value"]
  obtain ⟨⟨i_Idle_h, t_Idle_h⟩, b_Idle⟩ := ev "Idle" ["number"]
  obtain ⟨⟨i_BadRows_h, t_BadRows_h⟩, b_BadRows⟩ := ev "BadRows" ["error"]
  obtain ⟨⟨i_BadBook_h, t_BadBook_h⟩, b_BadBook⟩ := ev "BadBook" ["error"]
  obtain ⟨⟨i_HasHole_h, t_HasHole_h⟩, b_HasHole⟩ := ev "HasHole" ["spot"]
  obtain ⟨⟨i_NotPlain_h, t_NotPlain_h⟩, b_NotPlain⟩ := ev "NotPlain" ["index"]
  obtain ⟨⟨i_BadDatas_h, t_BadDatas_h⟩, b_BadDatas⟩ := ev "BadDatas" ["error"]
  obtain ⟨⟨i_Used_h, t_Used_h⟩, b_Used⟩ := ev "Used" ["word"]
  obtain ⟨⟨i_Refused_h, t_Refused_h⟩, b_Refused⟩ := ev "Refused" ["index", "verdict"]
  have b_TooManyEdits := nv "TooManyEdits"
  have b_NothingToUndo := nv "NothingToUndo"
  have b_BadEdits := nv "BadEdits"
  obtain ⟨⟨i_BadEdit_h, t_BadEdit_h⟩, b_BadEdit⟩ := ev "BadEdit" ["index"]
  obtain ⟨⟨i_Rejected_h, t_Rejected_h⟩, b_Rejected⟩ := ev "Rejected" ["index"]
  have b_Busy := nv "Busy"
  obtain ⟨⟨i_BadExpression_h, t_BadExpression_h⟩, b_BadExpression⟩ := ev "BadExpression" ["error"]
  obtain ⟨⟨i_Incomplete_h, t_Incomplete_h⟩, b_Incomplete⟩ := ev "Incomplete" ["word", "place", "outline"]
  obtain ⟨⟨i_BadText_h, t_BadText_h⟩, b_BadText⟩ := ev "BadText" ["index"]
  obtain ⟨⟨i_NoPlace_h, t_NoPlace_h⟩, b_NoPlace⟩ := el "NoPlace" ["value"]
  obtain ⟨⟨i_NoMaker_h, t_NoMaker_h⟩, b_NoMaker⟩ := el "NoMaker" ["name"]
  obtain ⟨⟨i_NoIndex_h, t_NoIndex_h⟩, b_NoIndex⟩ := el "NoIndex" ["index"]
  obtain ⟨⟨i_NoRow_h, t_NoRow_h⟩, b_NoRow⟩ := el "NoRow" ["number"]
  obtain ⟨⟨i_NoDefinition_h, t_NoDefinition_h⟩, b_NoDefinition⟩ := el "NoDefinition" ["value"]
  obtain ⟨⟨i_NoWord_h, t_NoWord_h⟩, b_NoWord⟩ := el "NoWord" ["word"]
  obtain ⟨⟨i_NoVersion_h, t_NoVersion_h⟩, b_NoVersion⟩ := el "NoVersion" ["value"]
  exact all_mk X G hfa (gloB_ok hg "_law_draws") l0 c0 k0 (gloB_ok hg "_law_next") l1 c1 k1 (gloB_ok hg "_law_one") l2 c2 k2 (gloB_ok hg "_law_errors") l3 c3 k3 (gloB_ok hg "_law_flags") l4 c4 k4 (gloB_ok hg "_law_fields") l5 c5 k5 (gloB_ok hg "_law_more_fields") l6 c6 k6 (gloB_ok hg "_law_right") l7 c7 k7 (gloB_ok hg "_law_objects_right") l8 c8 k8 (gloB_ok hg "law") l9 c9 k9 v_VARIABLES v_NODES v_DEPTH v_GROUPS v_LISTED v_DATAS v_PLACES v_ROWS v_MET v_SIZES v_FORM v_TREE v_DEFINITIONS v_CALLS v_SHOWN v_PARAMETERS v_EDITS v_BATCH (freeB_ok hz "isinstance") (freeB_ok hz "len") (freeB_ok hz "int") (freeB_ok hz "abs") (freeB_ok hz "repr") (freeB_ok hz "range") (freeB_ok hz "enumerate") (freeB_ok hz "ValueError") (freeB_ok hz "LookupError") (gloB_ok hg "BadShape") i_BadShape_h t_BadShape_h l_BadShape c_BadShape k_BadShape b_BadShape (gloB_ok hg "BadCount") i_BadCount_h t_BadCount_h l_BadCount c_BadCount k_BadCount b_BadCount (gloB_ok hg "NoMeeting") b_NoMeeting (gloB_ok hg "NoSolution") b_NoSolution (gloB_ok hg "TooMany") i_TooMany_h t_TooMany_h l_TooMany c_TooMany k_TooMany b_TooMany (gloB_ok hg "TooLarge") i_TooLarge_h t_TooLarge_h l_TooLarge c_TooLarge k_TooLarge b_TooLarge (gloB_ok hg "Clash") i_Clash_h t_Clash_h l_Clash c_Clash k_Clash b_Clash (gloB_ok hg "BadChain") i_BadChain_h t_BadChain_h l_BadChain c_BadChain k_BadChain b_BadChain (gloB_ok hg "BadValue") i_BadValue_h t_BadValue_h l_BadValue c_BadValue k_BadValue b_BadValue (gloB_ok hg "BadForm") i_BadForm_h t_BadForm_h l_BadForm c_BadForm k_BadForm b_BadForm (gloB_ok hg "BadSize") i_BadSize_h t_BadSize_h l_BadSize c_BadSize k_BadSize b_BadSize (gloB_ok hg "NoValue") i_NoValue_h t_NoValue_h l_NoValue c_NoValue k_NoValue b_NoValue (gloB_ok hg "HasValues") b_HasValues (gloB_ok hg "NotMet") i_NotMet_h t_NotMet_h l_NotMet c_NotMet k_NotMet b_NotMet (gloB_ok hg "Idle") i_Idle_h t_Idle_h l_Idle c_Idle k_Idle b_Idle (gloB_ok hg "BadRows") i_BadRows_h t_BadRows_h l_BadRows c_BadRows k_BadRows b_BadRows (gloB_ok hg "BadBook") i_BadBook_h t_BadBook_h l_BadBook c_BadBook k_BadBook b_BadBook (gloB_ok hg "HasHole") i_HasHole_h t_HasHole_h l_HasHole c_HasHole k_HasHole b_HasHole (gloB_ok hg "NotPlain") i_NotPlain_h t_NotPlain_h l_NotPlain c_NotPlain k_NotPlain b_NotPlain (gloB_ok hg "BadDatas") i_BadDatas_h t_BadDatas_h l_BadDatas c_BadDatas k_BadDatas b_BadDatas (gloB_ok hg "Used") i_Used_h t_Used_h l_Used c_Used k_Used b_Used (gloB_ok hg "Refused") i_Refused_h t_Refused_h l_Refused c_Refused k_Refused b_Refused (gloB_ok hg "TooManyEdits") b_TooManyEdits (gloB_ok hg "NothingToUndo") b_NothingToUndo (gloB_ok hg "BadEdits") b_BadEdits (gloB_ok hg "BadEdit") i_BadEdit_h t_BadEdit_h l_BadEdit c_BadEdit k_BadEdit b_BadEdit (gloB_ok hg "Rejected") i_Rejected_h t_Rejected_h l_Rejected c_Rejected k_Rejected b_Rejected (gloB_ok hg "Busy") b_Busy (gloB_ok hg "BadExpression") i_BadExpression_h t_BadExpression_h l_BadExpression c_BadExpression k_BadExpression b_BadExpression (gloB_ok hg "Incomplete") i_Incomplete_h t_Incomplete_h l_Incomplete c_Incomplete k_Incomplete b_Incomplete (gloB_ok hg "BadText") i_BadText_h t_BadText_h l_BadText c_BadText k_BadText b_BadText (gloB_ok hg "NoPlace") i_NoPlace_h t_NoPlace_h l_NoPlace c_NoPlace k_NoPlace b_NoPlace (gloB_ok hg "NoMaker") i_NoMaker_h t_NoMaker_h l_NoMaker c_NoMaker k_NoMaker b_NoMaker (gloB_ok hg "NoIndex") i_NoIndex_h t_NoIndex_h l_NoIndex c_NoIndex k_NoIndex b_NoIndex (gloB_ok hg "NoRow") i_NoRow_h t_NoRow_h l_NoRow c_NoRow k_NoRow b_NoRow (gloB_ok hg "NoDefinition") i_NoDefinition_h t_NoDefinition_h l_NoDefinition c_NoDefinition k_NoDefinition b_NoDefinition (gloB_ok hg "NoWord") i_NoWord_h t_NoWord_h l_NoWord c_NoWord k_NoWord b_NoWord (gloB_ok hg "NoVersion") i_NoVersion_h t_NoVersion_h l_NoVersion c_NoVersion k_NoVersion b_NoVersion (gloB_ok hg "LangError") b_tab
end K84
open PySem PySem.W PySem.Calls PyProof.Rows
theorem PySem.Challenge.cw_shapelang_k84_errors_and_bounds_holds : PySem.Challenge.rw_shapelang_k84_errors_and_bounds.Holds := by
  w_on; o_law
  refine HandSHeadRun.head_any (r := OpenLaw.row PySem.Challenge.rw_shapelang_k84_errors_and_bounds) (q := view (OpenLaw.row PySem.Challenge.rw_shapelang_k84_errors_and_bounds).prog [68]) (H := Sl.hookH 5 K84.qFn K84.qEx) (ob := Sl.obH 5 K84.qFn K84.qEx) (M := 60000) (loose := K84.qOther) (d := HandSHeadRun.topDef (OpenLaw.row PySem.Challenge.rw_shapelang_k84_errors_and_bounds).prog 68) (kwd := []) Sl.obH_eq
    (by kernel_rfl) (fun s => by kernel_rfl) K84.run (by kernel_rfl) (by kernel_rfl) (by kernel_rfl) (by rfl) (by first | assumption | decide +kernel) (by decide +kernel) ⟨rfl, rfl, rfl, rfl, rfl, by decide +kernel⟩ ?hw ?hc
  case hw => w_witness2
  case hc =>
    refine Sl.walk_goH (l := PySem.Challenge.rw_shapelang_k84_errors_and_bounds) (n := 63) (k := 64) (x := "_law_script") (sp := fun K => K84.spLaw K) rfl (by decide) (by kernel_rfl) ⟨rfl, by decide, by decide⟩ ?F (fun K H a ns hl hS _ _ => ⟨a, ns, rfl, hS, hl, fun _ => rfl⟩)
    intro w mg fa h Y G hmg0
    obtain ⟨K, KX, c⟩ := Y
    have hmg : mg ("law" : PySem.Str) = some (.ref fa) := by
      have e : (HandSHeadRun.topDef (OpenLaw.row PySem.Challenge.rw_shapelang_k84_errors_and_bounds).prog 68).name = ("law" : PySem.Str) := by kernel_rfl
      rw [← e]
      exact hmg0
    obtain ⟨fd, hb, hF⟩ := K84.facts (l := PySem.Challenge.rw_shapelang_k84_errors_and_bounds) (w := w) KX G hmg c
    exact ⟨K, fd, KX, hb, hF⟩
