import PyProof.Rows.All
import Wide.All
import OpenK.AllK
import Wide.FinOn
import HandS.ForMost
import HandS.IsInst
import HandS.TupAny
import HandS.TupMul
import HandS.Conv
import PyProof.NeKinds
import PyProof.ReprLen
import KE.GoesEnum
import HandS.Walk
import HandS.Replace
import PyProof.Rows.RegReprOcc
import PyProof.StrOps2
import KE.BitLaws
import HandS.NoneIn
import HandS.Style
import PyProof.EqAt
import PyProof.EqKinds
import KE.KDictKeyed
import HandS.More
import HandS.SetFor
import HandS.CallLocal
import HandS.Wide
import HandS.WideBits
import HandS.Small
import HandS.Flow
import PyProof.EvalArms
import PyProof.Rows.ChunkEnd
import HandS.RevRange
import HandS.Nested
import HandS.Words
import HandS.Lambda
import KE.KLam
import KE.KRevSl
import HandS.Text
import PyProof.SliceStr2
import PyProof.Rows.StrRev
import PyProof.EqLayable
import HandS.Keys
import KE.SortKeyHeap
import KE.KSortKey
import HandS.EndTab
import KE.KNestM
import PySem.Challenge.RW_pairedaway_k25_counts
set_option Elab.async false
set_option maxRecDepth 100000
set_option maxHeartbeats 4000000
/-! Own layer for laws that call repr: promises of defs that run where no repr is under way, data with empty dicts, repr's rule. -/
namespace GL
open PySem PySem.Spec PyProof.Rows L2

/-- a def's promise, claimed only where no guard of repr stands around -/
structure Fg (P : Program) (w : World) (K : PySem.W.Frag) (mg : Str → Option Value) (base : Heap) (CX : CXT) (k : Nat) (f : Addr) (fd : FuncData) (ps : List Str) (sp : Sp) : Prop where
  ln : ∀ vs H Q E, sp vs H Q E → vs.length = ps.length
  go : ∀ (A : Around) (outer : List Env) (s : Shared) (H : Hp) (args : Args) (us : List Value) (vs : List V) (Q : VK) (E : XK), A.guards = some [] → Room k A → Env0 P w K mg base A outer s H →
    BindsTo s fd args (ps.zip us) → Vals vs us → sp vs H Q E → codeAny (model P w) A (.call (.ref f) args) (CR CX outer P w H s Q E) s

theorem Fg.of {P : Program} {w : World} {K : PySem.W.Frag} {mg : Str → Option Value} {base : Heap} {CX : CXT} {k : Nat} {f : Addr} {fd : FuncData} {ps : List Str} {sp : Sp} (F : FnOk P w K mg base CX k f fd ps sp) : Fg P w K mg base CX k f fd ps sp :=
  ⟨F.len, fun A outer s H args us vs Q E _ => F.run A outer s H args us vs Q E⟩

theorem guards_deeper {A : Around} {env : Env} (h : A.guards = some []) : (A.deeper env).guards = some [] := by
  simp [Around.deeper, h]

section
variable {P : Program} {w : World} {K : PySem.W.Frag} {mg : Str → Option Value} {base : Heap}
/-- the rule for such a def: as for any other, with the fact about guards at hand -/
theorem ok_g {x qual : Str} {st : Stmt} {f : Addr} {fd : FuncData} {N ps : List Str} {k : Nat} {sp : Sp} (F : Fun K x qual st f fd) (S : FnScope N ps (defScope st)) (ln : ∀ vs H Q E, sp vs H Q E → vs.length = ps.length)
    (bd : ∀ (cdv : Value) (A : Around) (outer : List Env) (s : Shared) (H : Hp) (vs : List V) (Q : VK) (E : XK), (A.deeper (envOfC qual (defScope st) s.heap.objs.size f cdv)).guards = some [] → Room k (A.deeper (envOfC qual (defScope st) s.heap.objs.size f cdv)) → sp vs H Q E →
      ∃ t, PSs (cxOf CX0 P w K mg base N qual (defScope st) f cdv A outer s H E).nox (defBody st) t ∧ t { nx := fun _ H' => Q .non H', rt := Q } (start N vs) H) : Fg P w K mg base CX0 (k + 1) f fd ps sp := by
  obtain ⟨oc, od, kV, doc, pm, an, cdv, ct, osl, rfl, lk, hcd⟩ := F.ex
  refine ⟨ln, fun A outer s H args us vs Q E hg hr e0 hb r hsp => ?_⟩
  have lv := ln _ _ _ _ hsp
  have KI : K.In s.heap := e0.mod.kin.keeps fun b o q => (e0.bs b o q).1
  have NL : s.heap.NoLimit := e0.mod.nolimit.keeps fun b o q => (e0.bs b o q).1
  have kinds : ∀ y ∈ ps.zip us, (defScope st).names.lookup y.1 = some .local ∨ ((defScope st).names.lookup y.1 = some .cell ∧ ((cellsFrom (s.heap.objs.size + 1) (defScope st).names []).lookup y.1).isSome = true) := by
    rintro ⟨n, v⟩ hy
    cases S.par n (List.of_mem_zip hy).1 with
    | inl q => exact .inl q
    | inr q => exact .inr ⟨q, PySem.W.cellsFrom_some _ _ _ (.inl q)⟩
  refine codeAny_call_function hr.depth (KI _ _ lk) rfl S.co S.gen rfl (PySem.W.codeRec_of KI hcd) (hb _ _ _ _ (wpAny_newFunctionEnv_cells S.kind kinds fun env he s1 x => ?_))
  cases he
  obtain ⟨t, ht, hq⟩ := bd cdv A outer s H vs Q E (guards_deeper hg) (hr.deeper _) hsp
  refine ⟨NL.keeps x.toInCall.keep, codeAny_func (wpAny_mono (ht.nox.run [] s1 (start N vs) H _ (inv_start S hr.hd e0 lv r x) hq) (fun fl s' hs => ?_) fun e s' hs => hs)⟩
  have fin : ∀ {τ : L2.St} {G : Hp} {v : V} {u : Value}, Inv (cxOf CX0 P w K mg base N qual (defScope st) f cdv A outer s H E) [] τ G s' → RelV v u → Q v G → CE outer P w H s Q u s' :=
    fun {τ G v u} J rv q => ⟨v, G, J.os, J.bare, J.base, J.hok, rv, q⟩
  match fl, hs with
  | .ret u, ⟨v, τ, G, J, rv, q⟩ => exact fin J rv q
  | .next, ⟨τ, G, J, q⟩ => exact fin (v := V.non) (u := Value.none) J rfl q
  | .brk, ⟨_, _, _, q⟩ => exact q.elim
  | .cont, ⟨_, _, _, q⟩ => exact q.elim
end

section
variable {X : Cx} {CX : CXT} {k : Nat} {f : Addr} {fd : FuncData} {ps : List Str} {sp : Sp} {E : XK} {x : Str} {p pos : Pos} {e : Expr} {es : List Expr} {t : TA}
/-- f(e, ..) of such a def, without defaults -/
theorem pe_callg (hg : X.A.guards = some []) (F : Fg X.prog X.w X.K X.mg X.base CX k f fd ps sp) (hr : Room k X.A) (gl : Gl X x) (hm : X.mg x = some (.ref f)) (kp : PySem.W.keepIn X.K (.ref f) = true) (hb : Binds X.K fd ps []) (hx : Passes CX X E)
    (ha : PA X (e :: es) t) (hdb : (x == ("__debug__" : Str)) = false := by decide) (se : starEach (e :: es) X.env = (false, eval e X.env) :: starEach es X.env := by rfl) (pl : (backTo pos (starEach es X.env)).any (·.1) = false := by rfl) :
    PE X (.Call (.Name x p) (e :: es) [] pos) (tCall sp [] E t) := by
  refine ⟨fun pins s σ H Q I h => wpAny_Call_Name_kw (ld_glob I gl hm ?_ hdb)⟩
  refine PySem.W.callWith_K (h₀ := X.base) I.ok.mod.kin kp (thn (ha.run pos pins s σ H _ I h) fun us s1 ⟨vs, G, J, r, q⟩ => ⟨J.kIn, ?_⟩) se pl
  replace q : sp vs G Q E := by simpa using q
  have ll : (us ++ ([] : List Value)).length = ps.length := by rw [List.append_nil, ← r.length]; exact F.ln _ _ _ _ q
  have bb := hb s1 us J.kIn ll
  rw [List.append_nil] at bb
  refine wpAny_call (codeAny_mono (F.go X.A X.stack s1 G ⟨us, []⟩ us vs Q E hg hr J.env0 bb r q) fun res s' hq => ?_)
  match res, hq with
  | .error e, hq => exact hx pins σ G s1 e s' J hq
  | .ok (.ret u), hq => exact J.after hq
  | .ok .next, hq => exact hq.elim
  | .ok .brk, hq => exact hq.elim
  | .ok .cont, hq => exact hq.elim
end

/-! ### data, empty dicts among them -/
mutual
inductive Dt (K : PySem.W.Frag) (H : Hp) : V → PyData → Prop
  | non : Dt K H .non .none
  | bl (b : Bool) : Dt K H (.bl b) (.bool b)
  | int (i : Int) : Dt K H (.int i) (.int i)
  | str (x : Str) : Dt K H (.str x) (.str x)
  | lst {a : Addr} {vs : List V} {ds : List PyData} : H a = some (.lst vs) → DtAll K H vs ds → Dt K H (.ref a) (.list ds)
  | tup {a : Addr} {vs : List V} {ds : List PyData} : H a = some (.tup vs) → DtAll K H vs ds → Dt K H (.ref a) (.tuple ds)
  | dic {a : Addr} : H a = some (.dK []) → Dt K H (.ref a) (.dict [])
inductive DtAll (K : PySem.W.Frag) (H : Hp) : List V → List PyData → Prop
  | nil : DtAll K H [] []
  | cons {v : V} {vs : List V} {d : PyData} {ds : List PyData} : Dt K H v d → DtAll K H vs ds → DtAll K H (v :: vs) (d :: ds)
end
section
variable {K : PySem.W.Frag} {H H' : Hp}
mutual
theorem Dt.same (e : Same H H') : ∀ {d : PyData} {v : V}, Dt K H v d → Dt K H' v d
  | _, _, .non => .non
  | _, _, .bl b => .bl b
  | _, _, .int i => .int i
  | _, _, .str x => .str x
  | _, _, .lst h a => .lst (e _ _ h) (DtAll.same e a)
  | _, _, .tup h a => .tup (e _ _ h) (DtAll.same e a)
  | _, _, .dic h => .dic (e _ _ h)
theorem DtAll.same (e : Same H H') : ∀ {ds : List PyData} {vs : List V}, DtAll K H vs ds → DtAll K H' vs ds
  | _, _, .nil => .nil
  | _, _, .cons h a => .cons (Dt.same e h) (DtAll.same e a)
end
theorem DtAll.length {ds : List PyData} : ∀ {vs : List V}, DtAll K H vs ds → vs.length = ds.length := by
  induction ds with
  | nil => intro vs h; cases h; rfl
  | cons d ds ih => intro vs h; cases h with | cons h1 h2 => simp [ih h2]
theorem DtAll.append : ∀ {ds es : List PyData} {vs us : List V}, DtAll K H vs ds → DtAll K H us es → DtAll K H (vs ++ us) (ds ++ es)
  | _, _, _, _, .nil, h => h
  | _, _, _, _, .cons a b, h => .cons a (DtAll.append b h)
theorem DtAll.take : ∀ {ds : List PyData} {vs : List V} (n : Nat), DtAll K H vs ds → DtAll K H (vs.take n) (ds.take n)
  | _, _, 0, _ => .nil
  | _, _, _ + 1, .nil => .nil
  | _, _, n + 1, .cons a b => .cons a (DtAll.take n b)
theorem DtAll.drop : ∀ {ds : List PyData} {vs : List V} (n : Nat), DtAll K H vs ds → DtAll K H (vs.drop n) (ds.drop n)
  | _, _, 0, h => h
  | _, _, _ + 1, .nil => .nil
  | _, _, n + 1, .cons _ b => DtAll.drop n b
theorem DtAll.get : ∀ {ds : List PyData} {vs : List V} {i : Nat} {v : V}, DtAll K H vs ds → vs[i]? = some v → ∃ d, ds[i]? = some d ∧ Dt K H v d
  | _, _, i, _, .nil, h => by simp at h
  | _, _, 0, _, .cons a _, h => by simp at h; subst h; exact ⟨_, rfl, a⟩
  | _, _, i + 1, v, .cons _ b, h => by
    obtain ⟨d, h1, h2⟩ := DtAll.get (i := i) (v := v) b (by simpa using h)
    exact ⟨d, by simpa using h1, h2⟩
end

section
variable {X : Cx} {pins : List (Addr × Obj)} {σ : L2.St} {H : Hp} {s : Shared}
/-- what repr's rules of the library ask of a value -/
structure Shows (prog : Program) (w : World) (h : Heap) (u : Value) (d : PyData) : Prop where
  ex : ∃ as bs, Reads h u d as ∧ ReadAtMost h d.depth bs ∧ ReprK prog w bs h d.depth u d.shown
structure ShowsAll (prog : Program) (w : World) (h : Heap) (us : List Value) (ds : List PyData) : Prop where
  ex : ∃ as bs, ReadsAll h us ds as ∧ ReadAtMost h (PyData.depthAll ds) bs ∧ ReprAllK prog w bs h (PyData.depthAll ds) us (PyData.shownAll ds)
theorem dic_at (I : Inv X pins σ H s) {a : Addr} (h : H a = some (.dK [])) : (a == sysModules) = false ∧ ∃ o es ep, s.heap.get? a = some o ∧ o.cls = .type "dict" ∧ o.data = .dict es ep ∧ es.toList = [] := by
  obtain ⟨_, ne, vs, kv, o, es, ep, h1, h2, h3, _, h5, _⟩ := (show ObjOk X.prog X.w H s.heap a (.dK []) from I.hok a _ h)
  cases kv
  refine ⟨ne, o, es, ep, h1, h2.1, h3, ?_⟩
  cases q : es.toList with
  | nil => rfl
  | cons y ys => rw [q] at h5; cases h5
theorem lst_at (I : Inv X pins σ H s) {a : Addr} {vs : List V} (h : H a = some (.lst vs)) : ∃ its n, Vals vs its ∧ s.heap.get? a = some { cls := .type "list", data := .seq its.toArray n } := by
  obtain ⟨_, its, n, r, e⟩ := (show ObjOk X.prog X.w H s.heap a (.lst vs) from I.hok a _ h)
  exact ⟨its, n, r, e⟩
theorem tup_at (I : Inv X pins σ H s) {a : Addr} {vs : List V} (h : H a = some (.tup vs)) : ∃ its o n, Vals vs its ∧ s.heap.get? a = some o ∧ o.cls = .type "tuple" ∧ o.data = .seq its.toArray n := by
  obtain ⟨_, its, r, o, h1, h2, n, h3⟩ := (show ObjOk X.prog X.w H s.heap a (.tup vs) from I.hok a _ h)
  exact ⟨its, o, n, r, h1, h2, h3⟩
mutual
theorem Dt.shows (I : Inv X pins σ H s) : ∀ (d : PyData) (v : V) (u : Value), Dt X.K H v d → RelV v u → d.showable = true → d.shown.length ≤ sizeLine → Shows X.prog X.w s.heap u d
  | .none, _, _, h, r, _, _ => by
    cases h; cases r
    exact ⟨_, [], .none, (fun _ q => nomatch q), by simp only [PyData.shown]; exact .of_is ReprIs.none _ _ _⟩
  | .bool b, _, _, h, r, _, _ => by
    cases h; cases r
    exact ⟨_, [], .bool b, (fun _ q => nomatch q), by simp only [PyData.shown]; exact .of_is (ReprIs.bool b) _ _ _⟩
  | .int i, _, _, h, r, hs, _ => by
    cases h
    obtain ⟨t, rfl⟩ := r
    exact ⟨_, [], .int i t, (fun _ q => nomatch q), by simp only [PyData.shown]; exact .of_is (ReprIs.int t (by simpa [PyData.showable] using hs)) _ _ _⟩
  | .str x, _, _, h, r, _, hz => by
    cases h
    obtain ⟨t, rfl⟩ := r
    exact ⟨_, [], .str x t, (fun _ q => nomatch q), by simp only [PyData.shown]; exact .of_is (ReprIs.str x t (by simpa only [PyData.shown] using hz)) _ _ _⟩
  | .list ds, _, _, h, r, hs, hz => by
    cases h with
    | @lst a vs _ hl ha =>
      cases r
      have hz' : (listText (PyData.shownAll ds)).length ≤ sizeLine := by simpa only [PyData.shown] using hz
      obtain ⟨its, n, rv, e⟩ := lst_at I hl
      obtain ⟨as, bs, r4, rb, rk⟩ := (Dt.showsAll I ds vs its ha rv (by simpa [PyData.showable] using hs) (fun t ht => Nat.le_trans (listText_mem_le ht) hz')).ex
      have rr : Reads s.heap (.ref a) (.list ds) (a :: as) := .list e rfl rfl r4
      have nm : a ∉ bs := not_mem_of_deeper rr (by simp only [PyData.depth]; omega) rb
      refine ⟨_, a :: bs, rr, ReadAtMost.cons rr (by simp only [PyData.depth]; omega) rb, ?_⟩
      simp only [PyData.depth, PyData.shown]
      cases its with
      | nil =>
        cases r4
        simp only [PyData.shownAll, listText_nil]
        exact ReprK.listEmpty e rfl rfl
      | cons y ys => exact ReprK.list e rfl rfl nm (by simpa using rk.length_eq) (fun i z q => rk.item i z (by simpa using q))
  | .tuple ds, _, _, h, r, hs, hz => by
    cases h with
    | @tup a vs _ hl ha =>
      cases r
      have hz' : (tupleText (PyData.shownAll ds)).length ≤ sizeLine := by simpa only [PyData.shown] using hz
      obtain ⟨its, o, n, rv, e1, e2, e3⟩ := tup_at I hl
      obtain ⟨as, bs, r4, rb, rk⟩ := (Dt.showsAll I ds vs its ha rv (by simpa [PyData.showable] using hs) (fun t ht => Nat.le_trans (tupleText_mem_le ht) hz')).ex
      have rr : Reads s.heap (.ref a) (.tuple ds) as := .tuple e1 e2 e3 r4
      have nm : a ∉ bs := not_mem_of_deeper rr (by simp only [PyData.depth]; omega) rb
      refine ⟨_, a :: bs, rr, ReadAtMost.cons rr (by simp only [PyData.depth]; omega) rb, ?_⟩
      simp only [PyData.depth, PyData.shown]
      exact ReprK.tuple e1 e2 e3 nm rk
  | .dict _, _, _, h, r, _, _ => by
    cases h with
    | @dic a hd =>
      cases r
      obtain ⟨ne, o, es, ep, e1, e2, e3, e4⟩ := dic_at I hd
      have rr : Reads s.heap (.ref a) (.dict []) (a :: [] ++ []) := .dict e1 e2 e3 (by rw [e4]; exact .nil) (by rw [e4]; exact .nil)
      refine ⟨_, [a], rr, ReadAtMost.cons (n := 0) rr (Nat.zero_le _) (fun _ q => nomatch q), ?_⟩
      simp only [PyData.depth, PyData.shown, PyData.shownKv]
      exact ReprK.dict (d := 0) e1 e2 e3 ne (fun q => nomatch q) (by rw [e4]; exact .nil)
theorem Dt.showsAll (I : Inv X pins σ H s) : ∀ (ds : List PyData) (vs : List V) (us : List Value), DtAll X.K H vs ds → Vals vs us → PyData.showableAll ds = true → (∀ t ∈ PyData.shownAll ds, t.length ≤ sizeLine) → ShowsAll X.prog X.w s.heap us ds
  | [], _, _, h, r, _, _ => by
    cases h; cases r
    exact ⟨_, [], .nil, (fun _ q => nomatch q), by simp only [PyData.shownAll]; exact .nil⟩
  | d :: ds, _, _, h, r, hs, hz => by
    cases h with
    | cons h1 h2 =>
      cases r with
      | cons r1 r2 =>
        have hs' : d.showable = true ∧ PyData.showableAll ds = true := by simpa [PyData.showableAll] using hs
        obtain ⟨as, bs, a1, a2, a3⟩ := (Dt.shows I d _ _ h1 r1 hs'.1 (hz _ (by simp only [PyData.shownAll]; exact List.mem_cons_self ..))).ex
        obtain ⟨cs, es, c1, c2, c3⟩ := (Dt.showsAll I ds _ _ h2 r2 hs'.2 (fun t ht => hz t (by simp only [PyData.shownAll]; exact List.mem_cons_of_mem _ ht))).ex
        refine ⟨_, bs ++ es, .cons a1 c1, ?_, ?_⟩
        · simp only [PyData.depthAll]
          exact (a2.mono (Nat.le_max_left _ _)).append (c2.mono (Nat.le_max_right _ _))
        · simp only [PyData.depthAll, PyData.shownAll]
          exact .cons ((a3.more fun b hb => List.mem_append_left _ hb).level_le (Nat.le_max_left _ _)) (c3.more_le (fun b hb => List.mem_append_right _ hb) (Nat.le_max_right _ _))
end
end

/-- repr of data -/
def rReprD (K : PySem.W.Frag) : List V → Hp → VK → Prop := fun xs H Q => ∃ v d, xs = [v] ∧ Dt K H v d ∧ d.showable = true ∧ d.depth ≤ 60 ∧ d.shown.length ≤ sizeLine ∧ Q (.str d.shown) H
theorem call_reprD {X : Cx} (hg : X.A.guards = some []) (hu : X.A.units + 64 < cLine) : CallR X (.builtin "repr") (rReprD X.K) := by
  intro pins s σ H xs us Q I r h
  obtain ⟨v, d, rfl, hd, hs, hdep, hz, q⟩ := h
  obtain ⟨u, rfl, ru⟩ := vals1 r
  have keep : ∀ b o, s.heap.get? b = some o → s.heap.get? b = some o := fun _ _ e => e
  have fin : ∀ (h' : Heap) (t : Tok) (tk : Nat), (∀ b o, s.heap.get? b = some o → h'.get? b = some o) → EP X pins σ Q (.str d.shown t) { s with heap := h', toks := tk } :=
    fun h' t tk k => ⟨.str d.shown, H, I.kept k, ⟨t, rfl⟩, q⟩
  cases hd with
  | non => cases ru; simp only [PyData.shown] at fin; exact PySem.P.repr_of_none (fin _ _ _ keep)
  | bl b => cases ru; simp only [PyData.shown] at fin; exact PySem.P.repr_of_bool (fin _ _ _ keep)
  | int i => obtain ⟨t, rfl⟩ := ru; simp only [PyData.shown] at fin; exact PySem.P.repr_of_int (by simpa [PyData.showable] using hs) (fin _ _ _ keep)
  | str x => obtain ⟨t, rfl⟩ := ru; simp only [PyData.shown] at fin; exact PySem.P.repr_of_str (fin _ _ _ keep) (by simpa only [PyData.shown] using hz)
  | @lst a vs ds hl ha =>
    cases ru
    simp only [PyData.depth] at hdep
    simp only [PyData.shown] at fin
    have hz' : (listText (PyData.shownAll ds)).length ≤ sizeLine := by simpa only [PyData.shown] using hz
    obtain ⟨its, n, rv, e⟩ := lst_at I hl
    obtain ⟨as, bs, r4, rb, rk⟩ := (Dt.showsAll I ds vs its ha rv (by simpa [PyData.showable] using hs) (fun t ht => Nat.le_trans (listText_mem_le ht) hz')).ex
    have rr : Reads s.heap (.ref a) (.list ds) (a :: as) := .list e rfl rfl r4
    have nm : a ∉ bs := not_mem_of_deeper rr (by simp only [PyData.depth]; omega) rb
    refine call_repr_slot (T := "list") (by omega) ⟨_, e, rfl⟩ F.slot_list_repr.toG ?_
    cases its with
    | nil =>
      cases r4
      simp only [PyData.shownAll, listText_nil] at fin
      exact call_list_repr_empty ⟨_, e, rfl⟩ e rfl ⟨_, _, rfl, fin _ _ _ keep⟩
    | cons y ys =>
      exact call_list_reprK e rfl rfl nm (by simpa using rk.length_eq) (fun i z q => rk.item i z (by simpa using q)) (A := X.A.in1) hg (fun b _ => Clear.nil b) (by show X.A.units + 1 + _ < cLine; omega) keep (fun h' t tk k => ⟨_, _, rfl, fin h' t tk k⟩) hz'
  | @tup a vs ds hl ha =>
    cases ru
    simp only [PyData.depth] at hdep
    simp only [PyData.shown] at fin
    have hz' : (tupleText (PyData.shownAll ds)).length ≤ sizeLine := by simpa only [PyData.shown] using hz
    obtain ⟨its, o, n, rv, e1, e2, e3⟩ := tup_at I hl
    obtain ⟨as, bs, r4, rb, rk⟩ := (Dt.showsAll I ds vs its ha rv (by simpa [PyData.showable] using hs) (fun t ht => Nat.le_trans (tupleText_mem_le ht) hz')).ex
    have rr : Reads s.heap (.ref a) (.tuple ds) as := .tuple e1 e2 e3 r4
    have nm : a ∉ bs := not_mem_of_deeper rr (by simp only [PyData.depth]; omega) rb
    refine call_repr_slot (T := "tuple") (by omega) ⟨_, e1, e2⟩ F.slot_tuple_repr ?_
    exact call_tuple_reprK e1 e2 e3 nm rk (A := X.A.in1) hg (fun b _ => Clear.nil b) (by show X.A.units + 1 + _ < cLine; omega) keep (fun h' t tk k => ⟨_, _, rfl, fin h' t tk k⟩) hz'
  | @dic a hdk =>
    cases ru
    simp only [PyData.shown, PyData.shownKv] at fin
    obtain ⟨ne, o, es, ep, e1, e2, e3, e4⟩ := dic_at I hdk
    refine call_repr_slot (T := "dict") (by omega) ⟨_, e1, e2⟩ F.slot_dict_repr ?_
    exact call_dict_reprK (ps := []) (d := 0) (as := []) e1 e2 e3 ne (fun q => nomatch q) (by rw [e4]; exact .nil) (A := X.A.in1) hg (fun b _ => Clear.nil b) (by show X.A.units + 1 + _ < cLine; omega) keep (fun h' t tk k => ⟨_, _, rfl, fin h' t tk k⟩) (by simp only [PyData.shown, PyData.shownKv] at hz; exact hz)
end GL
/-! The end of a law whose def is promised where no guard of repr stands. -/
namespace GL
open PySem PySem.Spec PyProof.Rows L2 PySem.W

section
variable {P : Program} {w : World} {K : PySem.W.Frag} {mg mb : Str → Option Value} {k : Nat} {fa a : Addr} {fd : FuncData} {x : Str} {sp : Sp} {s₁ : Shared} {vs : List Value} {ns : List Int}
theorem nil_no {b : Addr} : b ∉ ([] : List Addr) := fun z => nomatch z
/-- the law's call, from one abstract heap in which the script alone may be tracked -/
theorem law_core (KI : K.In s₁.heap) (g1 : s₁.heap.Ns mainGlobals mg) (g2 : s₁.heap.Ns builtinsNs mb) (g3 : ∀ y : Str, y ≠ "__name__" → mb y = bootBuiltins y) (nl : s₁.heap.NoLimit) (hg : s₁.gens = #[])
    (ha : s₁.heap.get? a = some { cls := .type "list", data := .seq vs.toArray }) (hr : Room k callerA)
    (F : ∀ base : Heap, K.In base → base.Ns mainGlobals mg → Fg P w K mg base CX0 k fa fd [x] sp) (bd : ∀ (s : Shared) (u : Value), BindsTo s fd ⟨[u], []⟩ [(x, u)])
    (H : Hp) (on : Only H) (hq : sp [.ref a] H (fun v _ => v = .bl true) fun _ _ _ => False) (ok : HOk P w H s₁.heap) (one : ∀ b, H b ≠ none → b = a) (nk : H a ≠ none → K.lookup a = none) :
    codeAny (model P w) callerA (.call (.ref fa) ⟨[.ref a], []⟩) (fun r s' => r = .ok (.ret (.bool true)) ∧ OldK s₁.heap s'.heap ∧ s'.os = s₁.os ∧ AllBare s'.gens) s₁ := by
  have out : ∀ {b : Addr} {o : Obj}, s₁.heap.get? b = some o → (b = a → H a = none) → (hidT s₁.heap H).get? b = some o := fun {b o} e n => hidT_get e (by
    by_cases z : H b = none
    · exact z
    · have zz := one b z
      rw [zz]; exact n zz)
  have dct : ∀ {b : Addr} {o : Obj} {es : Array DictEntry} {ep : Nat}, s₁.heap.get? b = some o → o.data = .dict es ep → b ≠ a := fun {b o es ep} e d z => by
    rw [z, ha] at e
    cases e
    exact nomatch (show Data.seq vs.toArray _ = Data.dict es ep from d)
  have nsK : ∀ {b : Addr} {m : Str → Option Value}, s₁.heap.Ns b m → (hidT s₁.heap H).Ns b m := fun {b m} q => by
    obtain ⟨o, es, ep, e, d, r⟩ := q
    exact ⟨o, es, ep, out e (fun z => absurd z (dct e d)), d, r⟩
  have KB : K.In (hidT s₁.heap H) := fun b o e => out (KI b o e) fun z => by
    by_cases y : H a = none
    · exact y
    · rw [z, nk y] at e; cases e
  have md : Mod K mg (hidT s₁.heap H) := ⟨KB, nsK g1, ⟨mb, nsK g2, g3⟩, let ⟨mc, c1, c2⟩ := nl; ⟨mc, nsK c1, c2⟩⟩
  have ev : Env0 P w K mg (hidT s₁.heap H) callerA [] s₁ H := ⟨rfl, md, fun _ _ e => of_hidT e, Nat.le_of_eq (hidT_size _ _), trivial, fun b z => absurd z nil_no, ok, .of_eq hg⟩
  refine codeAny_mono ((F _ KB (nsK g1)).go callerA [] s₁ H ⟨[.ref a], []⟩ [.ref a] [.ref a] _ _ rfl hr ev (bd s₁ (.ref a)) (.cons rfl .nil) hq) fun r s' h => ?_
  match r, h with
  | .error e, h => exact h.elim
  | .ok .next, h => exact h.elim
  | .ok .brk, h => exact h.elim
  | .ok .cont, h => exact h.elim
  | .ok (.ret u), ⟨v, G, os, br, un, okG, rv, q⟩ =>
    cases (show v = .bl true from q)
    cases (show u = Value.bool true from rv)
    refine ⟨rfl, OldK.of_keep fun b o e => ?_, os, br⟩
    rcases on b with z | ⟨ob, xs, z⟩
    · exact un.keep b o e z nil_no nil_no
    · have e1 := (ok b _ z).1
      have e2 := (okG b _ (un.frzs b ob _ z)).1
      rw [e] at e1
      cases e1
      exact e2

theorem law_end (KI : K.In s₁.heap) (g1 : s₁.heap.Ns mainGlobals mg) (g2 : s₁.heap.Ns builtinsNs mb) (g3 : ∀ y : Str, y ≠ "__name__" → mb y = bootBuiltins y) (nl : s₁.heap.NoLimit) (hg : s₁.gens = #[])
    (ha : s₁.heap.get? a = some { cls := .type "list", data := .seq vs.toArray }) (hi : IntsAre vs ns) (hz : ns.length ≤ sizeLine) (hr : Room k callerA)
    (F : ∀ base : Heap, K.In base → base.Ns mainGlobals mg → Fg P w K mg base CX0 k fa fd [x] sp) (bd : ∀ (s : Shared) (u : Value), BindsTo s fd ⟨[u], []⟩ [(x, u)])
    (hsp : ∀ H : Hp, Only H → SqL K H a (ns.map V.int) → sp [.ref a] H (fun v _ => v = .bl true) fun _ _ _ => False) :
    codeAny (model P w) callerA (.call (.ref fa) ⟨[.ref a], []⟩) (fun r s' => r = .ok (.ret (.bool true)) ∧ OldK s₁.heap s'.heap ∧ s'.os = s₁.os ∧ AllBare s'.gens) s₁ := by
  have rv := vals_ints hi
  have ll : vs.length = ns.length := hi.length
  cases hk : K.lookup a with
  | some o =>
    have e := KI a o hk
    rw [ha] at e
    cases e
    have no : ∀ {b : Addr} {u : HO}, ((fun _ => none) : Hp) b ≠ some u := fun {b u} z => nomatch (show (none : Option HO) = some u from z)
    exact law_core KI g1 g2 g3 nl hg ha hr F bd (fun _ => none) (fun _ => .inl rfl) (hsp _ (fun _ => .inl rfl) (.inr ⟨_, vs.toArray, _, hk, rfl, rfl, rfl, by rw [List.size_toArray, ll]; exact hz, by simpa using rv⟩))
      (fun b u z => absurd z (no (b := b))) (fun b z => absurd rfl z) (fun z => absurd rfl z)
  | none =>
    have g : ∃ G : Hp, G a = some (.frz { cls := .type "list", data := .seq vs.toArray } (.lst (ns.map V.int))) ∧ ∀ b, b ≠ a → G b = none := ⟨fun b => if b = a then _ else none, if_pos rfl, fun b n => if_neg n⟩
    obtain ⟨G, y1, y2⟩ := g
    have on : Only G := fun b => by
      by_cases e : b = a
      · exact .inr ⟨_, _, e ▸ y1⟩
      · exact .inl (y2 b e)
    refine law_core KI g1 g2 g3 nl hg ha hr F bd G on (hsp G on (.inl (.inr ⟨_, y1⟩))) (fun b u z => ?_) (fun b z => ?_) fun _ => hk
    · by_cases e : b = a
      · subst e
        rw [y1] at z
        cases z
        exact ⟨ha, by rw [List.length_map]; exact hz, vs, _, rv, ha⟩
      · rw [y2 b e] at z; cases z
    · exact Classical.byContradiction fun e => z (y2 b e)
end

/-- the goal that the head leaves -/
theorem walk_g {l : PySem.W.OpenLaw} {n k : Nat} {q : Program} {loose : List Str} {XP : (Str → Option Value) → Heap → Prop} {YP : World → Heap → Prop} {d : DefRec} {K : Params → PySem.W.Frag} {sp : PySem.W.Frag → Sp} {x : Str}
    (hn : l.most = some n) (n2 : n ≤ sizeLine) (nd : d.params.defaults = []) (hr : Room k callerA) (hY : ∀ (w : World) (h : Heap), YP w h → (K w.params).In h)
    (F : ∀ (w : World) (mg : Str → Option Value) (fa : Addr) (h : Heap), (K w.params).In h → h.Ns mainGlobals mg → mg d.name = some (.ref fa) →
      ∃ fd : FuncData, (∀ (s : Shared) (u : Value), BindsTo s fd ⟨[u], []⟩ [(x, u)]) ∧ ∀ base : Heap, (K w.params).In base → base.Ns mainGlobals mg → Fg l.prog w (K w.params) mg base CX0 k fa fd [x] (sp (K w.params)))
    (hsp : ∀ (K : PySem.W.Frag) (H : Hp) (a : Addr) (ns : List Int), ns.length ≤ n → Only H → SqL K H a (ns.map V.int) → sp K [.ref a] H (fun v _ => v = .bl true) fun _ _ _ => False) :
    PySem.W.WalkO q loose XP YP l.row.toRowW d [] (fun f vs => PySem.call f vs) := by
  refine Att.attach_call hn nd fun w s₀ s₁ mg mb fa o pm cd doc a vs ns G Y ho hd hcd hmg hobj hints hlen hg => ?_
  have KI := hY w _ Y
  obtain ⟨fd, hb, hF⟩ := F w mg fa _ KI G.T.g hmg
  exact law_end KI G.T.g G.T.b G.T.builtins G.T.nolimit hg hobj hints (Nat.le_trans hlen n2) hr hF hb fun H on hS => hsp _ H a ns hlen on hS
end GL
namespace KC
open PySem L2 GL
theorem same_new {H : Hp} {p : Addr} (h : H p = none) (o : HO) : Same H (upd H p o) := fun b u q => by rw [upd_ne (ne_of_none q h)]; exact q
theorem same_grow {H H1 : Hp} {p : Addr} (h : H p = none) (e : Same H H1) (o : HO) : Same H (upd H1 p o) := fun b u q => by rw [upd_ne (ne_of_none q h)]; exact e b u q
structure Dfn (P : Program) (w : World) (K : PySem.W.Frag) (mg : Str → Option Value) (base : Heap) (name : Str) (k : Nat) (f : Addr) (fd : FuncData) (ps : List Str) (sp : Sp) : Prop where
  ok : FnOk P w K mg base CX0 k f fd ps sp
  b : L2.Binds K fd ps []
  m : mg name = some (.ref f)
  kp : PySem.W.keepIn K (.ref f) = true
/-- a def promised where no guard of repr stands -/
structure Gfn (P : Program) (w : World) (K : PySem.W.Frag) (mg : Str → Option Value) (base : Heap) (name : Str) (k : Nat) (f : Addr) (fd : FuncData) (ps : List Str) (sp : Sp) : Prop where
  ok : Fg P w K mg base CX0 k f fd ps sp
  b : L2.Binds K fd ps []
  m : mg name = some (.ref f)
  kp : PySem.W.keepIn K (.ref f) = true
/-- len of a list or tuple, the written part by its name -/
def rLenS (K : PySem.W.Frag) : List V → Hp → VK → Prop := fun xs H Q => ∃ (p : Addr) (ys : List V), xs = [.ref p] ∧ (SqL K H p ys ∨ SqT K H p ys) ∧ Q (.int ys.length) H
theorem call_lenS {X : Cx} : CallR X (.builtin "len") (rLenS X.K) := call_len_seq
/-! ### how long a value is when it is shown -/
mutual
def wt : PyData → Nat
  | .none => 4
  | .bool _ => 5
  | .int i => (PyData.int i).shown.length
  | .str x => (PyData.str x).shown.length
  | .list ds => wts ds + 3
  | .tuple ds => wts ds + 3
  | .dict _ => 2
def wts : List PyData → Nat
  | [] => 0
  | d :: ds => wt d + 2 + wts ds
end
theorem len_wts : ∀ ds : List PyData, ds.length ≤ wts ds
  | [] => Nat.le_refl _
  | d :: ds => by have := len_wts ds; simp only [wts, List.length_cons]; omega
theorem mem_wts {d : PyData} : ∀ {ds : List PyData}, d ∈ ds → wt d ≤ wts ds
  | e :: ds, h => by
    simp only [wts]
    rcases List.mem_cons.mp h with rfl | h
    · omega
    · have := mem_wts h; omega
/-! ### the deck: a list of a list of numbers and of how many were drawn -/
/-- the heap without the deck's two lists -/
def Hd (d c : Addr) (H : Hp) : Hp := fun b => if b = d ∨ b = c then none else H b
theorem hd_some {d c b : Addr} {H : Hp} {o : HO} (h : Hd d c H b = some o) : H b = some o ∧ b ≠ d ∧ b ≠ c := by
  unfold Hd at h
  by_cases e : b = d ∨ b = c
  · rw [if_pos e] at h; cases h
  · rw [if_neg e] at h; exact ⟨h, fun z => e (.inl z), fun z => e (.inr z)⟩
theorem hd_of {d c b : Addr} {H : Hp} {o : HO} (h : H b = some o) (n1 : b ≠ d) (n2 : b ≠ c) : Hd d c H b = some o := by
  unfold Hd
  rw [if_neg fun e => e.elim n1 n2]; exact h
theorem hd_sub {d c : Addr} {H : Hp} : Same (Hd d c H) H := fun _ _ h => (hd_some h).1
theorem hd_new {d c p : Addr} {H : Hp} (h : H p = none) (o : HO) : Same (Hd d c H) (Hd d c (upd H p o)) := fun b u q => by
  obtain ⟨q1, q2, q3⟩ := hd_some q
  exact hd_of (same_new h o b u q1) q2 q3
theorem hd_put {d c p : Addr} {H : Hp} (h : p = d ∨ p = c) (o : HO) : Same (Hd d c H) (Hd d c (upd H p o)) := fun b u q => by
  obtain ⟨q1, q2, q3⟩ := hd_some q
  refine hd_of ?_ q2 q3
  rw [upd_ne (fun e => h.elim (fun z => q2 (e.trans z)) fun z => q3 (e.trans z))]; exact q1
theorem hd_same {d c : Addr} {H H' : Hp} (h : Same H H') : Same (Hd d c H) (Hd d c H') := fun b u q => by
  obtain ⟨q1, q2, q3⟩ := hd_some q
  exact hd_of (h b u q1) q2 q3

/-- the deck at d, its cells at c, with at most m numbers drawn -/
structure Deck (H : Hp) (d c : Addr) (m : Nat) : Prop where
  ne : d ≠ c
  ex : ∃ (L : List Int) (n : Nat), H d = some (.lst [.ref c, .int n]) ∧ H c = some (.lst (L.map V.int)) ∧ L.length ≤ 63 ∧ (∀ x ∈ L, 0 ≤ x) ∧ n ≤ m
theorem Deck.same {H H' : Hp} {d c : Addr} {m : Nat} (D : Deck H d c m) (s : Same H H') : Deck H' d c m := by
  obtain ⟨L, n, h1, h2, h3⟩ := D.ex
  exact ⟨D.ne, L, n, s _ _ h1, s _ _ h2, h3⟩
theorem Deck.mono {H : Hp} {d c : Addr} {m k : Nat} (D : Deck H d c m) (h : m ≤ k) : Deck H d c k := by
  obtain ⟨L, n, h1, h2, h3, h4, h5⟩ := D.ex
  exact ⟨D.ne, L, n, h1, h2, h3, h4, Nat.le_trans h5 h⟩
theorem Deck.new {H : Hp} {d c : Addr} {m : Nat} (D : Deck H d c m) {p : Addr} (h : H p = none) (o : HO) : Deck (upd H p o) d c m := D.same (same_new h o)

def spDeck (K : PySem.W.Frag) : Sp := fun vs H Q _ => ∃ (a : Addr) (ns : List Int), vs = [.ref a] ∧ SqL K H a (ns.map V.int) ∧ ns.length ≤ 63 ∧ ∀ d c H', Same H H' → H d = none → H c = none → Deck H' d c 0 → Q (.ref d) H'
def spDraw : Sp := fun vs H Q _ => ∃ (d c : Addr) (many : Int) (m : Nat), vs = [.ref d, .int many] ∧ Deck H d c m ∧ m ≤ 1000000000 ∧ 0 < many ∧ many < 1073741824 ∧
  ∀ (r : Int) (H' : Hp), 0 ≤ r → r < many → Deck H' d c (m + 1) → Same (Hd d c H) (Hd d c H') → Q (.int r) H'
def spOne : Sp := fun vs H Q _ => ∃ (d c a : Addr) (xs : List V) (m : Nat), vs = [.ref d, .ref a] ∧ Deck H d c m ∧ m ≤ 1000000000 ∧ Hd d c H a = some (.lst xs) ∧ 0 < xs.length ∧ xs.length ≤ 100000 ∧
  ∀ (v : V) (H' : Hp), v ∈ xs → Deck H' d c (m + 1) → Same (Hd d c H) (Hd d c H') → Q v H'

def rAbs : List V → Hp → VK → Prop := fun xs H Q => ∃ i : Int, xs = [.int i] ∧ Q (.int (if i < 0 then -i else i)) H
theorem call_absS {X : Cx} : CallR X (.builtin "abs") rAbs := call_abs
theorem cut_mem {xs : List V} {lo hi : Option Int} {x : V} (h : x ∈ cutV xs lo hi) : x ∈ xs := List.mem_of_mem_drop (List.mem_of_mem_take h)

/-! ### machines that are drawn -/
def emp : Hp := fun _ => none
theorem emp_same {H : Hp} : Same emp H := fun _ _ h => nomatch (show (none : Option HO) = some _ from h)
/-- one more thing hidden -/
def Hr (R : Addr) (H : Hp) : Hp := fun b => if b = R then none else H b
theorem hr_some {R b : Addr} {H : Hp} {o : HO} (h : Hr R H b = some o) : H b = some o ∧ b ≠ R := by
  unfold Hr at h
  by_cases e : b = R
  · rw [if_pos e] at h; cases h
  · rw [if_neg e] at h; exact ⟨h, e⟩
theorem hr_of {R b : Addr} {H : Hp} {o : HO} (h : H b = some o) (n : b ≠ R) : Hr R H b = some o := by
  unfold Hr; rw [if_neg n]; exact h
theorem hr_sub {R : Addr} {H : Hp} : Same (Hr R H) H := fun _ _ h => (hr_some h).1
theorem hr_same {R : Addr} {H H' : Hp} (s : Same H H') : Same (Hr R H) (Hr R H') := fun b o h => hr_of (s _ _ (hr_some h).1) (hr_some h).2
theorem hr_put {R d c : Addr} {G : Hp} {o : HO} : Same (Hr R (Hd d c G)) (Hr R (Hd d c (upd G R o))) := fun b u h => by
  obtain ⟨h1, h2⟩ := hr_some h
  obtain ⟨h3, h4, h5⟩ := hd_some h1
  exact hr_of (hd_of (by rw [upd_ne h2]; exact h3) h4 h5) h2
theorem hd_none {d c p : Addr} {H : Hp} (n : H p = none) : Hd d c H p = none := by
  unfold Hd
  split
  · rfl
  · exact n
theorem hd_grow {d c p : Addr} {H G : Hp} (n : Hd d c H p = none) (s : Same (Hd d c H) (Hd d c G)) (o : HO) : Same (Hd d c H) (Hd d c (upd G p o)) := fun b u h => by
  obtain ⟨_, h2, h3⟩ := hd_some h
  exact hd_of (by rw [upd_ne (ne_of_none h n)]; exact (hd_some (s _ _ h)).1) h2 h3
theorem Deck.put {H : Hp} {d c p : Addr} {m : Nat} (D : Deck H d c m) (n1 : p ≠ d) (n2 : p ≠ c) (o : HO) : Deck (upd H p o) d c m := by
  obtain ⟨L, n, h1, h2, h3⟩ := D.ex
  exact ⟨D.ne, L, n, by rw [upd_ne n1.symm]; exact h1, by rw [upd_ne n2.symm]; exact h2, h3⟩
theorem Deck.free {H : Hp} {d c p : Addr} {m : Nat} (D : Deck H d c m) (n : H p = none) : p ≠ d ∧ p ≠ c := by
  obtain ⟨L, k, h1, h2, h3⟩ := D.ex
  exact ⟨(ne_of_none h1 n).symm, (ne_of_none h2 n).symm⟩

def IsRow (l n : Nat) (r : PyData) : Prop := ∃ xs, r = .tuple xs ∧ xs.length = l ∧ ∀ x ∈ xs, x = .none ∨ ∃ i : Int, x = .int i ∧ 0 ≤ i ∧ i < n
def IsMach (l n : Nat) (md : PyData) : Prop := ∃ (rs : List PyData) (bs : List Bool), md = .tuple [.int l, .tuple rs, .tuple (bs.map .bool)] ∧ rs.length = n ∧ bs.length = n ∧ ∀ r ∈ rs, IsRow l n r
def spMach (K : PySem.W.Frag) : Sp := fun vs H Q _ => ∃ (d c : Addr) (l n m : Nat), vs = [.ref d, .int l, .int n] ∧ Deck H d c m ∧ m ≤ 900000000 ∧ 1 ≤ l ∧ l ≤ 4 ∧ 1 ≤ n ∧ n ≤ 400 ∧
  ∀ (p : Addr) (md : PyData) (H' : Hp), IsMach l n md → Dt K (Hd d c H') (.ref p) md → Deck H' d c (m + 4000) → Same (Hd d c H) (Hd d c H') → Q (.ref p) H'
theorem bools_dt {K : PySem.W.Frag} {H : Hp} : ∀ bs : List Bool, DtAll K H (bs.map V.bl) (bs.map .bool)
  | [] => .nil
  | b :: bs => .cons (.bl b) (bools_dt bs)

/-! ### a list against an empty one, a tuple against an empty one -/
def rNe0 : R2 := fun x y H Q => ∃ (a b : Addr) (xs : List V), x = .ref a ∧ y = .ref b ∧ H a = some (.lst xs) ∧ H b = some (.lst []) ∧ Q (.bl (!xs.isEmpty)) H
def rEq0 : R2 := fun x y H Q => ∃ (a b : Addr) (xs : List V), x = .ref a ∧ y = .ref b ∧ H a = some (.tup xs) ∧ H b = some (.tup []) ∧ Q (.bl xs.isEmpty) H
theorem op_ne0 {X : Cx} (hu : X.A.units < cLine) : OpR X (compareOp .NotEq) rNe0 := by
  intro pins s σ H x y v u Q I rx ry h
  obtain ⟨a, b, xs, rfl, rfl, ha, hb, q⟩ := h
  cases rx
  cases ry
  obtain ⟨its, n, rv, e⟩ := lst_at I ha
  obtain ⟨its2, n2, rv2, e2⟩ := lst_at I hb
  cases rv2
  have l1 : s.heap.IsList a its.toArray := ⟨_, e, rfl, n, rfl⟩
  have l2 : s.heap.IsList b ([] : List Value).toArray := ⟨_, e2, rfl, n2, rfl⟩
  cases its with
  | nil =>
    cases rv
    exact SeqAt.RcNeAt.lists (e := fun _ => true) l1 l2 rfl hu (fun j h1 _ => absurd h1 (Nat.not_lt_zero j)) X.prog X.w _ _ ⟨.bl false, H, I, rfl, q⟩
  | cons y ys =>
    cases rv with
    | cons r1 r2 => exact SeqAt.RcNeAt.lists_lengths l1 l2 rfl hu X.prog X.w _ _ ⟨.bl true, H, I, rfl, q⟩
theorem op_eq0 {X : Cx} (hu : X.A.units < cLine) : OpR X (compareOp .Eq) rEq0 := by
  intro pins s σ H x y v u Q I rx ry h
  obtain ⟨a, b, xs, rfl, rfl, ha, hb, q⟩ := h
  cases rx
  cases ry
  obtain ⟨its, o, n, rv, e, ec, ed⟩ := tup_at I ha
  obtain ⟨its2, o2, n2, rv2, e2, ec2, ed2⟩ := tup_at I hb
  cases rv2
  have l1 : s.heap.IsTuple a its.toArray := ⟨_, e, ec, n, ed⟩
  have l2 : s.heap.IsTuple b ([] : List Value).toArray := ⟨_, e2, ec2, n2, ed2⟩
  cases its with
  | nil =>
    cases rv
    exact SeqAt.RcAt.tuples (e := fun _ => true) l1 l2 hu (fun j h1 _ => absurd h1 (Nat.not_lt_zero j)) X.prog X.w _ _ ⟨.bl true, H, I, rfl, q⟩
  | cons y ys =>
    cases rv with
    | cons r1 r2 => exact SeqAt.RcAt.tuples (e := fun _ => true) l1 l2 hu (fun j _ h2 => absurd h2 (Nat.not_lt_zero j)) X.prog X.w _ _ ⟨.bl false, H, I, rfl, q⟩

/-! ### what can be shown -/
mutual
theorem shown_wt {K : PySem.W.Frag} {H : Hp} : ∀ (d : PyData) (v : V), Dt K H v d → d.shown.length ≤ wt d
  | .none, _, _ => by decide +kernel
  | .bool b, _, _ => by cases b <;> decide +kernel
  | .int _, _, _ => Nat.le_refl _
  | .str _, _, _ => Nat.le_refl _
  | .list ds, _, h => by
    cases h with
    | lst _ ha =>
      have h1 := listText_len_le (PyData.shownAll ds)
      have h2 := shownAll_wt ds _ ha
      simp only [PyData.shown, wt]
      omega
  | .tuple ds, _, h => by
    cases h with
    | tup _ ha =>
      have h1 := tupleText_len_le (PyData.shownAll ds)
      have h2 := shownAll_wt ds _ ha
      simp only [PyData.shown, wt]
      omega
  | .dict _, _, h => by
    cases h with
    | dic _ =>
      simp only [PyData.shown, PyData.shownKv, wt]
      decide +kernel
theorem shownAll_wt {K : PySem.W.Frag} {H : Hp} : ∀ (ds : List PyData) (vs : List V), DtAll K H vs ds → ((PyData.shownAll ds).map (·.length)).sum + 2 * (PyData.shownAll ds).length ≤ wts ds
  | [], _, _ => by simp [PyData.shownAll, wts]
  | d :: ds, _, h => by
    cases h with
    | cons h1 h2 =>
      have e1 := shown_wt d _ h1
      have e2 := shownAll_wt ds _ h2
      simp only [PyData.shownAll, wts, List.map_cons, List.sum_cons, List.length_cons]
      omega
end
/-- small, shallow, with ints that can be shown -/
structure Fit (n k : Nat) (d : PyData) : Prop where
  w : wt d ≤ n
  k : d.depth ≤ k
  s : d.showable = true
structure FitAll (n k : Nat) (ds : List PyData) : Prop where
  w : wts ds ≤ n
  k : PyData.depthAll ds ≤ k
  s : PyData.showableAll ds = true
theorem Fit.mono {n k m j : Nat} {d : PyData} (h : Fit n k d) (a : n ≤ m) (b : k ≤ j) : Fit m j d := ⟨Nat.le_trans h.w a, Nat.le_trans h.k b, h.s⟩
theorem Fit.tup {n k : Nat} {ds : List PyData} (h : FitAll n k ds) : Fit (n + 3) (k + 1) (.tuple ds) := ⟨by simp only [wt]; have := h.w; omega, by simp only [PyData.depth]; have := h.k; omega, by simp only [PyData.showable]; exact h.s⟩
theorem Fit.lst {n k : Nat} {ds : List PyData} (h : FitAll n k ds) : Fit (n + 3) (k + 1) (.list ds) := ⟨by simp only [wt]; have := h.w; omega, by simp only [PyData.depth]; have := h.k; omega, by simp only [PyData.showable]; exact h.s⟩
theorem FitAll.nil {k : Nat} : FitAll 0 k [] := ⟨by simp only [wts]; exact Nat.le_refl 0, by simp only [PyData.depthAll]; exact Nat.zero_le _, by simp only [PyData.showableAll]⟩
theorem FitAll.cons {n m k : Nat} {d : PyData} {ds : List PyData} (a : Fit n k d) (b : FitAll m k ds) : FitAll (n + 2 + m) k (d :: ds) :=
  ⟨by simp only [wts]; have := a.w; have := b.w; omega, by simp only [PyData.depthAll]; exact Nat.max_le.mpr ⟨a.k, b.k⟩, by simp only [PyData.showableAll, a.s, b.s, Bool.and_self]⟩
theorem FitAll.mono {n k m j : Nat} {ds : List PyData} (h : FitAll n k ds) (a : n ≤ m) (b : k ≤ j) : FitAll m j ds := ⟨Nat.le_trans h.w a, Nat.le_trans h.k b, h.s⟩
theorem FitAll.append {n m k : Nat} : ∀ {ds es : List PyData}, FitAll n k ds → FitAll m k es → FitAll (n + m) k (ds ++ es)
  | [], es, _, b => b.mono (Nat.le_add_left _ _) (Nat.le_refl _)
  | d :: ds, es, a, b => by
    have w := a.w
    have kk := a.k
    have ss := a.s
    simp only [wts] at w
    simp only [PyData.depthAll] at kk
    simp only [PyData.showableAll, Bool.and_eq_true] at ss
    have r : FitAll (wts ds + m) k (ds ++ es) := FitAll.append ⟨Nat.le_refl _, Nat.le_trans (Nat.le_max_right _ _) kk, ss.2⟩ b
    exact (FitAll.cons (n := wt d) ⟨Nat.le_refl _, Nat.le_trans (Nat.le_max_left _ _) kk, ss.1⟩ r).mono (by omega) (Nat.le_refl _)
theorem FitAll.take {n k : Nat} : ∀ {ds : List PyData} (i : Nat), FitAll n k ds → FitAll n k (ds.take i)
  | ds, 0, _ => by rw [List.take_zero]; exact FitAll.nil.mono (Nat.zero_le _) (Nat.le_refl _)
  | [], i + 1, a => a
  | d :: ds, i + 1, a => by
    have w := a.w
    have kk := a.k
    have ss := a.s
    simp only [wts] at w
    simp only [PyData.depthAll] at kk
    simp only [PyData.showableAll, Bool.and_eq_true] at ss
    have r : FitAll (wts ds) k (ds.take i) := FitAll.take i ⟨Nat.le_refl _, Nat.le_trans (Nat.le_max_right _ _) kk, ss.2⟩
    exact (FitAll.cons (n := wt d) ⟨Nat.le_refl _, Nat.le_trans (Nat.le_max_left _ _) kk, ss.1⟩ r).mono (by omega) (Nat.le_refl _)
theorem FitAll.drop {n k : Nat} : ∀ {ds : List PyData} (i : Nat), FitAll n k ds → FitAll n k (ds.drop i)
  | ds, 0, a => a
  | [], i + 1, a => a
  | d :: ds, i + 1, a => by
    have w := a.w
    have kk := a.k
    have ss := a.s
    simp only [wts] at w
    simp only [PyData.depthAll] at kk
    simp only [PyData.showableAll, Bool.and_eq_true] at ss
    have r : FitAll (wts ds) k (ds.drop i) := FitAll.drop i ⟨Nat.le_refl _, Nat.le_trans (Nat.le_max_right _ _) kk, ss.2⟩
    exact r.mono (by omega) (Nat.le_refl _)
theorem FitAll.mem {n k : Nat} {d : PyData} : ∀ {ds : List PyData}, FitAll n k ds → d ∈ ds → Fit n k d
  | e :: ds, a, h => by
    have w := a.w
    have kk := a.k
    have ss := a.s
    simp only [wts] at w
    simp only [PyData.depthAll] at kk
    simp only [PyData.showableAll, Bool.and_eq_true] at ss
    rcases List.mem_cons.mp h with rfl | h
    · exact ⟨by omega, Nat.le_trans (Nat.le_max_left _ _) kk, ss.1⟩
    · exact FitAll.mem (ds := ds) ⟨by omega, Nat.le_trans (Nat.le_max_right _ _) kk, ss.2⟩ h
theorem Fit.all {n k : Nat} {ds : List PyData} (h : Fit n k (.tuple ds)) : FitAll n k ds ∧ PyData.depthAll ds + 1 ≤ k := by
  have w := h.w
  have kk := h.k
  have ss := h.s
  simp only [wt] at w
  simp only [PyData.depth] at kk
  simp only [PyData.showable] at ss
  exact ⟨⟨by omega, by omega, ss⟩, kk⟩
theorem fit_int {i : Int} {n : Nat} (h : i.natAbs < 10 ^ 41) (hn : 42 ≤ n) {k : Nat} : Fit n k (.int i) := by
  have e := int_text_length_le10 (k := 41) (by decide) h
  have l : wt (.int i) = (toString i).length := by simp only [wt, PyData.shown]; exact ofString_length _
  refine ⟨by rw [l]; omega, by simp only [PyData.depth]; exact Nat.zero_le _, ?_⟩
  simp only [PyData.showable, decide_eq_true_eq]
  have h2 : i.natAbs < 2 ^ 1920 := Nat.lt_trans h (by decide +kernel)
  by_cases z : i.natAbs = 0
  · rw [z]; decide
  · exact (Nat.log2_lt z).mpr h2
theorem fit_non {n k : Nat} (h : 5 ≤ n) : Fit n k .none := ⟨by simp only [wt]; omega, by simp only [PyData.depth]; exact Nat.zero_le _, by simp only [PyData.showable]⟩
theorem fit_bl {n k : Nat} {b : Bool} (h : 5 ≤ n) : Fit n k (.bool b) := ⟨by simp only [wt]; omega, by simp only [PyData.depth]; exact Nat.zero_le _, by simp only [PyData.showable]⟩
theorem fit_dic {n k : Nat} (h : 2 ≤ n) (hk : 1 ≤ k) : Fit n k (.dict []) := ⟨by simp only [wt]; omega, by simp only [PyData.depth, PyData.depthKv]; omega, by simp only [PyData.showable, PyData.showableKv]⟩
theorem fit_str {n k m : Nat} {x : Str} (e : (PyData.str x).shown.length ≤ m) (h : m ≤ n) : Fit n k (.str x) := ⟨by simp only [wt]; omega, by simp only [PyData.depth]; exact Nat.zero_le _, by simp only [PyData.showable]⟩
theorem fit_mach {l n : Nat} {md : PyData} (h : IsMach l n md) (hl : l ≤ 4) (hn : n ≤ 400) : Fit (188 * n + 60) 3 md := by
  obtain ⟨rs, bs, rfl, h1, h2, h3⟩ := h
  have row : ∀ xs : List PyData, (∀ x ∈ xs, x = .none ∨ ∃ i : Int, x = .int i ∧ 0 ≤ i ∧ i < n) → FitAll (44 * xs.length) 0 xs := by
    intro xs
    induction xs with
    | nil => intro _; exact FitAll.nil
    | cons x xs ih =>
      intro hx
      have a : Fit 42 0 x := by
        rcases hx x List.mem_cons_self with rfl | ⟨i, rfl, i0, i1⟩
        · exact fit_non (by decide)
        · exact fit_int (by have : i.natAbs < 400 := by omega
                            omega) (by decide)
      exact (FitAll.cons a (ih fun y hy => hx y (List.mem_cons_of_mem _ hy))).mono (by rw [List.length_cons]; omega) (Nat.le_refl _)
  have rows : ∀ rs : List PyData, (∀ r ∈ rs, IsRow l n r) → FitAll (181 * rs.length) 1 rs := by
    intro rs
    induction rs with
    | nil => intro _; exact FitAll.nil
    | cons r rs ih =>
      intro hr
      obtain ⟨xs, rfl, x1, x2⟩ := hr r List.mem_cons_self
      have a := Fit.tup (row xs x2)
      exact (FitAll.cons a (ih fun y hy => hr y (List.mem_cons_of_mem _ hy))).mono (by rw [List.length_cons, x1]; omega) (Nat.le_refl _)
  have bools : ∀ bs : List Bool, FitAll (7 * bs.length) 1 (bs.map PyData.bool) := by
    intro bs
    induction bs with
    | nil => exact FitAll.nil
    | cons b bs ih => exact (FitAll.cons (n := 5) (fit_bl (by decide)) ih).mono (by rw [List.length_cons]; omega) (Nat.le_refl _)
  have r1 := rows rs h3
  rw [h1] at r1
  have r2 := bools bs
  rw [h2] at r2
  have il : (l : Int).natAbs < 10 ^ 41 := Nat.lt_of_lt_of_le (show (l : Int).natAbs < 5 by omega) (by decide +kernel)
  exact (Fit.tup (FitAll.cons (fit_int (n := 42) il (by decide)) (FitAll.cons (Fit.tup r1) (FitAll.cons (Fit.tup r2) FitAll.nil)))).mono (by omega) (Nat.le_refl _)

/-! ### slices and sums of tuples, one way each -/
def rSlD : V → Option Int → Option Int → Hp → VK → Prop := fun x lo hi H Q => ∃ (a : Addr) (xs : List V), x = .ref a ∧ H a = some (.tup xs) ∧ ∀ (b : Addr) (G : Hp), Same H G → G b = some (.tup (cutV xs lo hi)) → Q (.ref b) G
theorem cut_whole {xs : List V} {lo hi : Option Int} (h : HT.sIx xs.length 0 lo = 0 ∧ HT.sIx xs.length xs.length hi = xs.length) : cutV xs lo hi = xs := by
  unfold cutV
  rw [h.1, h.2, List.drop_zero, Nat.sub_zero, List.take_length]
theorem sl_tupD {X : Cx} : SlR X rSlD := by
  intro pins s σ H x v vl vu lo hi sl Q I rx hs pl pu h
  obtain ⟨a, xs, rfl, ha, q⟩ := h
  exact sl_tupA pins s σ H _ v vl vu lo hi sl Q I rx hs pl pu ⟨a, xs, rfl, .inl (.inl ha), fun hw => q a H (Same.refl H) (by rw [cut_whole hw]; exact ha), fun _ p np => q p _ (same_new np _) upd_same⟩
def rCatD : R2 := fun x y H Q => ∃ (a b : Addr) (xs ys : List V), x = .ref a ∧ y = .ref b ∧ H a = some (.tup xs) ∧ H b = some (.tup ys) ∧ xs.length + ys.length ≤ sizeLine ∧ ∀ (p : Addr) (G : Hp), Same H G → G p = some (.tup (xs ++ ys)) → Q (.ref p) G
theorem op_catD {X : Cx} : OpR X (binaryOp .Add) rCatD := by
  intro pins s σ H x y v u Q I rx ry h
  obtain ⟨a, b, xs, ys, rfl, rfl, ha, hb, hz, q⟩ := h
  refine op_catA pins s σ H _ _ v u Q I rx ry ⟨a, b, xs, ys, rfl, rfl, .inl (.inl ha), .inl (.inl hb), hz, fun e => ?_, fun _ e => ?_, fun _ _ p np => q p _ (same_new np _) upd_same⟩
  · subst e; exact q b H (Same.refl H) hb
  · subst e; exact q a H (Same.refl H) (by rw [List.append_nil]; exact ha)
theorem cut_dt {K : PySem.W.Frag} {H : Hp} {vs : List V} {ds : List PyData} (lo hi : Option Int) (h : DtAll K H vs ds) : ∃ es, DtAll K H (cutV vs lo hi) es ∧ ∀ n k, FitAll n k ds → FitAll n k es :=
  ⟨_, (h.drop _).take _, fun _ _ f => (f.drop _).take _⟩
theorem Deck.tup {H : Hp} {d c b : Addr} {m : Nat} {xs : List V} (D : Deck H d c m) (h : H b = some (.tup xs)) : Hd d c H b = some (.tup xs) := by
  obtain ⟨L, n, h1, h2, _⟩ := D.ex
  exact hd_of h (ne_of h h1 fun z => nomatch z) (ne_of h h2 fun z => nomatch z)

/-- where the top has left a def -/
structure DF (K : PySem.W.Frag) (x : Str) (st : Stmt) (f : Addr) (fd : FuncData) : Prop where
  ns : PySem.W.nsIn K mainGlobals x = some (some (.ref f))
  fn : Fun K x x st f fd
theorem df {K : PySem.W.Frag} {x : Str} {st : Stmt} {f : Addr} {oc : Value} {od an : Option Addr} {osl : Array (Option Value)} {kV doc pm cdv ct : Value} (a : PySem.W.nsIn K mainGlobals x = some (some (.ref f)))
    (l : K.lookup f = some ⟨oc, od, .func (PySem.W.fnOf x x (defArgs st) (defBody st) (defScope st) .none kV doc pm an cdv ct), osl⟩) (c : PySem.W.codeIn K cdv x = true) (k : PySem.W.keepIn K (.ref f) = true) :
    DF K x st f (PySem.W.fnOf x x (defArgs st) (defBody st) (defScope st) .none kV doc pm an cdv ct) := ⟨a, fun_mk l c k⟩
/-- the names that the deck's defs use -/
structure TxC (mg : Str → Option Value) : Prop where
  int : mg "int" = none
  tuple : mg "tuple" = none
  len : mg "len" = none
  abs : mg "abs" = none
  range : mg "range" = none
end KC
/-! Own layer: zip of two or three, enumerate, over lists, tuples and texts in any mix; what is walked stands still. -/
namespace GZ
open PySem PySem.Spec PyProof.Rows L2

/-- the kinds of what is walked -/
inductive Kd where
  | lst
  | tup
  | str
def sgs (z : Str) : List V := z.cps.toList.map fun c => V.str ⟨#[c]⟩
/-- v is a list, a tuple, a text of the items xs -/
def Src (K : PySem.W.Frag) (H : Hp) : Kd → V → List V → Prop
  | .lst, v, xs => ∃ a, v = .ref a ∧ SqL K H a xs
  | .tup, v, xs => ∃ a, v = .ref a ∧ SqT K H a xs
  | .str, v, xs => ∃ z, v = .str z ∧ xs = sgs z
/-- the iterator at it, ahead of the item i -/
def StI (h : Heap) : Kd → V → Addr → Nat → Prop
  | .lst, v, it, i => ∃ a, v = .ref a ∧ h.IsListIter it a i
  | .tup, v, it, i => ∃ a, v = .ref a ∧ h.IsTupleIter it a i
  | .str, v, it, i => ∃ z t, v = .str z ∧ h.IsStrIter it (strIterType z) z t i
theorem StI.keep {h h' : Heap} {k : Kd} {v : V} {it : Addr} {i : Nat} (st : StI h k v it i) (q : ∀ o, h.get? it = some o → h'.get? it = some o) : StI h' k v it i := by
  cases k with
  | lst => obtain ⟨a, e, s⟩ := st; exact ⟨a, e, s.at q⟩
  | tup => obtain ⟨a, e, s⟩ := st; exact ⟨a, e, s.at q⟩
  | str => obtain ⟨z, t, e, o, ho, r⟩ := st; exact ⟨z, t, e, o, q o ho, r⟩
theorem StI.obj {h : Heap} {k : Kd} {v : V} {it : Addr} {i : Nat} (st : StI h k v it i) : ∃ o, h.get? it = some o ∧ ∀ v, o.data ≠ .cell v := by
  cases k with
  | lst => obtain ⟨a, e, o, ho, _, d⟩ := st; exact ⟨o, ho, fun v z => by rw [d] at z; cases z⟩
  | tup => obtain ⟨a, e, o, ho, _, d⟩ := st; exact ⟨o, ho, fun v z => by rw [d] at z; cases z⟩
  | str => obtain ⟨z, t, e, o, ho, _, d⟩ := st; exact ⟨o, ho, fun v z => by rw [d] at z; cases z⟩
theorem vals_back {xs : List V} {us : List Value} (r : Vals xs us) {j : Nat} {u : Value} (h : us[j]? = some u) : ∃ y, xs[j]? = some y ∧ RelV y u := by
  have l := r.length
  have jl : j < us.length := (List.getElem?_eq_some_iff.mp h).1
  obtain ⟨y, hy⟩ : ∃ y, xs[j]? = some y := ⟨_, List.getElem?_eq_getElem (by omega)⟩
  obtain ⟨u', h1, h2⟩ := r.get hy
  rw [h] at h1
  cases h1
  exact ⟨y, hy, h2⟩
section
variable {X : Cx} {pins : List (Addr × Obj)} {σ : L2.St} {H : Hp} {s : Shared}
/-- what its iterator draws -/
theorem src_draws (I : Inv X pins σ H s) (hc : X.calm = true) {k : Kd} {v : V} {xs : List V} {it : Addr} {i : Nat} (h : Src X.K H k v xs) (st : StI s.heap k v it i) (ne : ∀ a, v = .ref a → a ≠ it) :
    ∃ (fp : List Addr) (P : Nat → Value → Prop) (St : Nat → Heap → Prop), Draws X.prog X.w X.A.in1 it fp xs.length P St ∧ St i s.heap ∧ it ∈ fp ∧ (∀ b ∈ fp, b = it ∨ v = .ref b) ∧
      (∀ j x, P j x → ∃ y, xs[j]? = some y ∧ RelV y x) ∧ ∀ j h', St j h' → StI h' k v it j := by
  have hh : X.A.in1.handled = none := I.ok.hd hc
  cases k with
  | lst =>
    obtain ⟨a, rfl, hq⟩ := h
    obtain ⟨a', e, st⟩ := st
    cases e
    obtain ⟨its, rv, p, hz⟩ := I.list hq
    have D := Draws.list (prog := X.prog) (w := X.w) (A := X.A.in1) hh it a (ne a rfl) its.toArray
    rw [show its.toArray.size = xs.length by rw [List.size_toArray, rv.length]] at D
    exact ⟨_, _, _, D, ⟨st, p.isList⟩, List.mem_cons_self, fun b hb => by simpa [eq_comm] using hb, fun j x hx => vals_back rv (by simpa using hx), fun j h' q => ⟨a, rfl, q.1⟩⟩
  | tup =>
    obtain ⟨a, rfl, hq⟩ := h
    obtain ⟨a', e, st⟩ := st
    cases e
    obtain ⟨its, rv, p, hz⟩ := I.tuple hq
    have D := Draws.tuple (prog := X.prog) (w := X.w) (A := X.A.in1) hh it a (ne a rfl) its.toArray
    rw [show its.toArray.size = xs.length by rw [List.size_toArray, rv.length]] at D
    exact ⟨_, _, _, D, ⟨st, p⟩, List.mem_cons_self, fun b hb => by simpa [eq_comm] using hb, fun j x hx => vals_back rv (by simpa using hx), fun j h' q => ⟨a, rfl, q.1⟩⟩
  | str =>
    obtain ⟨z, rfl, rfl⟩ := h
    obtain ⟨z', t, e, st⟩ := st
    cases e
    have D := Draws.text (prog := X.prog) (w := X.w) (A := X.A.in1) hh it z t
    rw [show z.cps.size = (sgs z).length by unfold sgs; rw [List.length_map, Array.length_toList]] at D
    refine ⟨_, _, _, D, st, List.mem_cons_self, fun b hb => .inl (by simpa using hb), ?_, fun j h' q => ⟨z, t, rfl, q⟩⟩
    rintro j x ⟨c, u, h1, rfl⟩
    refine ⟨.str ⟨#[c]⟩, ?_, ⟨u, rfl⟩⟩
    unfold sgs
    rw [List.getElem?_map, Array.getElem?_toList, h1]
    rfl
/-- how its iterator begins -/
theorem src_begins (I : Inv X pins σ H s) {k : Kd} {v : V} {u : Value} {xs : List V} (h : Src X.K H k v xs) (r : RelV v u) :
    ∃ (o : Obj) (Hb : Heap → Prop), Begins u o Hb ∧ Hb s.heap ∧ (∀ (it : Addr) (h' : Heap), h'.get? it = some o → StI h' k v it 0) ∧ ∀ a, v = .ref a → a < s.heap.objs.size := by
  cases k with
  | lst =>
    obtain ⟨a, rfl, hq⟩ := h
    cases r
    obtain ⟨its, rv, p, hz⟩ := I.list hq
    exact ⟨_, _, begins_list a its.toArray, p.isList, fun it h' e => ⟨a, rfl, _, e, rfl, rfl⟩, fun b e => by cases e; exact p.lt⟩
  | tup =>
    obtain ⟨a, rfl, hq⟩ := h
    cases r
    obtain ⟨its, rv, p, hz⟩ := I.tuple hq
    have la : a < s.heap.objs.size := by
      obtain ⟨o, ho, _⟩ := id p
      exact Heap.lt_size ho
    exact ⟨_, _, begins_tuple a its.toArray, p, fun it h' e => ⟨a, rfl, _, e, rfl, rfl⟩, fun b e => by cases e; exact la⟩
  | str =>
    obtain ⟨z, rfl, rfl⟩ := h
    obtain ⟨t, rfl⟩ := r
    exact ⟨_, _, begins_text z t, trivial, fun it h' e => ⟨z, t, rfl, _, e, rfl, rfl⟩, fun b e => nomatch e⟩
end

theorem out5 {n a : Nat} (h : a < n) : a ∉ [n + 4, n + 2, n + 3, n, n + 1] := by
  simp only [List.mem_cons, List.not_mem_nil, or_false]
  omega
theorem le5 {n a : Nat} (h : a ∈ [n + 4, n + 2, n + 3, n, n + 1]) : n ≤ a := by
  simp only [List.mem_cons, List.not_mem_nil, or_false] at h
  omega
theorem out6 {n a : Nat} (h : a < n) : a ∉ [n + 5, n + 3, n + 4, n, n + 1, n + 2] := by
  simp only [List.mem_cons, List.not_mem_nil, or_false]
  omega
theorem le6 {n a : Nat} (h : a ∈ [n + 5, n + 3, n + 4, n, n + 1, n + 2]) : n ≤ a := by
  simp only [List.mem_cons, List.not_mem_nil, or_false] at h
  omega
theorem out2 {n a : Nat} (h : a < n) : a ∉ [n + 1, n] := by
  simp only [List.mem_cons, List.not_mem_nil, or_false]
  omega
theorem le2 {n a : Nat} (h : a ∈ [n + 1, n]) : n ≤ a := by
  simp only [List.mem_cons, List.not_mem_nil, or_false] at h
  omega
/-- n turns while G stands; turn i gives a new tuple of what stands in row i -/
def ItN (n : Nat) (G : Hp → Prop) (row : Nat → Option (List V)) : It :=
  ⟨fun i H => G H ∧ i < n, fun i H v H' => ∃ T xs, v = .ref T ∧ H T = none ∧ H' = upd H T (.tup xs) ∧ row i = some xs, fun i H => G H ∧ i = n⟩
theorem walk_N {n : Nat} {G : Hp → Prop} {row : Nat → Option (List V)} : Walk (ItN n G row) n G (fun i H v H' => ∃ T xs, v = .ref T ∧ H T = none ∧ H' = upd H T (.tup xs) ∧ row i = some xs) :=
  ⟨fun _ _ hi q => ⟨q, hi⟩, fun _ q => ⟨q, rfl⟩, fun _ _ _ _ _ _ y => y⟩
/-- such an iterator by the library's walks of tuples -/
theorem turn_N {P : Program} {w : World} {K : PySem.W.Frag} {elts : List Expr} {kk : Nat} {tpos : Pos} {n : Nat} {G : Hp → Prop} {row : Nat → Option (List V)} {fp : List Addr} {z : Addr} {tn : Nat → Heap → Prop} (mem : z ∈ fp)
    (obj : ∀ i h, tn i h → ∀ b ∈ fp, ∃ o, h.get? b = some o ∧ ∀ v, o.data ≠ .cell v) (keep : ∀ i h h', tn i h → (∀ b ∈ fp, ∀ o, h.get? b = some o → h'.get? b = some o) → tn i h')
    (self : ∀ (A : Around) (i : Nat) (s : Shared) (Q : Value → Shared → Prop) (E : Value → Shared → Prop), tn i s.heap → Q (.ref z) s → wpAny (model P w) A (pyIter (.ref z)) Q E s)
    (W : ∀ (X : Cx), X.prog = P → X.w = w → X.K = K → X.calm = true → ∀ (i : Nat) (pins : List (Addr × Obj)) (s : Shared) (σ : L2.St) (H : Hp), Inv X pins σ H s → G H → tn i s.heap →
      ∃ (fpW wr : List Addr) (Pt : Nat → Array Value → Prop) (St : Nat → Heap → Prop) (Mid : Nat → Addr → Heap → Prop), WalksT P w X.A z fpW wr n Pt St Mid ∧ St i s.heap ∧ (∀ b ∈ wr, b ∈ fp) ∧ (∀ j h, St j h → tn j h) ∧
        ∀ j vals, Pt j vals → ∃ xs, row j = some xs ∧ Vals xs vals.toList ∧ xs.length ≤ sizeLine) : Turn P w K (.Tuple elts kk tpos) (ItN n G row) fp z tn where
  mem := mem
  obj := obj
  keep := keep
  self := self
  item := by
    intro X hP hw hK hc i pins s σ H E I hf st hg
    obtain ⟨hG, hi⟩ := hg
    obtain ⟨fpW, wr, Pt, St, Mid, Wk, st0, hwr, hst, hpt⟩ := W X hP hw hK hc i pins s σ H I hG st
    subst hP hw hK
    refine Wk.item i s _ _ hi st0 fun T vals h' tk hP hT hTup mid hk => ⟨_, rfl, Wk.go elts kk tpos i T { s with heap := h', toks := tk } _ _ mid fun h'' st'' hk'' => ?_⟩
    obtain ⟨xs, hr, hv, hl⟩ := hpt i vals hP
    have hap := Wk.apart i T h' mid
    obtain ⟨o, ho, hcl, nn, hd⟩ := hTup
    have new : ObjOk X.prog X.w (upd H T (.tup xs)) h'' T (.tup xs) := ⟨hl, vals.toList, hv, ⟨o, hk'' T o hap ho, hcl, nn, by simpa using hd⟩⟩
    have I1 : Inv X pins σ (upd H T (.tup xs)) { s with heap := h'', toks := tk } :=
      I.turnedNew (ch := fp) (fun b ob hb q => hk'' b ob (fun z => hb (hwr b z)) (hk b ob (fun z => hb (hwr b z)) q)) hf hT new
    refine ⟨.ref T, _, I1, rfl, ⟨T, xs, rfl, I.hok.fresh hT, rfl, hr⟩, hst _ _ st'', fun b hb => ?_⟩
    obtain ⟨ob, hob, _⟩ := obj i s.heap st b hb
    have hlt : b < s.heap.objs.size := Heap.lt_size hob
    rw [upd_ne (Nat.ne_of_lt (Nat.lt_of_lt_of_le hlt hT))]
    exact (hf b hb).1
  done := by
    intro X hP hw hK hc i pins s σ H E I hf st hg
    obtain ⟨hG, hi⟩ := hg
    obtain ⟨fpW, wr, Pt, St, Mid, Wk, st0, hwr, hst, hpt⟩ := W X hP hw hK hc i pins s σ H I hG st
    subst hP hw hK hi
    exact Wk.done s _ _ st0 fun h' tk hk => ⟨rfl, I.turnedL (t' := tk) (ch := fp) (fun b ob hb q => hk b ob (fun z => hb (hwr b z)) q) hf⟩

/-! ### zip of two -/
def row2 (xs ys : List V) (i : Nat) : Option (List V) := match xs[i]?, ys[i]? with
  | some x, some y => some [x, y]
  | _, _ => none
theorem row2_of {xs ys : List V} {i : Nat} {r : List V} (h : row2 xs ys i = some r) : ∃ x y, xs[i]? = some x ∧ ys[i]? = some y ∧ r = [x, y] := by
  unfold row2 at h
  split at h
  · rename_i x y h1 h2
    cases h
    exact ⟨x, y, h1, h2, rfl⟩
  · cases h
def It2 (K : PySem.W.Frag) (k1 : Kd) (v1 : V) (xs : List V) (k2 : Kd) (v2 : V) (ys : List V) : It := ItN (min xs.length ys.length) (fun H => Src K H k1 v1 xs ∧ Src K H k2 v2 ys) (row2 xs ys)
theorem turn_z2 {P : Program} {w : World} {K : PySem.W.Frag} {elts : List Expr} {kk : Nat} {tpos : Pos} {k1 k2 : Kd} {v1 v2 : V} {xs ys : List V} {z TI TO i1 i2 : Addr} (nd : [z, TI, TO, i1, i2].Nodup) (a1 : ∀ a, v1 = .ref a → a ∉ [z, TI, TO, i1, i2]) (a2 : ∀ a, v2 = .ref a → a ∉ [z, TI, TO, i1, i2]) :
    Turn P w K (.Tuple elts kk tpos) (It2 K k1 v1 xs k2 v2 ys) [z, TI, TO, i1, i2] z (fun i h => IsZip h z TI TO .none ∧ IsTupOf2 h TI (.ref i1) (.ref i2) ∧ (∃ x y, IsTupOf2 h TO x y) ∧ StI h k1 v1 i1 i ∧ StI h k2 v2 i2 i) := by
  refine turn_N (by simp) (fun i h st c hc => ?_) (fun i h h' st k => ?_) (fun A i s Q E st q => wpAny_pyIter_zip st.1 q) (fun X hP hw hK hc i pins s σ H I hG st => ?_)
  · obtain ⟨hz, hTI, ⟨x, y, hTO⟩, s1, s2⟩ := st
    have e' : c = z ∨ c = TI ∨ c = TO ∨ c = i1 ∨ c = i2 := by simpa using hc
    rcases e' with q | q | q | q | q
    · rw [q]; exact ⟨_, hz, fun v q => nomatch q⟩
    · rw [q]; exact ⟨_, hTI, fun v q => nomatch q⟩
    · rw [q]; exact ⟨_, hTO, fun v q => nomatch q⟩
    · rw [q]; exact s1.obj
    · rw [q]; exact s2.obj
  · obtain ⟨hz, hTI, ⟨x, y, hTO⟩, s1, s2⟩ := st
    exact ⟨k z (by simp) _ hz, k TI (by simp) _ hTI, ⟨x, y, k TO (by simp) _ hTO⟩, s1.keep fun o q => k i1 (by simp) o q, s2.keep fun o q => k i2 (by simp) o q⟩
  · subst hP hw hK
    obtain ⟨hz, hTI, ⟨x, y, hTO⟩, s1, s2⟩ := st
    simp only [List.nodup_cons, List.mem_cons, List.not_mem_nil, or_false, not_or, not_false_eq_true, List.nodup_nil, and_true] at nd
    simp only [List.mem_cons, List.not_mem_nil, or_false, not_or] at a1 a2
    obtain ⟨⟨n1, n2, n3, n4⟩, ⟨n5, n6, n7⟩, ⟨n8, n9⟩, n10⟩ := nd
    obtain ⟨f1, P1, S1, D1, t1, m1, g1, p1, q1⟩ := src_draws I hc hG.1 s1 (fun a e => (a1 a e).2.2.2.1)
    obtain ⟨f2, P2, S2, D2, t2, m2, g2, p2, q2⟩ := src_draws I hc hG.2 s2 (fun a e => (a2 a e).2.2.2.2)
    have out1 : ∀ b, b ≠ i1 → (b = z ∨ b = TO ∨ b = i2) → b ∉ f1 := fun b ne hb hm => by
      rcases g1 b hm with e | e
      · exact ne e
      · rcases hb with rfl | rfl | rfl
        · exact (a1 _ e).1 rfl
        · exact (a1 _ e).2.2.1 rfl
        · exact (a1 _ e).2.2.2.2 rfl
    have out2 : ∀ b, b ≠ i2 → (b = z ∨ b = TO ∨ b = i1) → b ∉ f2 := fun b ne hb hm => by
      rcases g2 b hm with e | e
      · exact ne e
      · rcases hb with rfl | rfl | rfl
        · exact (a2 _ e).1 rfl
        · exact (a2 _ e).2.2.1 rfl
        · exact (a2 _ e).2.2.2.1 rfl
    have S : ZipSep2 z TI TO i1 i2 f1 f2 := ⟨Ne.symm n1, Ne.symm n2, n5, n6, m1, out1 z n3 (.inl rfl), out1 TO n8 (.inr (.inl rfl)), n7, m2, out2 z n4 (.inl rfl), out2 TO n9 (.inr (.inl rfl)), out2 i1 n10 (.inr (.inr rfl)), out1 i2 (Ne.symm n10) (.inr (.inr rfl))⟩
    refine ⟨_, _, _, _, _, WalksT.zipD2 S D1 D2, ⟨hz, hTI, ⟨x, y, hTO⟩, t1, t2⟩, fun b hb => ?_, fun j h st => ⟨st.1, st.2.1, st.2.2.1, q1 _ _ st.2.2.2.1, q2 _ _ st.2.2.2.2⟩, ?_⟩
    · simp only [List.mem_cons, List.not_mem_nil, or_false] at hb ⊢
      rcases hb with e | e | e | e
      · exact .inl e
      · exact .inr (.inr (.inl e))
      · exact .inr (.inr (.inr (.inl e)))
      · exact .inr (.inr (.inr (.inr e)))
    · rintro j vals ⟨u1, u2, h1, h2, rfl⟩
      obtain ⟨y1, e1, r1⟩ := p1 j u1 h1
      obtain ⟨y2, e2, r2⟩ := p2 j u2 h2
      exact ⟨[y1, y2], by unfold row2; rw [e1, e2], .cons r1 (.cons r2 .nil), by show 2 ≤ 2 ^ 24; decide⟩
def iZ2 (K : PySem.W.Frag) (ta : TA) : TI := fun σ H R => ta σ H fun vs H1 => ∃ (v1 v2 : V) (k1 k2 : Kd) (xs ys : List V), vs = [v1, v2] ∧ Src K H1 k1 v1 xs ∧ Src K H1 k2 v2 ys ∧ R (It2 K k1 v1 xs k2 v2 ys) H1
theorem fresh_fp {X : Cx} {pins : List (Addr × Obj)} {σ : L2.St} {H : Hp} {s : Shared} (I : Inv X pins σ H s) {b : Addr} (h : s.heap.objs.size ≤ b) : FpOk X pins H b := I.fpOk h (I.hok.fresh h)
theorem pi_z2 {X : Cx} {e e2 : Expr} {ta : TA} {p pos tpos : Pos} {elts : List Expr} {kk : Nat} (hg : Gl X "zip") (hm : X.mg "zip" = none) (ha : PA X [e, e2] ta)
    (hs : starEach [e, e2] X.env = (false, eval e X.env) :: starEach [e2] X.env := by rfl) (hpl : (backTo pos (starEach [e2] X.env)).any (·.1) = false := by rfl) :
    PI X (.Tuple elts kk tpos) (.Call (.Name "zip" p) [e, e2] [] pos) (iZ2 X.K ta) := by
  refine ⟨fun pins s σ H R I h => ?_⟩
  refine Call_ (ld_blt I hg hm PyProof.Rows.boot_zip (PyProof.Rows.callWith_type1 (thn (ha.run pos pins s σ H _ I h) fun us s1 ⟨vs, H1, I1, r1, q1⟩ => ?_) hs hpl))
  obtain ⟨v1, v2, k1, k2, xs, ys, ex, hx, hy, q⟩ := q1
  subst ex
  cases r1 with
  | cons r rr =>
    cases rr with
    | cons r' rr =>
      cases rr
      obtain ⟨o1, B1, b1, c1, d1, l1⟩ := src_begins I1 hx r
      obtain ⟨o2, B2, b2, c2, d2, l2⟩ := src_begins I1 hy r'
      refine zip_begins2 b1 b2 c1 c2 fun h' hz hTI hTO g1 g2 hsz hk => wpAny_pyIter_zip hz ?_
      have I2 : Inv X pins σ H1 { s1 with heap := h' } := I1.kept (t' := s1.toks) hk
      have nd : [s1.heap.objs.size + 4, s1.heap.objs.size + 2, s1.heap.objs.size + 3, s1.heap.objs.size, s1.heap.objs.size + 1].Nodup := by simp
      refine ⟨s1.heap.objs.size + 4, [s1.heap.objs.size + 4, s1.heap.objs.size + 2, s1.heap.objs.size + 3, s1.heap.objs.size, s1.heap.objs.size + 1], _, _, H1, rfl, I2, turn_z2 nd (fun a e => out5 (l1 a e)) (fun a e => out5 (l2 a e)), ⟨hz, hTI, ⟨_, _, hTO⟩, d1 _ _ g1, d2 _ _ g2⟩, fun c hcm => fresh_fp I1 (le5 hcm), q⟩

/-! ### zip of three -/
def row3 (xs ys zs : List V) (i : Nat) : Option (List V) := match xs[i]?, ys[i]?, zs[i]? with
  | some x, some y, some z => some [x, y, z]
  | _, _, _ => none
theorem row3_of {xs ys zs : List V} {i : Nat} {r : List V} (h : row3 xs ys zs i = some r) : ∃ x y z, xs[i]? = some x ∧ ys[i]? = some y ∧ zs[i]? = some z ∧ r = [x, y, z] := by
  unfold row3 at h
  split at h
  · rename_i x y z h1 h2 h3
    cases h
    exact ⟨x, y, z, h1, h2, h3, rfl⟩
  · cases h
def It3 (K : PySem.W.Frag) (k1 : Kd) (v1 : V) (xs : List V) (k2 : Kd) (v2 : V) (ys : List V) (k3 : Kd) (v3 : V) (zs : List V) : It :=
  ItN (min (min xs.length ys.length) zs.length) (fun H => Src K H k1 v1 xs ∧ Src K H k2 v2 ys ∧ Src K H k3 v3 zs) (row3 xs ys zs)
theorem turn_z3 {P : Program} {w : World} {K : PySem.W.Frag} {elts : List Expr} {kk : Nat} {tpos : Pos} {k1 k2 k3 : Kd} {v1 v2 v3 : V} {xs ys zs : List V} {z TI TO i1 i2 i3 : Addr} (nd : [z, TI, TO, i1, i2, i3].Nodup) (a1 : ∀ a, v1 = .ref a → a ∉ [z, TI, TO, i1, i2, i3])
    (a2 : ∀ a, v2 = .ref a → a ∉ [z, TI, TO, i1, i2, i3]) (a3 : ∀ a, v3 = .ref a → a ∉ [z, TI, TO, i1, i2, i3]) :
    Turn P w K (.Tuple elts kk tpos) (It3 K k1 v1 xs k2 v2 ys k3 v3 zs) [z, TI, TO, i1, i2, i3] z (fun i h => IsZip h z TI TO .none ∧ IsTupOf3 h TI (.ref i1) (.ref i2) (.ref i3) ∧ (∃ x y u, IsTupOf3 h TO x y u) ∧ StI h k1 v1 i1 i ∧ StI h k2 v2 i2 i ∧ StI h k3 v3 i3 i) := by
  refine turn_N (by simp) (fun i h st c hc => ?_) (fun i h h' st k => ?_) (fun A i s Q E st q => wpAny_pyIter_zip st.1 q) (fun X hP hw hK hc i pins s σ H I hG st => ?_)
  · obtain ⟨hz, hTI, ⟨x, y, u, hTO⟩, s1, s2, s3⟩ := st
    have e' : c = z ∨ c = TI ∨ c = TO ∨ c = i1 ∨ c = i2 ∨ c = i3 := by simpa using hc
    rcases e' with q | q | q | q | q | q
    · rw [q]; exact ⟨_, hz, fun v q => nomatch q⟩
    · rw [q]; exact ⟨_, hTI, fun v q => nomatch q⟩
    · rw [q]; exact ⟨_, hTO, fun v q => nomatch q⟩
    · rw [q]; exact s1.obj
    · rw [q]; exact s2.obj
    · rw [q]; exact s3.obj
  · obtain ⟨hz, hTI, ⟨x, y, u, hTO⟩, s1, s2, s3⟩ := st
    exact ⟨k z (by simp) _ hz, k TI (by simp) _ hTI, ⟨x, y, u, k TO (by simp) _ hTO⟩, s1.keep fun o q => k i1 (by simp) o q, s2.keep fun o q => k i2 (by simp) o q, s3.keep fun o q => k i3 (by simp) o q⟩
  · subst hP hw hK
    obtain ⟨hz, hTI, ⟨x, y, u, hTO⟩, s1, s2, s3⟩ := st
    simp only [List.nodup_cons, List.mem_cons, List.not_mem_nil, or_false, not_or, not_false_eq_true, List.nodup_nil, and_true] at nd
    simp only [List.mem_cons, List.not_mem_nil, or_false, not_or] at a1 a2 a3
    obtain ⟨⟨n1, n2, n3, n4, n5⟩, ⟨n6, n7, n8, n9⟩, ⟨n10, n11, n12⟩, ⟨n13, n14⟩, n15⟩ := nd
    obtain ⟨f1, P1, S1, D1, t1, m1, g1, p1, q1⟩ := src_draws I hc hG.1 s1 (fun a e => (a1 a e).2.2.2.1)
    obtain ⟨f2, P2, S2, D2, t2, m2, g2, p2, q2⟩ := src_draws I hc hG.2.1 s2 (fun a e => (a2 a e).2.2.2.2.1)
    obtain ⟨f3, P3, S3, D3, t3, m3, g3, p3, q3⟩ := src_draws I hc hG.2.2 s3 (fun a e => (a3 a e).2.2.2.2.2)
    have out : ∀ (j b : Addr) (f : List Addr) (v : V), (∀ b ∈ f, b = j ∨ v = .ref b) → (∀ a, v = .ref a → ¬ a = z ∧ ¬ a = TI ∧ ¬ a = TO ∧ ¬ a = i1 ∧ ¬ a = i2 ∧ ¬ a = i3) → b ≠ j → (b = z ∨ b = TO ∨ b = i1 ∨ b = i2 ∨ b = i3) → b ∉ f := fun j b f v g a ne hb hm => by
      rcases g b hm with e | e
      · exact ne e
      · obtain ⟨e1, e2, e3, e4, e5, e6⟩ := a b e
        rcases hb with h | h | h | h | h
        · exact e1 h
        · exact e3 h
        · exact e4 h
        · exact e5 h
        · exact e6 h
    have S : ZipSep3 z TI TO i1 i2 i3 f1 f2 f3 := ⟨Ne.symm n1, Ne.symm n2, n6, n7, m1, out i1 z f1 v1 g1 a1 n3 (by simp), out i1 TO f1 v1 g1 a1 n10 (by simp), n8, m2, out i2 z f2 v2 g2 a2 n4 (by simp), out i2 TO f2 v2 g2 a2 n11 (by simp), n9, m3, out i3 z f3 v3 g3 a3 n5 (by simp), out i3 TO f3 v3 g3 a3 n12 (by simp),
      out i2 i1 f2 v2 g2 a2 n13 (by simp), out i3 i1 f3 v3 g3 a3 n14 (by simp), out i1 i2 f1 v1 g1 a1 (Ne.symm n13) (by simp), out i3 i2 f3 v3 g3 a3 n15 (by simp), out i1 i3 f1 v1 g1 a1 (Ne.symm n14) (by simp), out i2 i3 f2 v2 g2 a2 (Ne.symm n15) (by simp)⟩
    refine ⟨_, _, _, _, _, WalksT.zipD3 S D1 D2 D3, ⟨hz, hTI, ⟨x, y, u, hTO⟩, t1, t2, t3⟩, fun b hb => ?_, fun j h st => ⟨st.1, st.2.1, st.2.2.1, q1 _ _ st.2.2.2.1, q2 _ _ st.2.2.2.2.1, q3 _ _ st.2.2.2.2.2⟩, ?_⟩
    · simp only [List.mem_cons, List.not_mem_nil, or_false] at hb ⊢
      rcases hb with e | e | e | e | e
      · exact .inl e
      · exact .inr (.inr (.inl e))
      · exact .inr (.inr (.inr (.inl e)))
      · exact .inr (.inr (.inr (.inr (.inl e))))
      · exact .inr (.inr (.inr (.inr (.inr e))))
    · rintro j vals ⟨u1, u2, u3, h1, h2, h3, rfl⟩
      obtain ⟨y1, e1, r1⟩ := p1 j u1 h1
      obtain ⟨y2, e2, r2⟩ := p2 j u2 h2
      obtain ⟨y3, e3, r3⟩ := p3 j u3 h3
      exact ⟨[y1, y2, y3], by unfold row3; rw [e1, e2, e3], .cons r1 (.cons r2 (.cons r3 .nil)), by show 3 ≤ 2 ^ 24; decide⟩
def iZ3 (K : PySem.W.Frag) (ta : TA) : TI := fun σ H R => ta σ H fun vs H1 => ∃ (v1 v2 v3 : V) (k1 k2 k3 : Kd) (xs ys zs : List V), vs = [v1, v2, v3] ∧ Src K H1 k1 v1 xs ∧ Src K H1 k2 v2 ys ∧ Src K H1 k3 v3 zs ∧ R (It3 K k1 v1 xs k2 v2 ys k3 v3 zs) H1
theorem pi_z3 {X : Cx} {e e2 e3 : Expr} {ta : TA} {p pos tpos : Pos} {elts : List Expr} {kk : Nat} (hg : Gl X "zip") (hm : X.mg "zip" = none) (ha : PA X [e, e2, e3] ta)
    (hs : starEach [e, e2, e3] X.env = (false, eval e X.env) :: starEach [e2, e3] X.env := by rfl) (hpl : (backTo pos (starEach [e2, e3] X.env)).any (·.1) = false := by rfl) :
    PI X (.Tuple elts kk tpos) (.Call (.Name "zip" p) [e, e2, e3] [] pos) (iZ3 X.K ta) := by
  refine ⟨fun pins s σ H R I h => ?_⟩
  refine Call_ (ld_blt I hg hm PyProof.Rows.boot_zip (PyProof.Rows.callWith_type1 (thn (ha.run pos pins s σ H _ I h) fun us s1 ⟨vs, H1, I1, r1, q1⟩ => ?_) hs hpl))
  obtain ⟨v1, v2, v3, k1, k2, k3, xs, ys, zs, ex, hx, hy, hz0, q⟩ := q1
  subst ex
  cases r1 with
  | cons r rr =>
    cases rr with
    | cons r' rr =>
      cases rr with
      | cons r'' rr =>
        cases rr
        obtain ⟨o1, B1, b1, c1, d1, l1⟩ := src_begins I1 hx r
        obtain ⟨o2, B2, b2, c2, d2, l2⟩ := src_begins I1 hy r'
        obtain ⟨o3, B3, b3, c3, d3, l3⟩ := src_begins I1 hz0 r''
        refine zip_begins3 b1 b2 b3 c1 c2 c3 fun h' hz hTI hTO g1 g2 g3 hsz hk => wpAny_pyIter_zip hz ?_
        have I2 : Inv X pins σ H1 { s1 with heap := h' } := I1.kept (t' := s1.toks) hk
        have nd : [s1.heap.objs.size + 5, s1.heap.objs.size + 3, s1.heap.objs.size + 4, s1.heap.objs.size, s1.heap.objs.size + 1, s1.heap.objs.size + 2].Nodup := by simp
        refine ⟨s1.heap.objs.size + 5, [s1.heap.objs.size + 5, s1.heap.objs.size + 3, s1.heap.objs.size + 4, s1.heap.objs.size, s1.heap.objs.size + 1, s1.heap.objs.size + 2], _, _, H1, rfl, I2, turn_z3 nd (fun a e => out6 (l1 a e)) (fun a e => out6 (l2 a e)) (fun a e => out6 (l3 a e)),
          ⟨hz, hTI, ⟨_, _, _, hTO⟩, d1 _ _ g1, d2 _ _ g2, d3 _ _ g3⟩, fun c hcm => fresh_fp I1 (le6 hcm), q⟩

/-! ### enumerate -/
def rowE (xs : List V) (i : Nat) : Option (List V) := xs[i]?.map fun x => [V.int (i : Nat), x]
theorem rowE_of {xs : List V} {i : Nat} {r : List V} (h : rowE xs i = some r) : ∃ x, xs[i]? = some x ∧ r = [V.int (i : Nat), x] := by
  unfold rowE at h
  cases e : xs[i]? with
  | none => rw [e] at h; cases h
  | some x => rw [e] at h; cases h; exact ⟨x, rfl, rfl⟩
def ItE (K : PySem.W.Frag) (k1 : Kd) (v1 : V) (xs : List V) : It := ItN xs.length (fun H => Src K H k1 v1 xs) (rowE xs)
theorem turn_e {P : Program} {w : World} {K : PySem.W.Frag} {elts : List Expr} {kk : Nat} {tpos : Pos} {k1 : Kd} {v1 : V} {xs : List V} {e it : Addr} (nd : e ≠ it) (a1 : ∀ a, v1 = .ref a → a ∉ [e, it]) :
    Turn P w K (.Tuple elts kk tpos) (ItE K k1 v1 xs) [e, it] e (fun i h => (∃ old, IsEnum h e it (0 + ((i : Nat) : Int)) old) ∧ StI h k1 v1 it i) := by
  refine turn_N (by simp) (fun i h st c hc => ?_) (fun i h h' st k => ?_) (fun A i s Q E st q => let ⟨⟨_, he⟩, _⟩ := st; wpAny_pyIter_enum he q) (fun X hP hw hK hc i pins s σ H I hG st => ?_)
  · obtain ⟨⟨old, he⟩, s1⟩ := st
    have e' : c = e ∨ c = it := by simpa using hc
    rcases e' with q | q
    · rw [q]; exact ⟨_, he, fun v q => nomatch q⟩
    · rw [q]; exact s1.obj
  · obtain ⟨⟨old, he⟩, s1⟩ := st
    exact ⟨⟨old, k e (by simp) _ he⟩, s1.keep fun o q => k it (by simp) o q⟩
  · subst hP hw hK
    obtain ⟨⟨old, he⟩, s1⟩ := st
    simp only [List.mem_cons, List.not_mem_nil, or_false, not_or] at a1
    obtain ⟨f1, P1, S1, D1, t1, m1, g1, p1, q1⟩ := src_draws I hc hG s1 (fun a e => (a1 a e).2)
    have hef : e ∉ f1 := fun hm => by
      rcases g1 e hm with z | z
      · exact nd z
      · exact (a1 _ z).1 rfl
    refine ⟨_, _, _, _, _, WalksT.enumFrom 0 D1 e nd hef m1, ⟨⟨old, he⟩, t1⟩, fun b hb => hb, fun j h st => ⟨st.1, q1 _ _ st.2⟩, ?_⟩
    rintro j vals ⟨t, u1, h1, rfl⟩
    obtain ⟨y1, e1, r1⟩ := p1 j u1 h1
    refine ⟨[.int (j : Nat), y1], by unfold rowE; rw [e1]; rfl, .cons ⟨t, ?_⟩ (.cons r1 .nil), by show 2 ≤ 2 ^ 24; decide⟩
    show Value.int (0 + (j : Int)) t = Value.int (j : Int) t
    rw [Int.zero_add]
set_option maxHeartbeats 4000000 in
theorem meets_enumerate_newB1 {v : Value} {o : Obj} {H : Heap → Prop} (B : Begins v o H) :
    Meets (Builtin.«enumerate.__new__» ⟨[.type "enumerate", v], []⟩) (fun _ R s => H s.heap ∧
      R (.ok (.ret (.ref (s.heap.push o).objs.size))) { s with heap := (s.heap.push o).push { cls := .type "enumerate", data := .fields #[.none, .bool false, .ref s.heap.objs.size, rawInt 0, .none, .none] } }) :=
  .of_wp fun prog w A R s h => by
    obtain ⟨hp, g, d, tk, os⟩ := s; obtain ⟨h1, h⟩ := h
    have hsub := sub_enumerate
    have q1 : ∀ {A' : Around} {E : Value → Shared → Prop} {Q : Value → Shared → Prop}, Q (.ref hp.objs.size) ⟨hp.push o, g, d, tk, os⟩ → wpAny (model prog w) A' (pyIter v) Q E ⟨hp, g, d, tk, os⟩ :=
      fun q => B.iter prog w _ _ ⟨hp, g, d, tk, os⟩ _ h1 q
    wp_walk using q1
    refine wpAny_stack_any fun st => wpAny_pure ?_
    split
    · rename_i c _ _ _ _ _
      cases (c == Value.type "enumerate")
      · wp_walk using q1
        exact ⟨_, rfl, h⟩
      · wp_walk using q1
        exact ⟨_, rfl, h⟩
    · wp_walk using q1
      exact ⟨_, rfl, h⟩
theorem enum_begins1 {prog : Program} {w : World} {A : Around} {E : Value → Shared → Prop} {s : Shared} {v : Value} {o : Obj} {H : Heap → Prop} {Q : Value → Shared → Prop} (B : Begins v o H) (h1 : H s.heap)
    (h : ∀ h', IsEnum h' (s.heap.objs.size + 1) s.heap.objs.size 0 .none → h'.get? s.heap.objs.size = some o → h'.objs.size = s.heap.objs.size + 2 →
      (∀ b o, s.heap.get? b = some o → h'.get? b = some o) → Q (.ref (s.heap.objs.size + 1)) { s with heap := h' }) :
    wpAny (model prog w) A (call (.type "enumerate") [v]) Q E s := by
  refine callType_new F.called_enumerate (by decide) (F.typeCall_enumerate_1 _) (F.newCall_enumerate_1 _) (fun obj => F.args_object_init_2 obj _) F.entry_enumerate_new
    (meets_enumerate_newB1 B) ⟨h1, ?_⟩
  have hz : (s.heap.push o).objs.size = s.heap.objs.size + 1 := Heap.size_push ..
  show _ ∧ _
  rw [hz]
  have he : IsEnum ((s.heap.push o).push { cls := .type "enumerate", data := .fields #[.none, .bool false, .ref s.heap.objs.size, rawInt 0, .none, .none] }) (s.heap.objs.size + 1) s.heap.objs.size 0 .none := by
    have := Heap.get?_push_size (s.heap.push o) (o := { cls := .type "enumerate", data := .fields #[.none, .bool false, .ref s.heap.objs.size, rawInt 0, .none, .none] }) rfl
    rw [hz] at this; exact this
  refine ⟨⟨_, he, rfl⟩, h _ he (Heap.get?_push_of_some _ (Heap.get?_push_size _ B.free)) (by rw [Heap.size_push, hz]) fun b o x => Heap.get?_push_of_some _ (Heap.get?_push_of_some _ x)⟩
def iE (K : PySem.W.Frag) (ta : TA) : TI := fun σ H R => ta σ H fun vs H1 => ∃ (v1 : V) (k1 : Kd) (xs : List V), vs = [v1] ∧ Src K H1 k1 v1 xs ∧ R (ItE K k1 v1 xs) H1
theorem pi_e {X : Cx} {e : Expr} {ta : TA} {p pos tpos : Pos} {elts : List Expr} {kk : Nat} (hg : Gl X "enumerate") (hm : X.mg "enumerate" = none) (ha : PA X [e] ta) (hs : starEach [e] X.env = [(false, eval e X.env)] := by rfl) :
    PI X (.Tuple elts kk tpos) (.Call (.Name "enumerate" p) [e] [] pos) (iE X.K ta) := by
  refine ⟨fun pins s σ H R I h => ?_⟩
  refine Call_ (ld_blt I hg hm boot_enumerate (PyProof.Rows.callWith_type1 (thn (ha.run pos pins s σ H _ I h) fun us s1 ⟨vs, H1, I1, r1, q1⟩ => ?_) hs rfl))
  obtain ⟨v1, k1, xs, ex, hx, q⟩ := q1
  subst ex
  cases r1 with
  | cons r rr =>
    cases rr
    obtain ⟨o1, B1, b1, c1, d1, l1⟩ := src_begins I1 hx r
    refine enum_begins1 b1 c1 fun h' he g1 hsz hk => wpAny_pyIter_enum he ?_
    have I2 : Inv X pins σ H1 { s1 with heap := h' } := I1.kept (t' := s1.toks) hk
    refine ⟨s1.heap.objs.size + 1, [s1.heap.objs.size + 1, s1.heap.objs.size], _, _, H1, rfl, I2, turn_e (Nat.succ_ne_self _) (fun a e => out2 (l1 a e)), ⟨⟨.none, by rw [show (0 : Int) + ((0 : Nat) : Int) = 0 from rfl]; exact he⟩, d1 _ _ g1⟩, fun c hcm => fresh_fp I1 (le2 hcm), q⟩
end GZ
/-! Words and signs as texts; a text times a number, a tuple once. No row. -/
namespace KW
open PySem PySem.Spec PyProof.Rows L2 GL KC GZ
def sg (j : Nat) : Str := ⟨#[97 + j]⟩
def wS (w : List Nat) : Str := ⟨(w.map (97 + ·)).toArray⟩
theorem wS_nil : wS [] = ("" : Str) := by decide +kernel
theorem wS_len (w : List Nat) : (wS w).length = w.length := by
  show ((w.map (97 + ·)).toArray).size = _
  simp
theorem wS_size (w : List Nat) : (wS w).cps.size = w.length := wS_len w
theorem wS_list (w : List Nat) : (wS w).cps.toList = w.map (97 + ·) := rfl
theorem wS_at {w : List Nat} {i c : Nat} (h : (wS w).cps[i]? = some c) : ∃ j, w[i]? = some j ∧ c = 97 + j := by
  have h' : (w.map (97 + ·))[i]? = some c := by simpa [wS] using h
  rw [List.getElem?_map] at h'
  cases e : w[i]? with
  | none => rw [e] at h'; cases h'
  | some j => rw [e] at h'; exact ⟨j, rfl, (Option.some.inj h').symm⟩
theorem wS_app (w u : List Nat) : wS w ++ wS u = wS (w ++ u) := by
  have e : ∀ a b : Str, a ++ b = ⟨a.cps ++ b.cps⟩ := fun _ _ => rfl
  rw [e]
  simp [wS]
theorem sg_wS (j : Nat) : sg j = wS [j] := rfl
theorem occ_at : ∀ j, j < 4 → Builtin.Str.occurrences ("abcd" : Str) (sg j) 0 ("abcd" : Str).length 1 = [j] := by
  intro j hj
  rcases j with _ | _ | _ | _ | j
  · decide +kernel
  · decide +kernel
  · decide +kernel
  · decide +kernel
  · omega
theorem cut_abcd : ∀ l : Nat, 1 ≤ l → l ≤ 4 → cutS ("abcd" : Str) none (some (l : Int)) = wS (List.range l) := by
  intro l h1 h4
  rcases l with _ | _ | _ | _ | _ | l
  · omega
  · decide +kernel
  · decide +kernel
  · decide +kernel
  · decide +kernel
  · omega
/-- texts of one sign each, joined -/
theorem join_c : ∀ cs : List Nat, Txt.join ("" : Str) (cs.map fun c => (⟨#[c]⟩ : Str)) = ⟨cs.toArray⟩ := by
  intro w
  rw [TL.join_eq]
  have e0 : ∀ a : Str, a ++ ("" : Str) = a := by
    intro a
    show (⟨a.cps ++ #[]⟩ : Str) = a
    simp
  induction w with
  | nil => rfl
  | cons j w ih =>
    cases w with
    | nil => rfl
    | cons k w =>
      show (⟨#[j]⟩ : Str) ++ ("" : Str) ++ Str.join ("" : Str) ((k :: w).map fun c => (⟨#[c]⟩ : Str)) = _
      rw [ih, e0]
      show (⟨#[j] ++ (k :: w).toArray⟩ : Str) = _
      simp
theorem len_c : ∀ us : List Nat, ((us.map fun c => (⟨#[c]⟩ : Str)).map (·.length)).sum = us.length := by
  intro us
  induction us with
  | nil => rfl
  | cons y ys ih =>
    rw [List.map_cons, List.map_cons, List.sum_cons, ih, List.length_cons]
    show 1 + ys.length = ys.length + 1
    omega
/-- signs: true is minus -/
def sc (b : Bool) : Nat := if b then 45 else 43
def sS (bs : List Bool) : Str := ⟨(bs.map sc).toArray⟩
theorem sS_len (bs : List Bool) : (sS bs).length = bs.length := by
  show ((bs.map sc).toArray).size = _
  simp
theorem sgs_sS (bs : List Bool) : sgs (sS bs) = bs.map fun b => V.str ⟨#[sc b]⟩ := by
  unfold sgs sS
  simp
theorem sgs_abcd : sgs ("abcd" : Str) = [V.str (sg 0), V.str (sg 1), V.str (sg 2), V.str (sg 3)] := by rfl
theorem sgs_abcd_at {i : Nat} {x : V} (h : (sgs ("abcd" : Str))[i]? = some x) : x = .str (sg i) ∧ i < 4 := by
  rw [sgs_abcd] at h
  rcases i with _ | _ | _ | _ | i
  · cases h; exact ⟨rfl, by decide⟩
  · cases h; exact ⟨rfl, by decide⟩
  · cases h; exact ⟨rfl, by decide⟩
  · cases h; exact ⟨rfl, by decide⟩
  · cases h
theorem sc_minus (b : Bool) : decide (V.str ⟨#[sc b]⟩ = V.str ("-" : Str)) = b := by cases b <;> decide +kernel
theorem count_wS (w : List Nat) (j : Nat) : Txt.count (wS w) (sg j) = ((w.count j : Nat) : Int) := by
  unfold sg
  rw [count_cnt, wS_list]
  induction w with
  | nil => rfl
  | cons a w ih =>
    rw [List.map_cons, cnt_cons, ih, List.count_cons]
    by_cases h : a = j
    · subst h
      simp
      omega
    · have h2 : ¬ 97 + a = 97 + j := by omega
      rw [if_neg h2]
      simp [h]
/-! ### one of the signs of a text -/
def spOneT : Sp := fun vs H Q _ => ∃ (d c : Addr) (z : Str) (m : Nat), vs = [.ref d, .str z] ∧ Deck H d c m ∧ m ≤ 1000000000 ∧ 0 < z.length ∧ z.length ≤ 1000 ∧
  ∀ (k : Nat) (G : Hp), k ∈ z.cps.toList → Deck G d c (m + 1) → Same (Hd d c H) (Hd d c G) → Q (.str ⟨#[k]⟩) G
def spWord : Sp := fun vs H Q _ => ∃ (d c : Addr) (l most m : Nat), vs = [.ref d, .int l, .int most] ∧ Deck H d c m ∧ m ≤ 900000000 ∧ 1 ≤ l ∧ l ≤ 4 ∧ most ≤ 1000 ∧
  ∀ (w : List Nat) (G : Hp), (∀ j ∈ w, j < l) → w.length ≤ most → Deck G d c (m + 1002) → Same (Hd d c H) (Hd d c G) → Q (.str (wS w)) G
def spSigns : Sp := fun vs H Q _ => ∃ (d c : Addr) (l m : Nat), vs = [.ref d, .int l] ∧ Deck H d c m ∧ m ≤ 900000000 ∧ l ≤ 4 ∧
  ∀ (bs : List Bool) (G : Hp), bs.length = l → Deck G d c (m + 4) → Same (Hd d c H) (Hd d c G) → Q (.str (sS bs)) G
theorem bs_of : ∀ cs : List Nat, (∀ c ∈ cs, c = 43 ∨ c = 45) → ∃ bs : List Bool, cs = bs.map sc
  | [], _ => ⟨[], rfl⟩
  | c :: cs, h => by
    obtain ⟨bs, e⟩ := bs_of cs fun x hx => h x (List.mem_cons_of_mem _ hx)
    rcases h c List.mem_cons_self with rfl | rfl
    · exact ⟨false :: bs, by rw [e]; rfl⟩
    · exact ⟨true :: bs, by rw [e]; rfl⟩
theorem ws_of : ∀ (l : Nat) (cs : List Nat), (∀ c ∈ cs, c ∈ (wS (List.range l)).cps.toList) → ∃ w : List Nat, cs = w.map (97 + ·) ∧ ∀ j ∈ w, j < l
  | _, [], _ => ⟨[], rfl, fun _ h => nomatch h⟩
  | l, c :: cs, h => by
    obtain ⟨w, e, hw⟩ := ws_of l cs fun x hx => h x (List.mem_cons_of_mem _ hx)
    have hc := h c List.mem_cons_self
    rw [wS_list] at hc
    obtain ⟨j, hj, ej⟩ := List.mem_map.mp hc
    refine ⟨j :: w, by rw [e, ← ej]; rfl, fun k hk => ?_⟩
    rcases List.mem_cons.mp hk with rfl | hk
    · exact List.mem_range.mp hj
    · exact hw k hk
/-! ### the sign and the weight of a word -/
def sgn (bs : List Bool) : List Nat → Int
  | [] => 1
  | j :: w => (if bs.getD j false then -1 else 1) * sgn bs w
theorem sgn_app (bs : List Bool) : ∀ u v : List Nat, sgn bs (u ++ v) = sgn bs u * sgn bs v
  | [], v => by show sgn bs v = 1 * sgn bs v; omega
  | j :: u, v => by
    show _ * sgn bs (u ++ v) = _ * sgn bs u * sgn bs v
    rw [sgn_app bs u v, Int.mul_assoc]
theorem sgn_one (bs : List Bool) (j : Nat) : sgn bs [j] = if bs.getD j false then -1 else 1 := Int.mul_one _
theorem sgn_odd (bs : List Bool) : ∀ w : List Nat, sgn bs w = if (w.countP fun j => bs.getD j false) % 2 = 1 then -1 else 1
  | [] => rfl
  | j :: w => by
    show _ * sgn bs w = _
    rw [sgn_odd bs w, List.countP_cons]
    cases bs.getD j false with
    | false => simp
    | true =>
      simp only [if_true]
      split <;> split <;> omega
theorem sgn_pm (bs : List Bool) (w : List Nat) : sgn bs w = 1 ∨ sgn bs w = -1 := by
  rw [sgn_odd]
  split
  · exact .inr rfl
  · exact .inl rfl
theorem sgn_plus (l : Nat) : ∀ w : List Nat, sgn (List.replicate l false) w = 1
  | [] => rfl
  | j :: w => by
    show _ * sgn _ w = _
    rw [sgn_plus l w]
    have e : (List.replicate l false).getD j false = false := by
      rw [List.getD_eq_getElem?_getD]
      cases h : (List.replicate l false)[j]? with
      | none => rfl
      | some b => exact List.eq_of_mem_replicate (List.mem_of_getElem? h)
    rw [e]
    rfl
theorem sum_counts (w : List Nat) : ∀ L : List Nat, L.Nodup → (L.map fun j => ((w.count j : Nat) : Int)).sum = ((w.countP fun j => decide (j ∈ L) : Nat) : Int)
  | [], _ => by simp
  | a :: L, nd => by
    have nd' := List.nodup_cons.mp nd
    rw [List.map_cons, List.sum_cons, sum_counts w L nd'.2]
    have : ∀ w : List Nat, (w.countP fun j => decide (j ∈ a :: L)) = w.count a + w.countP fun j => decide (j ∈ L) := by
      intro w
      induction w with
      | nil => rfl
      | cons x w ih =>
        rw [List.countP_cons, List.count_cons, List.countP_cons, ih]
        by_cases h : x = a
        · subst h
          simp [nd'.1]
          omega
        · simp [h]
          omega
    rw [this w]
    omega
def minus (bs : List Bool) (l : Nat) : List Nat := (List.range l).filter fun j => bs.getD j false
theorem minus_sum (bs : List Bool) (l : Nat) (w : List Nat) (h : ∀ j ∈ w, j < l) : ((minus bs l).map fun j => ((w.count j : Nat) : Int)).sum = ((w.countP fun j => bs.getD j false : Nat) : Int) := by
  rw [sum_counts w (minus bs l) (List.nodup_range.filter _)]
  congr 1
  apply List.countP_congr
  intro j hj
  simp [minus, h j hj]
def wsum (ws : List Int) (w : List Nat) : Int := ((List.range ws.length).map fun j => ((w.count j : Nat) : Int) * ws.getD j 0).sum
theorem sum_add {α : Type} (f g : α → Int) : ∀ L : List α, (L.map fun j => f j + g j).sum = (L.map f).sum + (L.map g).sum
  | [] => rfl
  | a :: L => by
    rw [List.map_cons, List.sum_cons, sum_add f g L, List.map_cons, List.sum_cons, List.map_cons, List.sum_cons]
    omega
theorem wsum_app (ws : List Int) (u v : List Nat) : wsum ws (u ++ v) = wsum ws u + wsum ws v := by
  unfold wsum
  rw [← sum_add]
  congr 1
  refine List.map_congr_left fun j _ => ?_
  rw [List.count_append, ← Int.add_mul]
  congr 1
theorem sum_bound (f : Nat → Int) (b : Nat) (h : ∀ j, (f j).natAbs ≤ b) : ∀ L : List Nat, ((L.map f).sum).natAbs ≤ L.length * b
  | [] => by simp
  | a :: L => by
    rw [List.map_cons, List.sum_cons, List.length_cons, Nat.add_mul]
    have := sum_bound f b h L
    have := h a
    omega
theorem wsum_le (ws : List Int) (w : List Nat) (hl : ws.length ≤ 4) (hw : w.length ≤ 1000) (h : ∀ x ∈ ws, x.natAbs ≤ 99) : (wsum ws w).natAbs ≤ 400000 := by
  have := sum_bound (fun j => ((w.count j : Nat) : Int) * ws.getD j 0) 99000 (fun j => ?_) (List.range ws.length)
  · rw [List.length_range] at this
    unfold wsum
    omega
  · have c := List.count_le_length (a := j) (l := w)
    have g : (ws.getD j 0).natAbs ≤ 99 := by
      rw [List.getD_eq_getElem?_getD]
      cases e : ws[j]? with
      | none => exact Nat.zero_le _
      | some x => exact h x (List.mem_of_getElem? e)
    show (((w.count j : Nat) : Int) * ws.getD j 0).natAbs ≤ 99000
    rw [Int.natAbs_mul, Int.natAbs_natCast]
    exact Nat.le_trans (Nat.mul_le_mul (Nat.le_trans c hw) g) (by decide)
theorem wsum_nought (l : Nat) (w : List Nat) : wsum (List.replicate l 0) w = 0 := by
  unfold wsum
  have : ∀ L : List Nat, (L.map fun j => ((w.count j : Nat) : Int) * (List.replicate l (0 : Int)).getD j 0).sum = 0 := by
    intro L
    induction L with
    | nil => rfl
    | cons a L ih =>
      rw [List.map_cons, List.sum_cons, ih]
      have e : (List.replicate l (0 : Int)).getD a 0 = 0 := by
        rw [List.getD_eq_getElem?_getD]
        cases h : (List.replicate l (0 : Int))[a]? with
        | none => rfl
        | some b => exact List.eq_of_mem_replicate (List.mem_of_getElem? h)
      rw [e, Int.mul_zero]
      rfl
  exact this _
/-! ### a text times a number, a tuple once -/
def rMulS : R2 := fun x y H Q => ∃ (c : Nat) (n : Nat), x = .str ⟨#[c]⟩ ∧ y = .int (n : Int) ∧ 1 ≤ n ∧ n ≤ 100000 ∧ Q (.str ⟨(List.replicate n c).toArray⟩) H
theorem rep_c (c : Nat) : ∀ (n : Nat) (acc : List Nat), (List.replicate n #[c]).foldl (· ++ ·) acc.toArray = (acc ++ List.replicate n c).toArray
  | 0, acc => by simp
  | n + 1, acc => by
    rw [List.replicate_succ, List.foldl_cons]
    have e : acc.toArray ++ #[c] = (acc ++ [c]).toArray := by simp
    rw [e, rep_c c n]
    rw [List.replicate_succ, List.append_assoc]
    rfl
theorem op_mulS {X : Cx} : OpR X (binaryOp .Mult) rMulS := by
  intro pins s σ H x y v u Q I rx ry h
  obtain ⟨c, n, rfl, rfl, h1, h2, q⟩ := h
  obtain ⟨t, rfl⟩ := rx
  obtain ⟨t', rfl⟩ := ry
  have e1 : ¬ ((n : Int) < 1) := by omega
  have l1 : (⟨#[c]⟩ : Str).length = 1 := rfl
  refine P.mul_str (x := ⟨#[c]⟩) (n := (n : Int)) (t := t) (u := t') ?_ (fun _ _ => ?_) (fun _ _ => ?_) ?_
  · rw [decide_eq_false (by omega), decide_eq_false (by omega)]; rfl
  · rw [l1]
    have : (1 : Int) ≤ (2 ^ 63 - 1) / (n : Int) := by
      rw [Int.le_ediv_iff_mul_le (by omega)]
      omega
    show ¬ (((1 : Nat) : Int) > _)
    omega
  · show decide _ = false
    rw [l1, Int.toNat_natCast, sizeLine_eq]
    exact decide_eq_false (by omega)
  · rw [if_neg e1]
    by_cases e2 : n = 1
    · subst e2
      rw [if_pos (by rfl)]
      exact ⟨.str ⟨#[c]⟩, H, I, ⟨_, rfl⟩, q⟩
    · have e3 : (((n : Int) == 1) || ((⟨#[c]⟩ : Str).length == 0)) = false := by
        rw [l1]
        have : ((n : Int) == 1) = false := beq_eq_false_iff_ne.mpr (by omega)
        rw [this]
        rfl
      rw [e3, if_neg Bool.false_ne_true, Int.toNat_natCast]
      have e4 := rep_c c n []
      rw [List.nil_append] at e4
      rw [e4]
      refine ⟨?_, .str ⟨(List.replicate n c).toArray⟩, H, I.tok _, ⟨_, rfl⟩, q⟩
      show ((List.replicate n c).toArray).size ≤ sizeLine
      rw [List.size_toArray, List.length_replicate, sizeLine_eq]
      omega
theorem tuple_mul1 (l : Addr) (items : Array Value) (n : Nat) (dd : Option Addr) (sl : Array (Option Value)) (u : Tok) :
    Meets (Builtin.«tuple.__mul__» ⟨[.ref l, .int 1 u], []⟩) (fun _ R s => s.heap.get? l = some { cls := .type "tuple", dict := dd, data := .seq items n, slots := sl } ∧ R (.ok (.ret (Value.ref l))) s) :=
  .of_wp fun prog w A R s h => by
    obtain ⟨hp, g, d, tk, os⟩ := s
    obtain ⟨hl, h⟩ := h
    have f1 := AutoSeq1.idx_int
    have c1 : (items.isEmpty || (1 : Int) == 1) = true := by rw [Bool.or_eq_true]; exact .inr rfl
    wp_walk using AutoSeq1.wpAny_loadPart' hl
    repeat (first
      | (refine wpAny_ite_false (decide_eq_false (by decide)) ?_; wp_walk using AutoSeq1.wpAny_loadPart' hl)
      | (refine wpAny_ite_true (decide_eq_true c1) ?_; wp_walk using AutoSeq1.wpAny_loadPart' hl))
    exact ⟨_, rfl, h⟩
def rRepT1 (K : PySem.W.Frag) : R2 := fun x y H Q => ∃ (l : Addr) (k : Nat) (xs : List V), x = .ref l ∧ y = .int (k : Int) ∧ SqT K H l xs ∧ xs ≠ [] ∧ 1 ≤ k ∧ k ≤ 1000 ∧ xs.length ≤ 1000 ∧ (k = 1 → Q (.ref l) H) ∧ ∀ p, H p = none → Q (.ref p) (upd H p (.tup (List.replicate k xs).flatten))
theorem op_repT1 {X : Cx} : OpR X (binaryOp .Mult) (rRepT1 X.K) := by
  intro pins s σ H x y v u Q I rx ry h
  obtain ⟨l, k, xs, rfl, rfl, hT, hne, h1, h2, hz, q1, q⟩ := h
  by_cases e : k = 1
  · subst e
    cases rx
    obtain ⟨t, rfl⟩ := ry
    obtain ⟨its, r, ⟨⟨cls, dd, data, sl⟩, ho, hc, n, hd⟩, hs⟩ := I.tuple hT
    simp only at hc hd
    subst hc hd
    exact wpAny_binaryOp_repeat_ref (T := "tuple") (U := "int") (by decide) ⟨_, ho, rfl⟩ (fun s' => typeIs_int s' ((1 : Nat) : Int) t) noFill_tuple_mul F.fills_int_mul F.slot_int_rmul repeat_tuple F.slot_int_index.lookup
      (call_meets F.slot_int_rmul (typeIs_int s ((1 : Nat) : Int) t) F.entry_int_rmul (F.args_int_rmul_2 _ _) (int_rmul_tuple ((1 : Nat) : Int) t l its.toArray n dd sl)
        ⟨ho, rfl, ⟨_, ho, rfl⟩, call_meets F.slot_tuple_mul ⟨_, ho, rfl⟩ F.entry_tuple_mul (F.args_tuple_mul_2 _ _) (tuple_mul1 l its.toArray n dd sl t) ⟨ho, .ref l, H, I, rfl, q1 rfl⟩⟩)
  · exact op_repT pins s σ H _ _ v u Q I rx ry ⟨l, k, xs, rfl, rfl, hT, hne, by omega, by omega, hz, fun p np => by rw [Int.toNat_natCast]; exact q p np⟩
end KW
/-! Machines as objects and plainly; words read along them. No row. -/
namespace KM
open PySem PySem.Spec PyProof.Rows L2 GL KC KW
/-! ### machines and words, plainly -/
abbrev Rows := List (List (Option Nat))
def stepM (rows : Rows) (s j : Nat) : Option Nat := (rows.getD s []).getD j none
def run (rows : Rows) : Nat → List Nat → Option Nat
  | s, [] => some s
  | s, j :: w => match stepM rows s j with
    | none => none
    | some t => run rows t w
def isOf (rows : Rows) (ends : List Bool) (w : List Nat) : Bool := match run rows 0 w with
  | none => false
  | some s => ends.getD s false
theorem run_append (rows : Rows) : ∀ (w : List Nat) (s : Nat) (u : List Nat), run rows s (w ++ u) = (run rows s w).bind fun t => run rows t u
  | [], s, u => rfl
  | j :: w, s, u => by
    show (match stepM rows s j with | none => none | some t => run rows t (w ++ u)) = (match stepM rows s j with | none => none | some t => run rows t w).bind _
    cases stepM rows s j with
    | none => rfl
    | some t => exact run_append rows w t u
/-- n rows of l items each, below n; n ends -/
structure WF (l n : Nat) (rows : Rows) (ends : List Bool) : Prop where
  l1 : 1 ≤ l
  l4 : l ≤ 4
  n1 : 1 ≤ n
  n4 : n ≤ 400
  rl : rows.length = n
  el : ends.length = n
  rw : ∀ r ∈ rows, r.length = l ∧ ∀ k, some k ∈ r → k < n
theorem WF.row {l n : Nat} {rows : Rows} {ends : List Bool} (W : WF l n rows ends) {s : Nat} (hs : s < n) : ∃ r, rows[s]? = some r ∧ r.length = l ∧ (∀ k, some k ∈ r → k < n) ∧ ∀ j, stepM rows s j = r.getD j none := by
  have hl : s < rows.length := by rw [W.rl]; exact hs
  refine ⟨rows[s], List.getElem?_eq_getElem hl, (W.rw _ (List.getElem_mem hl)).1, (W.rw _ (List.getElem_mem hl)).2, fun j => ?_⟩
  simp [stepM, List.getD_eq_getElem?_getD, List.getElem?_eq_getElem hl]
theorem WF.step_lt {l n : Nat} {rows : Rows} {ends : List Bool} (W : WF l n rows ends) {s j t : Nat} (hs : s < n) (h : stepM rows s j = some t) : t < n := by
  obtain ⟨r, _, _, r3, r4⟩ := W.row hs
  rw [r4, List.getD_eq_getElem?_getD] at h
  cases e : r[j]? with
  | none => rw [e] at h; cases h
  | some o =>
    rw [e] at h
    have h' : o = some t := h
    subst h'
    exact r3 t (List.mem_of_getElem? e)
def oV : Option Nat → V
  | none => .non
  | some k => .int k
structure MachAt (H : Hp) (p : Addr) (l : Nat) (rows : Rows) (ends : List Bool) : Prop where
  ex : ∃ (pr pe : Addr) (rvs : List V), H p = some (.tup [.int l, .ref pr, .ref pe]) ∧ H pr = some (.tup rvs) ∧ H pe = some (.tup (ends.map V.bl)) ∧ rvs.length = rows.length ∧
    ∀ (i : Nat) (r : List (Option Nat)), rows[i]? = some r → ∃ t : Addr, rvs[i]? = some (V.ref t) ∧ H t = some (.tup (r.map oV))
theorem MachAt.same {H H' : Hp} {p : Addr} {l : Nat} {rows : Rows} {ends : List Bool} (M : MachAt H p l rows ends) (s : Same H H') : MachAt H' p l rows ends := by
  obtain ⟨pr, pe, rvs, h1, h2, h3, h4, h5⟩ := M.ex
  exact ⟨pr, pe, rvs, s _ _ h1, s _ _ h2, s _ _ h3, h4, fun i r e => let ⟨t, a, b⟩ := h5 i r e; ⟨t, a, s _ _ b⟩⟩
def oL : Option Nat → List V
  | none => []
  | some s => [.int s]
theorem filter1_pos {p : V → Bool} {x : V} (h : p x = true) : List.filter p [x] = [x] := by simp [h]
theorem filter1_neg {p : V → Bool} {x : V} (h : ¬ p x = true) : List.filter p [x] = [] := by simp [h]
def fS (rows : Rows) (j : Nat) : V → V
  | .int st => oV (stepM rows st.toNat j)
  | _ => .non
def eS (ends : List Bool) : V → Bool
  | .int st => ends.getD st.toNat false
  | _ => false
theorem oL_mem {o : Option Nat} {x : V} (h : x ∈ oL o) : ∃ st, o = some st ∧ x = .int st := by
  cases o with
  | none => cases h
  | some st => exact ⟨st, rfl, List.mem_singleton.mp h⟩
theorem oL_len (o : Option Nat) : (oL o).length ≤ 1 := by
  cases o with
  | none => exact Nat.zero_le _
  | some st => exact Nat.le_refl _
theorem oL_step (rows : Rows) (j : Nat) (o : Option Nat) : ((oL o).map (fS rows j)).filter (fun v => !decide (v = .non)) = oL (o.bind fun st => stepM rows st j) := by
  cases o with
  | none => rfl
  | some st =>
    show ([oV (stepM rows st j)] : List V).filter _ = oL (stepM rows st j)
    cases stepM rows st j with
    | none => rfl
    | some t => rfl
theorem oL_end (ends : List Bool) (o : Option Nat) : (!((oL o).filter (eS ends)).isEmpty) = (match o with | none => false | some s => ends.getD s false) := by
  cases o with
  | none => rfl
  | some st =>
    show (!(([V.int (st : Int)] : List V).filter (eS ends)).isEmpty) = ends.getD st false
    have e : eS ends (V.int (st : Int)) = ends.getD st false := rfl
    cases z : ends.getD st false with
    | true => rw [List.filter_cons_of_pos (by rw [e, z])]; rfl
    | false => rw [List.filter_cons_of_neg (by rw [e, z]; exact Bool.false_ne_true)]; rfl
def conv : PyData → Option Nat
  | .int i => some i.toNat
  | _ => none
def rowOf : PyData → List (Option Nat)
  | .tuple xs => xs.map conv
  | _ => []
theorem conv_all {K : PySem.W.Frag} {H : Hp} {n : Nat} : ∀ {xs : List PyData} {ws : List V}, DtAll K H ws xs → (∀ x ∈ xs, x = .none ∨ ∃ i : Int, x = .int i ∧ 0 ≤ i ∧ i < n) → ws = (xs.map conv).map oV ∧ ∀ k, some k ∈ xs.map conv → k < n
  | _, _, .nil, _ => ⟨rfl, fun k h => nomatch h⟩
  | _, _, .cons (d := x) a r, hx => by
    obtain ⟨e1, e2⟩ := conv_all r fun y hy => hx y (List.mem_cons_of_mem _ hy)
    rcases hx x List.mem_cons_self with rfl | ⟨i, rfl, i0, i1⟩
    · cases a
      refine ⟨by rw [e1]; rfl, fun k hk => ?_⟩
      rcases List.mem_cons.mp hk with h | h
      · cases h
      · exact e2 k h
    · cases a
      refine ⟨?_, fun k hk => ?_⟩
      · rw [e1]
        show V.int i :: _ = V.int ((i.toNat : Nat) : Int) :: _
        rw [Int.toNat_of_nonneg i0]
      · rcases List.mem_cons.mp hk with h | h
        · have : k = i.toNat := Option.some.inj h
          omega
        · exact e2 k h
theorem bools_are {K : PySem.W.Frag} {H : Hp} : ∀ {bs : List Bool} {ws : List V}, DtAll K H ws (bs.map PyData.bool) → ws = bs.map V.bl
  | [], _, h => by cases h; rfl
  | b :: bs, _, h => by
    cases h with
    | cons a r =>
      cases a
      rw [bools_are r]
      rfl
theorem mach_of {K : PySem.W.Frag} {H : Hp} {p : Addr} {l n : Nat} {md : PyData} (im : IsMach l n md) (h : Dt K H (.ref p) md) (l1 : 1 ≤ l) (l4 : l ≤ 4) (n1 : 1 ≤ n) (n4 : n ≤ 400) : ∃ rows ends, MachAt H p l rows ends ∧ WF l n rows ends := by
  obtain ⟨rs, bs, rfl, i1, i2, i3⟩ := im
  cases h with
  | @tup _ us _ hp hus =>
  match us, hus with
  | [_, _, _], .cons a1 (.cons a2 (.cons a3 .nil)) =>
    cases a1
    cases a2 with
    | @tup pr rvs _ hpr hrs =>
    cases a3 with
    | @tup pe ws _ hpe hws =>
    have we := bools_are hws
    subst we
    refine ⟨rs.map rowOf, bs, ⟨pr, pe, rvs, hp, hpr, hpe, by rw [List.length_map]; exact hrs.length, fun i r hr => ?_⟩, ⟨l1, l4, n1, n4, by rw [List.length_map]; exact i1, i2, fun r hr => ?_⟩⟩
    · rw [List.getElem?_map] at hr
      cases e : rs[i]? with
      | none => rw [e] at hr; cases hr
      | some x =>
        rw [e] at hr
        cases hr
        obtain ⟨xs, rfl, x1, x2⟩ := i3 x (List.mem_of_getElem? e)
        have il : i < rvs.length := by rw [hrs.length]; exact (List.getElem?_eq_some_iff.mp e).1
        obtain ⟨v, hv⟩ : ∃ v, rvs[i]? = some v := ⟨_, List.getElem?_eq_getElem il⟩
        obtain ⟨dd, d1, d2⟩ := hrs.get hv
        rw [e] at d1
        cases d1
        cases d2 with
        | @tup t ws2 _ ht hts =>
          obtain ⟨c1, _⟩ := conv_all hts x2
          exact ⟨t, hv, by rw [ht, c1]; rfl⟩
    · obtain ⟨x, hx, rfl⟩ := List.mem_map.mp hr
      obtain ⟨xs, rfl, x1, x2⟩ := i3 x hx
      refine ⟨by show (xs.map conv).length = l; rw [List.length_map]; exact x1, ?_⟩
      -- the items, below n
      intro k hk
      obtain ⟨y, hy, e⟩ := List.mem_map.mp hk
      rcases x2 y hy with rfl | ⟨i, rfl, j0, j1⟩
      · cases e
      · have : i.toNat = k := Option.some.inj e
        omega
def tw (ws : List (List Nat)) : List V := ws.map fun u => V.str (wS u)
theorem tw_len (ws : List (List Nat)) : (tw ws).length = ws.length := List.length_map _
theorem tw_app (ws : List (List Nat)) (u : List Nat) : tw ws ++ [V.str (wS u)] = tw (ws ++ [u]) := by unfold tw; rw [List.map_append]; rfl
def spIs : Sp := fun vs H Q _ => ∃ (p : Addr) (l n : Nat) (rows : Rows) (ends : List Bool) (w : List Nat), vs = [.ref p, .str (wS w)] ∧ MachAt H p l rows ends ∧ WF l n rows ends ∧ (∀ j ∈ w, j < l) ∧ ∀ G, Same H G → Q (.bl (isOf rows ends w)) G
theorem pe_ixT {X : Cx} {a b : Expr} {ta tb : TE} {pos : Pos} (ha : PE X a ta) (hb : PE X b tb) (hs : PlainIx b) : PE X (.Subscript a b pos) (tOp (rIxT X.K) ta tb) := pe_ix ix_tup ha hb hs
end KM
/-! All texts of a length; signed counts of words by texts and from the ends backward. No row. -/
namespace KM
open PySem PySem.Spec PyProof.Rows L2 GL KC KW
def texts (l : Nat) : Nat → List (List Nat)
  | 0 => [[]]
  | n + 1 => (texts l n).flatMap fun w => (List.range l).map fun j => w ++ [j]
theorem sum_app (a b : List Int) : (a ++ b).sum = a.sum + b.sum := by
  induction a with
  | nil => simp
  | cons x a ih => simp only [List.cons_append, List.sum_cons, ih]; omega
theorem sum_flat {α β : Type} (f : β → Int) (g : α → List β) : ∀ L : List α, ((L.flatMap g).map f).sum = (L.map fun x => ((g x).map f).sum).sum
  | [] => rfl
  | x :: L => by
    rw [List.flatMap_cons, List.map_append, sum_app, sum_flat f g L]
    rfl
theorem texts_head (l : Nat) : ∀ (n : Nat) (f : List Nat → Int), ((texts l (n + 1)).map f).sum = ((List.range l).map fun j => ((texts l n).map fun u => f (j :: u)).sum).sum
  | 0, f => by
    show (((([[]] : List (List Nat)).flatMap fun w => (List.range l).map fun j => w ++ [j])).map f).sum = _
    rw [sum_flat]
    show ((((List.range l).map fun j => ([] : List Nat) ++ [j]).map f).sum + 0) = _
    rw [Int.add_zero, List.map_map]
    congr 1
    refine List.map_congr_left fun j _ => ?_
    show f [j] = f [j] + 0
    rw [Int.add_zero]
  | n + 1, f => by
    show ((((texts l (n + 1)).flatMap fun w => (List.range l).map fun j => w ++ [j])).map f).sum = _
    rw [sum_flat, texts_head l n]
    congr 1
    refine List.map_congr_left fun i _ => ?_
    show _ = ((((texts l n).flatMap fun w => (List.range l).map fun j => w ++ [j])).map fun u => f (i :: u)).sum
    rw [sum_flat]
    congr 1
    refine List.map_congr_left fun u _ => ?_
    rw [List.map_map, List.map_map]
    rfl
theorem texts_len (l : Nat) : ∀ n, (texts l n).length = l ^ n
  | 0 => rfl
  | n + 1 => by
    have h : ∀ L : List (List Nat), (L.flatMap fun w => (List.range l).map fun j => w ++ [j]).length = L.length * l := by
      intro L
      induction L with
      | nil => simp
      | cons x L ih => rw [List.flatMap_cons, List.length_append, ih, List.length_map, List.length_range, List.length_cons, Nat.succ_mul]; omega
    show ((texts l n).flatMap _).length = _
    rw [h, texts_len l n, Nat.pow_succ]
theorem texts_ok (l : Nat) : ∀ n w, w ∈ texts l n → w.length = n ∧ ∀ j ∈ w, j < l
  | 0, w, h => by
    rw [List.mem_singleton.mp h]
    exact ⟨rfl, fun j hj => nomatch hj⟩
  | n + 1, w, h => by
    obtain ⟨u, hu, hw⟩ := List.mem_flatMap.mp h
    obtain ⟨j, hj, rfl⟩ := List.mem_map.mp hw
    obtain ⟨h1, h2⟩ := texts_ok l n u hu
    refine ⟨by rw [List.length_append, h1]; rfl, fun i hi => ?_⟩
    rcases List.mem_append.mp hi with hi | hi
    · exact h2 i hi
    · rw [List.mem_singleton.mp hi]; exact List.mem_range.mp hj
/-- whether a word ends well, from a state on -/
def okF (rows : Rows) (ends : List Bool) (s : Nat) (w : List Nat) : Bool := match run rows s w with
  | none => false
  | some t => ends.getD t false
theorem okF_of (rows : Rows) (ends : List Bool) (w : List Nat) : okF rows ends 0 w = isOf rows ends w := rfl
theorem okF_cons (rows : Rows) (ends : List Bool) (s j : Nat) (w : List Nat) : okF rows ends s (j :: w) = match stepM rows s j with | none => false | some t => okF rows ends t w := by
  unfold okF
  show (match (match stepM rows s j with | none => none | some t => run rows t w) with | none => false | some t => ends.getD t false) = _
  cases stepM rows s j <;> rfl
def sj (bs : List Bool) (j : Nat) : Int := if bs.getD j false then -1 else 1
theorem sgn_cons (bs : List Bool) (j : Nat) (w : List Nat) : sgn bs (j :: w) = sj bs j * sgn bs w := rfl
/-- the signed count from a state on -/
def cnt (l : Nat) (rows : Rows) (ends : List Bool) (bs : List Bool) : Nat → Nat → Int
  | 0, s => if ends.getD s false then 1 else 0
  | n + 1, s => ((List.range l).map fun j => match stepM rows s j with | none => 0 | some t => sj bs j * cnt l rows ends bs n t).sum
theorem mul_sum {α : Type} (c : Int) (f : α → Int) : ∀ L : List α, c * (L.map f).sum = (L.map fun x => c * f x).sum
  | [] => by simp
  | x :: L => by
    simp only [List.map_cons, List.sum_cons, Int.mul_add, mul_sum c f L]
theorem zero_sum {α : Type} : ∀ L : List α, (L.map fun _ => (0 : Int)).sum = 0
  | [] => rfl
  | x :: L => by simp only [List.map_cons, List.sum_cons, zero_sum L, Int.add_zero]
theorem cnt_texts (l : Nat) (rows : Rows) (ends : List Bool) (bs : List Bool) : ∀ n s, cnt l rows ends bs n s = ((texts l n).map fun w => if okF rows ends s w then sgn bs w else 0).sum
  | 0, s => by
    show (if ends.getD s false then (1 : Int) else 0) = (if okF rows ends s [] then sgn bs [] else 0) + 0
    rw [Int.add_zero]
    rfl
  | n + 1, s => by
    rw [texts_head]
    show ((List.range l).map _).sum = _
    congr 1
    refine List.map_congr_left fun j _ => ?_
    cases e : stepM rows s j with
    | none =>
      show (0 : Int) = _
      have z : ((texts l n).map fun u => if okF rows ends s (j :: u) then sgn bs (j :: u) else 0) = (texts l n).map fun _ => (0 : Int) := by
        refine List.map_congr_left fun u _ => ?_
        rw [okF_cons, e]
        rfl
      rw [z, zero_sum]
    | some t =>
      show sj bs j * cnt l rows ends bs n t = _
      rw [cnt_texts l rows ends bs n t, mul_sum]
      congr 1
      refine List.map_congr_left fun u _ => ?_
      rw [okF_cons, e]
      show sj bs j * (if okF rows ends t u then sgn bs u else 0) = if okF rows ends t u then sgn bs (j :: u) else 0
      rw [sgn_cons]
      by_cases c : okF rows ends t u = true
      · rw [if_pos c, if_pos c]
      · rw [if_neg c, if_neg c, Int.mul_zero]
theorem filter_sum {α : Type} (p : α → Bool) (f : α → Int) : ∀ L : List α, ((L.filter p).map f).sum = (L.map fun x => if p x then f x else 0).sum
  | [] => rfl
  | x :: L => by
    by_cases c : p x = true
    · rw [List.filter_cons_of_pos c, List.map_cons, List.sum_cons, filter_sum p f L, List.map_cons, List.sum_cons, if_pos c]
    · rw [List.filter_cons_of_neg c, filter_sum p f L, List.map_cons, List.sum_cons, if_neg c, Int.zero_add]
theorem cnt_filter (l : Nat) (rows : Rows) (ends : List Bool) (bs : List Bool) (n : Nat) : (((texts l n).filter (isOf rows ends)).map (sgn bs)).sum = cnt l rows ends bs n 0 := by
  rw [filter_sum, cnt_texts]
  rfl
def pluses (l : Nat) : List Bool := List.replicate l false
theorem one_sum {α : Type} : ∀ L : List α, (L.map fun _ => (1 : Int)).sum = (L.length : Int)
  | [] => rfl
  | x :: L => by
    rw [List.map_cons, List.sum_cons, one_sum L, List.length_cons]
    omega
theorem cnt_len (l : Nat) (rows : Rows) (ends : List Bool) (n : Nat) : (((texts l n).filter (isOf rows ends)).length : Int) = cnt l rows ends (pluses l) n 0 := by
  rw [← cnt_filter, ← one_sum]
  congr 1
  refine List.map_congr_left fun w _ => ?_
  exact (sgn_plus l w).symm
theorem abs_sum_le {α : Type} (f : α → Int) (b : Nat) : ∀ L : List α, (∀ x ∈ L, (f x).natAbs ≤ b) → ((L.map f).sum).natAbs ≤ L.length * b
  | [], _ => Nat.zero_le _
  | x :: L, h => by
    have h1 := h x List.mem_cons_self
    have h2 := abs_sum_le f b L fun y hy => h y (List.mem_cons_of_mem _ hy)
    rw [List.map_cons, List.sum_cons, List.length_cons, Nat.succ_mul]
    have h3 := Int.natAbs_add_le (f x) ((L.map f).sum)
    omega
theorem sj_abs (bs : List Bool) (j : Nat) : (sj bs j).natAbs = 1 := by
  unfold sj
  split <;> rfl
theorem cnt_abs (l : Nat) (rows : Rows) (ends : List Bool) (bs : List Bool) : ∀ n s, (cnt l rows ends bs n s).natAbs ≤ l ^ n
  | 0, s => by
    show (if ends.getD s false then (1 : Int) else 0).natAbs ≤ 1
    split <;> decide
  | n + 1, s => by
    have h := abs_sum_le (fun j => match stepM rows s j with | none => (0 : Int) | some t => sj bs j * cnt l rows ends bs n t) (l ^ n) (List.range l) (fun j _ => by
      cases stepM rows s j with
      | none => exact Nat.zero_le _
      | some t =>
        show (sj bs j * cnt l rows ends bs n t).natAbs ≤ _
        rw [Int.natAbs_mul, sj_abs, Nat.one_mul]
        exact cnt_abs l rows ends bs n t)
    rw [List.length_range] at h
    rw [Nat.pow_succ, Nat.mul_comm]
    exact h
theorem cnt_plus_nn (l : Nat) (rows : Rows) (ends : List Bool) : ∀ n s, 0 ≤ cnt l rows ends (pluses l) n s := fun n s => by
  rw [cnt_texts]
  have h : ∀ L : List (List Nat), 0 ≤ (L.map fun w => if okF rows ends s w then sgn (pluses l) w else 0).sum := by
    intro L
    induction L with
    | nil => exact Int.le_refl _
    | cons w L ih =>
      rw [List.map_cons, List.sum_cons]
      have : 0 ≤ (if okF rows ends s w then sgn (pluses l) w else 0) := by
        split
        · rw [show sgn (pluses l) w = 1 from sgn_plus l w]; decide
        · decide
      omega
  exact h _
end KM
namespace K25
open PySem L2 GL KC
def top (i : Nat) : Stmt := PySem.Challenge.pw_pairedaway_k25_counts.main.body.getD i (.Pass ⟨0, 0, 0, 0⟩)
abbrev sDeck : Stmt := top 31
abbrev sDraw : Stmt := top 32
abbrev sOne : Stmt := top 33
abbrev sMach : Stmt := top 34
section
variable {P : Program} {w : World} {K : PySem.W.Frag} {mg : Str → Option Value} {base : Heap}
theorem scDeck : FnScope ["_law_script", "_law_cell"] ["_law_script"] (defScope sDeck) := ⟨rfl, rfl, rfl, by decide +kernel, rfl, by decide +kernel, by decide +kernel⟩
theorem ok_deck {f : Addr} {fd : FuncData} (F : Fun K "_law_deck" "_law_deck" sDeck f fd) (T : TxC mg) : FnOk P w K mg base CX0 1 f fd ["_law_script"] (spDeck K) := by
  refine F.ok scDeck (fun vs H Q E h => ?_) (fun cdv A outer s H vs Q E hr h => ?_)
  · obtain ⟨a, ns, rfl, _⟩ := h
    rfl
  obtain ⟨a, ns, rfl, hS, hl, q⟩ := h
  refine ⟨_, pss_one (ps_ret (pe_lst (pa_cons (pe_lc (own := [("_law_cell", 1)]) (g := gName 1) (tt := tYes) rfl scDeck.nd (pi_list (pe_slice sl_list (pv 0) po_none (po_some pe_int)))
      (blkOk_by (own := [("_law_cell", 1)]) (N := ["_law_script", "_law_cell"]) (sc := defScope sDeck) (by decide +kernel)) (fun _ _ _ _ _ => pg_name (i := 1) scDeck.nd rfl (Or.inl rfl)) (fun _ _ _ _ _ => pts_nil)
      (fun _ _ _ _ _ => pe_callB call_absS (by rfl) T.abs (by decide +kernel) (pa_cons (pv 1) pa_nil))) (pa_cons pe_int pa_nil)))), ?_⟩
  refine ⟨_, rfl, _, rfl, a, _, rfl, hS, fun p np => ?_⟩
  have isI : ∀ x ∈ cutV (ns.map V.int) none (some 63), ∃ i : Int, x = .int i := fun x hx => by
    obtain ⟨i, _, e⟩ := List.mem_map.mp (cut_mem hx)
    exact ⟨i, e.symm⟩
  have ll : (cutV (ns.map V.int) none (some 63)).length ≤ 63 := by
    have := cutV_length (ns.map V.int) none (some 63)
    rw [List.length_map] at this
    omega
  generalize cutV (ns.map V.int) none (some 63) = xs at isI ll
  have sp : Same H (upd H p (.lst xs)) := same_new np _
  refine ⟨p, rfl, ⟨_, .inl (.inl upd_same)⟩, fun L nL => lc_list (K := K) (a := p) (xs := xs) (fun i G => Same (upd H p (.lst xs)) G ∧ ∃ ys : List Int, G L = some (.lst (ys.map V.int)) ∧ ys.length = i ∧ ∀ y ∈ ys, 0 ≤ y)
    ⟨same_new nL _, [], upd_same, rfl, fun y z => nomatch z⟩ (fun i G _ h => .inl (.inl (h.1 _ _ upd_same))) (fun i x G hx h => ?_) fun G h => ?_⟩
  · obtain ⟨s1, ys, y1, y2, y3⟩ := h
    obtain ⟨z, rfl⟩ := isI x (List.mem_of_getElem? hx)
    have il : i < xs.length := (List.getElem?_eq_some_iff.mp hx).1
    refine ⟨rfl, _, rfl, z, rfl, _, y1, by rw [List.length_map, y2]; show i < 2 ^ 24; omega, same_grow nL s1 _, ys ++ [if z < 0 then -z else z], by rw [upd_same, List.map_append]; rfl, by rw [List.length_append, y2]; rfl, ?_⟩
    intro y hy
    rcases List.mem_append.mp hy with hy | hy
    · exact y3 y hy
    · rw [List.mem_singleton.mp hy]
      split <;> omega
  · obtain ⟨s1, ys, y1, y2, y3⟩ := h
    refine ⟨by show 2 ≤ 2 ^ 24; decide, fun d nd => ?_⟩
    have sG : Same H G := sp.trans s1
    have ndL : d ≠ L := fun e => by rw [e, y1] at nd; cases nd
    have nHL : H L = none := sp.free nL
    refine q d L _ (sG.trans (same_new nd _)) (sG.free nd) nHL ⟨ndL, ys, 0, upd_same, by rw [upd_ne ndL.symm]; exact y1, by omega, y3, Nat.le_refl _⟩
theorem scDraw : FnScope ["_law_deck_here", "_law_many", "_law_cell", "_law_at", "_law_mixed"] ["_law_deck_here", "_law_many"] (defScope sDraw) := ⟨rfl, rfl, rfl, by decide +kernel, rfl, by decide +kernel, by decide +kernel⟩
theorem ok_draw {f : Addr} {fd : FuncData} (F : Fun K "_law_draw" "_law_draw" sDraw f fd) (T : TxC mg) : FnOk P w K mg base CX0 1 f fd ["_law_deck_here", "_law_many"] spDraw := by
  refine F.ok scDraw (fun vs H Q E h => ?_) (fun cdv A outer s H vs Q E hr h => ?_)
  · obtain ⟨d, c, many, m, rfl, _⟩ := h
    rfl
  obtain ⟨d, c, many, m, rfl, D, hm, p1, p2, q⟩ := h
  refine ⟨_, pss_cons (ps_asg (pe_op op_add (pe_ix ix_list (pv 0) pe_int (fun _ _ => rfl)) pe_int) (pg_sub (pv 0) pe_int set_list))
    (pss_cons (ps_asg (pe_tup (pa_cons pe_int (pa_cons (pe_un un_neg pe_int) pa_nil))) (pg_tup (by rfl) (pgs_cons (pg_name (i := 2) scDraw.nd rfl (Or.inl rfl)) (pgs_cons (pg_name (i := 3) scDraw.nd rfl (Or.inl rfl)) pgs_nil))))
    (pss_cons (ps_if (pt_cmpR op_gt (pe_callB call_len_seq (by rfl) T.len PySem.boot_len (pa_cons (pe_ix ix_list (pv 0) pe_int (fun _ _ => rfl)) pa_nil)) pe_int (nomark _))
      (pss_cons (ps_set (i := 3) scDraw.nd rfl (Or.inl rfl) (pe_op op_mod (pe_callTy call_int1 (by rfl) T.int (by decide +kernel) (pa_cons (pe_ix ix_list (pv 0) pe_int (fun _ _ => rfl)) pa_nil)) (pe_callB call_len_seq (by rfl) T.len PySem.boot_len (pa_cons (pe_ix ix_list (pv 0) pe_int (fun _ _ => rfl)) pa_nil))))
      (pss_one (ps_set (i := 2) scDraw.nd rfl (Or.inl rfl) (pe_ix ix_list (pe_ix ix_list (pv 0) pe_int (fun _ _ => rfl)) (pv 3) (fun _ _ => rfl))))) pss_nil)
    (pss_cons (ps_if (pt_cmpR op_ge (pv 2) (pe_op op_pow pe_int pe_int) (nomark _))
      (pss_cons (ps_asg (pe_op op_fdiv (pe_callTy call_int1 (by rfl) T.int (by decide +kernel) (pa_cons (pv 2) pa_nil)) (pv 1)) (pg_sub (pe_ix ix_list (pv 0) pe_int (fun _ _ => rfl)) (pv 3) set_list))
      (pss_one (ps_ret (pe_op op_mod (pe_callTy call_int1 (by rfl) T.int (by decide +kernel) (pa_cons (pv 2) pa_nil)) (pv 1))))) pss_nil)
    (pss_cons (ps_set (i := 4) scDraw.nd rfl (Or.inl rfl) (pe_op op_add (pe_op op_add (pe_op op_mod (pe_callTy call_int1 (by rfl) T.int (by decide +kernel) (pa_cons (pv 2) pa_nil)) pe_int) (pe_op op_mul pe_int (pe_ix ix_list (pv 0) pe_int (fun _ _ => rfl)))) pe_int))
    (pss_one (ps_ret (pe_op op_mod (pe_callTy call_int1 (by rfl) T.int (by decide +kernel) (pa_cons (pe_op op_mod (pe_callTy call_int1 (by rfl) T.int (by decide +kernel) (pa_cons (pe_op op_pow (pv 4) pe_int) pa_nil)) pe_int) pa_nil)) (pv 1)))))))), ?_⟩
  obtain ⟨ne, L, n, h1, h2, h3, h4, h5⟩ := D
  -- the count goes up
  refine ⟨_, rfl, d, _, 1, .int n, rfl, rfl, .inl (.inl h1), rfl, _, _, rfl, rfl, _, rfl, d, _, 1, 1, rfl, rfl, h1, rfl, ?_⟩
  have e1 : (List.set [V.ref c, V.int n] 1 (V.int ((n : Int) + 1))) = [.ref c, .int ((n + 1 : Nat) : Int)] := rfl
  rw [e1]
  have g1 : upd H d (.lst [.ref c, .int ((n + 1 : Nat) : Int)]) d = some (.lst [.ref c, .int ((n + 1 : Nat) : Int)]) := upd_same
  have g2 : upd H d (.lst [.ref c, .int ((n + 1 : Nat) : Int)]) c = some (.lst (L.map V.int)) := by rw [upd_ne ne.symm]; exact h2
  have sH : Same (Hd d c H) (Hd d c (upd H d (.lst [.ref c, .int ((n + 1 : Nat) : Int)]))) := hd_put (.inl rfl) _
  generalize upd H d (.lst [.ref c, .int ((n + 1 : Nat) : Int)]) = H1 at g1 g2 sH
  have D1 : Deck H1 d c (m + 1) := ⟨ne, L, n + 1, g1, g2, h3, h4, Nat.succ_le_succ h5⟩
  -- the cell and its place
  refine ⟨_, rfl, by show 2 ≤ 2 ^ 24; decide, fun p np => ?_⟩
  replace sH := sH.trans (hd_new np (.tup [V.int 0, V.int (-1)]))
  have gt : upd H1 p (.tup [V.int 0, V.int (-1)]) p = some (.tup [V.int 0, V.int (-1)]) := upd_same
  replace g1 := same_new np (.tup [V.int 0, V.int (-1)]) _ _ g1
  replace g2 := same_new np (.tup [V.int 0, V.int (-1)]) _ _ g2
  replace D1 := D1.new np (.tup [V.int 0, V.int (-1)])
  generalize upd H1 p (.tup [V.int 0, V.int (-1)]) = H2 at sH gt g1 g2 D1
  refine ⟨p, _, rfl, .inl (.inl gt), rfl, _, _, rfl, _, _, rfl, rfl, ?_⟩
  refine ⟨_, rfl, d, _, 0, _, rfl, rfl, .inl (.inl g1), rfl, c, _, rfl, .inl (.inl (.inl g2)), _, _, rfl, rfl, _, rfl, ?_⟩
  have hL : ((L.map V.int).length : Int) = (L.length : Int) := by rw [List.length_map]
  refine ite2 (fun c0 => ?_) (fun c0 => ?_)
  · have lp : 0 < L.length := by have := of_decide_eq_true c0; rw [hL] at this; omega
    have k0 : 0 ≤ ((n + 1 : Nat) : Int) % ((L.map V.int).length : Int) := Int.emod_nonneg _ (by rw [hL]; omega)
    have k1 : ((n + 1 : Nat) : Int) % ((L.map V.int).length : Int) < (L.length : Int) := by
      have := Int.emod_lt_of_pos ((n + 1 : Nat) : Int) (b := ((L.map V.int).length : Int)) (by rw [hL]; omega)
      rw [hL] at this ⊢
      exact this
    have hk : ∀ z : Int, (10 : Int) ^ (18 : Int).toNat ≤ z → ∃ j, ixN (L.map V.int).length (((n + 1 : Nat) : Int) % ((L.map V.int).length : Int)) = some j ∧ j < L.length := fun _ _ => ⟨_, by unfold ixN; rw [if_pos k0, if_pos (by omega)], by omega⟩
    obtain ⟨j0, ej⟩ : ∃ j : Nat, ((n + 1 : Nat) : Int) % ((L.map V.int).length : Int) = (j : Int) := ⟨_, (Int.toNat_of_nonneg k0).symm⟩
    have jl : j0 < L.length := by rw [ej] at k1; omega
    obtain ⟨z, hz0⟩ : ∃ z, L[j0]? = some z := ⟨_, List.getElem?_eq_getElem jl⟩
    have hz : 0 ≤ z := h4 _ (List.mem_of_getElem? hz0)
    replace hk := hk z
    refine ⟨_, rfl, d, _, 1, _, rfl, rfl, .inl (.inl g1), rfl, .inl ⟨_, rfl, ?_⟩⟩
    refine ⟨_, rfl, d, _, 0, _, rfl, rfl, .inl (.inl g1), rfl, c, _, rfl, .inl (.inl (.inl g2)), _, _, rfl, rfl, (by rw [hL]; show (0 : Int) < L.length; omega), ?_⟩
    refine ⟨_, rfl, d, _, 0, _, rfl, rfl, .inl (.inl g1), rfl, _, rfl, c, _, _, _, rfl, rfl, .inl (.inl g2), at_of ej (by rw [List.getElem?_map, hz0]; rfl), ?_⟩
    refine ⟨_, rfl, _, _, rfl, rfl, ⟨by decide, by decide, by decide⟩, _, _, rfl, rfl, _, rfl, ite2 (fun c1 => ?_) (fun c1 => ?_)⟩
    · obtain ⟨j, hj, hj2⟩ := hk (of_decide_eq_true c1)
      refine ⟨_, rfl, .inl ⟨_, rfl, _, rfl, _, _, rfl, rfl, ⟨p1, p2⟩, _, rfl, d, _, 0, _, rfl, rfl, .inl (.inl g1), rfl, _, rfl, c, _, _, j, rfl, rfl, g2, hj, ?_⟩⟩
      refine ⟨_, rfl, .inl ⟨_, rfl, _, rfl, _, _, rfl, rfl, p1, ?_⟩⟩
      refine q _ _ (Int.emod_nonneg _ (by omega)) (Int.emod_lt_of_pos _ p1) ⟨ne, L.set j (z / many), n + 1, ?_, ?_, ?_, ?_, Nat.succ_le_succ h5⟩ (sH.trans (hd_put (.inr rfl) _))
      · rw [upd_ne ne]; exact g1
      · rw [upd_same, List.map_set]
      · rw [List.length_set]; exact h3
      · intro x hx
        rcases List.mem_or_eq_of_mem_set hx with hx | hx
        · exact h4 x hx
        · rw [hx]; exact Int.ediv_nonneg hz (by omega)
    · have b1 : 0 ≤ z % 2147483563 := Int.emod_nonneg _ (by decide)
      have b2 : z % 2147483563 < 2147483563 := Int.emod_lt_of_pos _ (by decide)
      refine ⟨_, rfl, .inl ⟨_, rfl, _, _, rfl, rfl, by show (0 : Int) < 2147483563; decide, _, rfl, d, _, 1, _, rfl, rfl, .inl (.inl g1), rfl, _, _, rfl, rfl, .inl ⟨by decide, by decide⟩, _, _, rfl, rfl, _, _, rfl, rfl, ?_⟩⟩
      refine ⟨_, rfl, _, _, rfl, rfl, ⟨by decide, by decide, ?_⟩, .inl ⟨_, rfl, _, _, rfl, rfl, by show (0 : Int) < 2147483629; decide, .inl ⟨_, rfl, _, rfl, _, _, rfl, rfl, p1, ?_⟩⟩⟩
      · show (z % 2147483563 + 8117 * ((n + 1 : Nat) : Int) + 3).natAbs < 2 ^ 64
        omega
      · exact q _ _ (Int.emod_nonneg _ (by omega)) (Int.emod_lt_of_pos _ p1) D1 sH
  · have hz : (0 : Int) ≤ 0 := Int.le_refl 0
    have hk : (10 : Int) ^ (18 : Int).toNat ≤ 0 → ∃ j, ixN (L.map V.int).length (-1) = some j ∧ j < L.length := fun h => absurd h (by decide)
    refine ⟨_, rfl, _, _, rfl, rfl, ⟨by decide, by decide, by decide⟩, _, _, rfl, rfl, _, rfl, ite2 (fun c1 => ?_) (fun c1 => ?_)⟩
    · obtain ⟨j, hj, hj2⟩ := hk (of_decide_eq_true c1)
      refine ⟨_, rfl, .inl ⟨_, rfl, _, rfl, _, _, rfl, rfl, ⟨p1, p2⟩, _, rfl, d, _, 0, _, rfl, rfl, .inl (.inl g1), rfl, _, rfl, c, _, _, j, rfl, rfl, g2, hj, ?_⟩⟩
      refine ⟨_, rfl, .inl ⟨_, rfl, _, rfl, _, _, rfl, rfl, p1, ?_⟩⟩
      refine q _ _ (Int.emod_nonneg _ (by omega)) (Int.emod_lt_of_pos _ p1) ⟨ne, L.set j ((0 : Int) / many), n + 1, ?_, ?_, ?_, ?_, Nat.succ_le_succ h5⟩ (sH.trans (hd_put (.inr rfl) _))
      · rw [upd_ne ne]; exact g1
      · rw [upd_same, List.map_set]
      · rw [List.length_set]; exact h3
      · intro x hx
        rcases List.mem_or_eq_of_mem_set hx with hx | hx
        · exact h4 x hx
        · rw [hx]; exact Int.ediv_nonneg hz (by omega)
    · have b1 : 0 ≤ (0 : Int) % 2147483563 := Int.emod_nonneg _ (by decide)
      have b2 : (0 : Int) % 2147483563 < 2147483563 := Int.emod_lt_of_pos _ (by decide)
      refine ⟨_, rfl, .inl ⟨_, rfl, _, _, rfl, rfl, by show (0 : Int) < 2147483563; decide, _, rfl, d, _, 1, _, rfl, rfl, .inl (.inl g1), rfl, _, _, rfl, rfl, .inl ⟨by decide, by decide⟩, _, _, rfl, rfl, _, _, rfl, rfl, ?_⟩⟩
      refine ⟨_, rfl, _, _, rfl, rfl, ⟨by decide, by decide, ?_⟩, .inl ⟨_, rfl, _, _, rfl, rfl, by show (0 : Int) < 2147483629; decide, .inl ⟨_, rfl, _, rfl, _, _, rfl, rfl, p1, ?_⟩⟩⟩
      · show ((0 : Int) % 2147483563 + 8117 * ((n + 1 : Nat) : Int) + 3).natAbs < 2 ^ 64
        omega
      · exact q _ _ (Int.emod_nonneg _ (by omega)) (Int.emod_lt_of_pos _ p1) D1 sH
end
section
variable {P : Program} {w : World} {K : PySem.W.Frag} {mg : Str → Option Value} {base : Heap}
theorem scOne : FnScope ["_law_deck_here", "_law_items"] ["_law_deck_here", "_law_items"] (defScope sOne) := ⟨rfl, rfl, rfl, by decide +kernel, rfl, by decide +kernel, by decide +kernel⟩
theorem ok_one {f fD : Addr} {fd fdD : FuncData} (F : Fun K "_law_one" "_law_one" sOne f fd) (T : TxC mg) (W : Dfn P w K mg base "_law_draw" 1 fD fdD ["_law_deck_here", "_law_many"] spDraw) :
    FnOk P w K mg base CX0 2 f fd ["_law_deck_here", "_law_items"] spOne := by
  refine F.ok scOne (fun vs H Q E h => ?_) (fun cdv A outer s H vs Q E hr h => ?_)
  · obtain ⟨d, c, a, xs, m, rfl, _⟩ := h
    rfl
  obtain ⟨d, c, a, xs, m, rfl, D, hm, ha, x0, x1, q⟩ := h
  refine ⟨_, pss_one (ps_ret (pe_ix ix_list (pv 1) (pe_call W.ok hr rfl W.m W.kp W.b .nil pass0 (pa_cons (pv 0) (pa_cons (pe_callB call_len_seq (by rfl) T.len PySem.boot_len (pa_cons (pv 1) pa_nil)) pa_nil))) (fun _ _ => rfl))), ?_⟩
  refine ⟨_, rfl, _, rfl, _, rfl, a, xs, rfl, .inl (.inl (.inl (hd_sub _ _ ha))), d, c, xs.length, m, rfl, D, hm, by omega, by omega, fun r G r0 r1 D2 s2 => ?_⟩
  obtain ⟨j, rfl⟩ : ∃ j : Nat, r = (j : Int) := ⟨r.toNat, by omega⟩
  have jl : j < xs.length := by omega
  obtain ⟨v, hv⟩ : ∃ v, xs[j]? = some v := ⟨_, List.getElem?_eq_getElem jl⟩
  exact ⟨a, xs, _, v, rfl, rfl, .inl (.inl (hd_sub _ _ (s2 _ _ ha))), atI_nat hv, q v G (List.mem_of_getElem? hv) D2 s2⟩

theorem scMach : FnScope ["_law_deck_here", "_law_letters", "_law_many", "_law_none", "_law_rows", "_law_k", "_law_row", "_law_j"] ["_law_deck_here", "_law_letters", "_law_many"] (defScope sMach) := ⟨rfl, rfl, rfl, by decide +kernel, rfl, by decide +kernel, by decide +kernel⟩
theorem ok_mach {f fD fO : Addr} {fd fdD fdO : FuncData} (F : Fun K "_law_machine" "_law_machine" sMach f fd) (T : TxC mg) (W : Dfn P w K mg base "_law_draw" 1 fD fdD ["_law_deck_here", "_law_many"] spDraw)
    (O : Dfn P w K mg base "_law_one" 2 fO fdO ["_law_deck_here", "_law_items"] spOne) : FnOk P w K mg base CX0 3 f fd ["_law_deck_here", "_law_letters", "_law_many"] (spMach K) := by
  refine F.ok scMach (fun vs H Q E h => ?_) (fun cdv A outer s H vs Q E hr h => ?_)
  · obtain ⟨d, c, l, n, m, rfl, _⟩ := h
    rfl
  obtain ⟨d, c, l, n, m, rfl, D, hm, l0, l1, n0, n1, q⟩ := h
  have hr1 : Room 1 _ := hr.mono (by decide)
  refine ⟨_, pss_cons (ps_set (i := 3) scMach.nd rfl (Or.inr rfl) (pe_call O.ok hr rfl O.m O.kp O.b .nil pass0 (pa_cons (pv 0) (pa_cons (pe_lst (pa_cons pe_int (pa_cons pe_int (pa_cons pe_int pa_nil)))) pa_nil))))
    (pss_cons (ps_set (i := 4) scMach.nd rfl (Or.inl rfl) (pe_lst pa_nil))
    (pss_cons (ps_for PassesOwn.never rfl (pi_range1 rfl T.range (pa_cons (pv 2) pa_nil)) (pg_name (i := 5) scMach.nd rfl (Or.inl rfl))
      (pss_cons (ps_setLc (i := 6) (own := [("_law_j", 7)]) (g := gName 7) (tt := tYes) rfl scMach.nd rfl rfl (sw_true rfl rfl rfl (by decide +kernel)) (pi_range1 rfl T.range (pa_cons (pv 1) pa_nil))
        (blkOk_by (own := [("_law_j", 7)]) (N := ["_law_deck_here", "_law_letters", "_law_many", "_law_none", "_law_rows", "_law_k", "_law_row", "_law_j"]) (sc := defScope sMach) (by decide +kernel)) (fun _ _ _ _ _ => pg_name (i := 7) scMach.nd rfl (Or.inl rfl)) (fun _ _ _ _ _ => pts_nil)
        (fun _ _ _ _ _ => pe_ifExp (pt_cmpR op_gt (pe_call W.ok hr1 rfl W.m W.kp W.b .nil pass0 (pa_cons (pv 0) (pa_cons (pv 3) pa_nil))) pe_int (nomark _)) (pe_call W.ok hr1 rfl W.m W.kp W.b .nil pass0 (pa_cons (pv 0) (pa_cons (pv 2) pa_nil))) pe_non))
      (pss_one (ps_expr (pe_bm PySem.F.plainAttrs_list PySem.F.slot_list_append PySem.F.type_list_append mt_append (pv 4) (pa_cons (pe_callTy call_tuple_of (by rfl) T.tuple (by decide +kernel) (pa_cons (pv 6) pa_nil)) pa_nil))))))
    (pss_one (ps_ret (pe_tup (pa_cons (pv 1) (pa_cons (pe_callTy call_tuple_of (by rfl) T.tuple (by decide +kernel) (pa_cons (pv 4) pa_nil)) (pa_cons (pe_callTy call_tuple_of (by rfl) T.tuple (by decide +kernel) (pa_cons
      (pe_lc (own := [("_law_k", 5)]) (g := gName 5) (tt := tYes) rfl scMach.nd (pi_range1 rfl T.range (pa_cons (pv 2) pa_nil))
        (blkOk_by (own := [("_law_k", 5)]) (N := ["_law_deck_here", "_law_letters", "_law_many", "_law_none", "_law_rows", "_law_k", "_law_row", "_law_j"]) (sc := defScope sMach) (by decide +kernel)) (fun _ _ _ _ _ => pg_name (i := 5) scMach.nd rfl (Or.inl rfl)) (fun _ _ _ _ _ => pts_nil)
        (fun _ _ _ _ _ => pe_cmp (pc_gt (pe_call W.ok hr1 rfl W.m W.kp W.b .nil pass0 (pa_cons (pv 0) (pa_cons pe_int pa_nil))) pe_int) rfl)) pa_nil)) pa_nil)))))))), ?_⟩
  refine ⟨_, rfl, by show 3 ≤ 2 ^ 24; decide, fun a na => ?_⟩
  have Da := D.new na (.lst [V.int 2, V.int 4, V.int 9])
  have ha : upd H a (.lst [V.int 2, V.int 4, V.int 9]) a = some (.lst [V.int 2, V.int 4, V.int 9]) := upd_same
  have sa : Same (Hd d c H) (Hd d c (upd H a (.lst [V.int 2, V.int 4, V.int 9]))) := hd_new na _
  have fa := D.free na
  refine ⟨d, c, a, _, m, rfl, Da, by omega, hd_of ha fa.1 fa.2, by decide, by decide, fun v G hv D2 s2 => ?_⟩
  obtain ⟨z, rfl, z0, z1⟩ : ∃ z : Int, v = .int z ∧ 0 < z ∧ z < 10 := by
    rcases List.mem_cons.mp hv with rfl | hv
    · exact ⟨2, rfl, by decide, by decide⟩
    · rcases List.mem_cons.mp hv with rfl | hv
      · exact ⟨4, rfl, by decide, by decide⟩
      · exact ⟨9, List.mem_singleton.mp hv, by decide, by decide⟩
  replace s2 := sa.trans s2
  refine ⟨by show 0 ≤ 2 ^ 24; decide, fun R nR => ?_⟩
  have D3 := D2.new nR (.lst [])
  have s3 : Same (Hd d c H) (Hd d c (upd G R (.lst []))) := s2.trans (hd_new nR _)
  have fR := D2.free nR
  have gR : Hd d c (upd G R (.lst [])) R = some (.lst []) := hd_of upd_same fR.1 fR.2
  generalize upd G R (.lst []) = G1 at D3 s3 gR
  refine ⟨_, rfl, n, rfl, by omega, by omega, ?_⟩
  have nHR : Hd d c H R = none := s2.free (hd_none nR)
  refine for_range (lo := 0) (n := n) (fun i σ G => ∃ (k5 k6 : Option V) (us : List V) (rs : List PyData), σ = [some (.ref d), some (.int l), some (.int n), some (.int z), some (.ref R), k5, k6, none] ∧ Deck G d c (m + 1 + 8 * i) ∧
      Same (Hd d c H) (Hd d c G) ∧ Hd d c G R = some (.lst us) ∧ DtAll K (Hr R (Hd d c G)) us rs ∧ rs.length = i ∧ ∀ r ∈ rs, IsRow l n r)
    ⟨none, none, [], [], rfl, D3, s3, gR, .nil, rfl, fun r hr => nomatch hr⟩ ?_ ?_
  · rintro i σ G4 hi ⟨k5, k6, us, rs, rfl, D4, s4, g4, d4, l4, r4⟩
    refine ⟨_, rfl, l, rfl, by omega, by omega, fun L nL => lc_range (lo := 0) (n := l) (fun j G5 => Deck G5 d c (m + 1 + 8 * i + 2 * j) ∧ Same (Hd d c G4) (Hd d c G5) ∧ ∃ (ys : List V) (xs : List PyData), G5 L = some (.lst ys) ∧ DtAll K emp ys xs ∧ xs.length = j ∧
        ∀ x ∈ xs, x = .none ∨ ∃ i : Int, x = .int i ∧ 0 ≤ i ∧ i < n) ⟨D4.new nL _, hd_new nL _, [], [], upd_same, .nil, rfl, fun x hx => nomatch hx⟩ ?_ ?_⟩
    · rintro j G5 hj ⟨D5, s5, ys, xs, y1, y2, y3, y4⟩
      have fL := D4.free nL
      have nHL : Hd d c G4 L = none := hd_none nL
      -- the list grows by a leaf
      have grow : ∀ (G6 : Hp) (k : Nat) (v : V) (x : PyData), k ≤ m + 1 + 8 * i + 2 * (j + 1) → Deck G6 d c k → Same (Hd d c G5) (Hd d c G6) → Dt K emp v x → (x = .none ∨ ∃ i : Int, x = .int i ∧ 0 ≤ i ∧ i < n) →
          ∃ acc, G6 L = some (.lst acc) ∧ acc.length < sizeLine ∧ Deck (upd G6 L (.lst (acc ++ [v]))) d c (m + 1 + 8 * i + 2 * (j + 1)) ∧ Same (Hd d c G4) (Hd d c (upd G6 L (.lst (acc ++ [v])))) ∧
            ∃ (ys : List V) (xs : List PyData), upd G6 L (.lst (acc ++ [v])) L = some (.lst ys) ∧ DtAll K emp ys xs ∧ xs.length = j + 1 ∧ ∀ x ∈ xs, x = .none ∨ ∃ i : Int, x = .int i ∧ 0 ≤ i ∧ i < n := by
        intro G6 k v x hk D6 s6 hv hx
        refine ⟨ys, hd_sub _ _ (s6 _ _ (hd_of y1 fL.1 fL.2)), ?_, (D6.mono hk).put fL.1 fL.2 _, hd_grow nHL (s5.trans s6) _, ys ++ [v], xs ++ [x], upd_same, y2.append (.cons hv .nil), by rw [List.length_append, y3]; rfl, ?_⟩
        · rw [y2.length, y3]
          show j < 2 ^ 24
          omega
        · intro y hy
          rcases List.mem_append.mp hy with hy | hy
          · exact y4 y hy
          · rw [List.mem_singleton.mp hy]; exact hx
      refine ⟨rfl, _, rfl, _, rfl, d, c, z, _, rfl, D5, by omega, z0, by omega, fun r G6 r0 r1 D6 s6 => ⟨_, _, rfl, rfl, _, rfl, ite2 (fun c1 => ?_) (fun c1 => ?_)⟩⟩
      · refine ⟨_, rfl, _, rfl, d, c, n, _, rfl, D6, by omega, by omega, by omega, fun r2 G7 r3 r4 D7 s7 => ?_⟩
        exact grow G7 _ _ _ (by omega) D7 (s6.trans s7) (.int r2) (.inr ⟨r2, rfl, r3, r4⟩)
      · exact grow G6 _ _ _ (by omega) D6 s6 .non (.inl rfl)
    · rintro G5 ⟨D5, s5, ys, xs, y1, y2, y3, y4⟩
      refine ⟨_, rfl, .inl ⟨rfl, _, .inl (.inl (hd_sub _ _ (s5 _ _ g4)))⟩, _, rfl, L, ys, rfl, .inl ⟨.inl (.inl y1), fun t nt => ?_⟩⟩
      have tR : t ≠ R := fun e => by rw [e, hd_sub _ _ (s5 _ _ g4)] at nt; cases nt
      have fT := D5.free nt
      have fRr := hd_some g4
      refine ⟨R, us, .ref t, rfl, rfl, same_new nt _ _ _ (hd_sub _ _ (s5 _ _ g4)), by rw [d4.length, l4]; show i < 2 ^ 24; omega, _, _, us ++ [.ref t], rs ++ [.tuple xs], rfl, ?_, ?_, hd_of upd_same fRr.2.1 fRr.2.2, ?_, ?_, ?_⟩
      · exact ((D5.mono (by omega)).new nt _).put fRr.2.1 fRr.2.2 _
      · exact hd_grow nHR (s4.trans (s5.trans (hd_new nt _))) _
      · refine (d4.same ((hr_same (s5.trans (hd_new nt _))).trans hr_put)).append (.cons (.tup (hr_of (hd_of (by rw [upd_ne tR]; exact upd_same) fT.1 fT.2) tR) (y2.same emp_same)) .nil)
      · rw [List.length_append, l4]; rfl
      · intro r hr'
        rcases List.mem_append.mp hr' with hr' | hr'
        · exact r4 r hr'
        · rw [List.mem_singleton.mp hr']; exact ⟨xs, rfl, y3, y4⟩
  · rintro σ G4 ⟨k5, k6, us, rs, rfl, D4, s4, g4, d4, l4, r4⟩
    refine ⟨_, rfl, _, rfl, R, us, rfl, .inl ⟨.inl (.inl (hd_sub _ _ g4)), fun t nt => ?_⟩⟩
    have fT := D4.free nt
    have D5 := D4.new nt (.tup us)
    have s5 := s4.trans (hd_new nt (.tup us))
    have g5 : Hd d c (upd G4 t (.tup us)) t = some (.tup us) := hd_of upd_same fT.1 fT.2
    have d5 : DtAll K (Hd d c (upd G4 t (.tup us))) us rs := (d4.same hr_sub).same (hd_new nt _)
    generalize upd G4 t (.tup us) = G5 at D5 s5 g5 d5
    refine ⟨_, rfl, n, rfl, by omega, by omega, fun L nL => lc_range (lo := 0) (n := n) (fun j G6 => Deck G6 d c (m + 1 + 8 * n + j) ∧ Same (Hd d c G5) (Hd d c G6) ∧ ∃ bs : List Bool, G6 L = some (.lst (bs.map V.bl)) ∧ bs.length = j)
      ⟨D5.new nL _, hd_new nL _, [], upd_same, rfl⟩ ?_ ?_⟩
    · rintro j G6 hj ⟨D6, s6, bs, y1, y2⟩
      have fL := D5.free nL
      refine ⟨rfl, _, rfl, d, c, 3, _, rfl, D6, by omega, by decide, by decide, fun r G7 r0 r1 D7 s7 => ⟨_, _, rfl, rfl, _, hd_sub _ _ (s7 _ _ (hd_of y1 fL.1 fL.2)), ?_, D7.put fL.1 fL.2 _, hd_grow (hd_none nL) (s6.trans s7) _, bs ++ [decide (r > 0)], ?_, ?_⟩⟩
      · rw [List.length_map, y2]
        show j < 2 ^ 24
        omega
      · rw [upd_same, List.map_append]; rfl
      · rw [List.length_append, y2]; rfl
    · rintro G6 ⟨D6, s6, bs, y1, y2⟩
      refine ⟨L, _, rfl, .inl ⟨.inl (.inl y1), fun e nE => ?_⟩⟩
      have fE := D6.free nE
      refine ⟨by show 3 ≤ 2 ^ 24; decide, fun p np => ?_⟩
      have D7 := D6.new nE (.tup (bs.map V.bl))
      have fP := D7.free np
      refine q p (.tuple [.int l, .tuple rs, .tuple (bs.map .bool)]) _ ⟨rs, bs, rfl, l4, y2, r4⟩ ?_ ((D7.new np _).mono (by omega)) (s5.trans (s6.trans ((hd_new nE _).trans (hd_new np _))))
      have st : Same (Hd d c G6) (Hd d c (upd (upd G6 e (.tup (bs.map V.bl))) p (.tup [.int l, .ref t, .ref e]))) := (hd_new nE _).trans (hd_new np _)
      refine .tup (hd_of upd_same fP.1 fP.2) (.cons (.int _) (.cons (.tup (st _ _ (s6 _ _ g5)) (d5.same (s6.trans st))) (.cons (.tup (hd_of ?_ fE.1 fE.2) (bools_dt bs)) .nil)))
      exact same_new np _ _ _ upd_same
end
end K25
namespace K25
open PySem L2 GL KC KW KM
abbrev sRead : Stmt := top 35
abbrev sTexts : Stmt := top 36
abbrev sSign : Stmt := top 37
abbrev sSigns : Stmt := top 38
abbrev sSums : Stmt := top 39
abbrev sLaw : Stmt := top 40
structure Txt (mg : Str → Option Value) : Prop where
  c : TxC mg
  repr : mg "repr" = none
  sum : mg "sum" = none
def spSgn : Sp := fun vs H Q _ => ∃ (bs : List Bool) (w : List Nat), vs = [.str (sS bs), .str (wS w)] ∧ bs.length ≤ 4 ∧ (∀ j ∈ w, j < bs.length) ∧ w.length ≤ 100000 ∧ ∀ G, Same H G → Q (.int (sgn bs w)) G
section
variable {P : Program} {w : World} {K : PySem.W.Frag} {mg : Str → Option Value} {base : Heap}
theorem ok_oneT {f fD : Addr} {fd fdD : FuncData} (F : Fun K "_law_one" "_law_one" sOne f fd) (T : Txt mg) (W : Dfn P w K mg base "_law_draw" 1 fD fdD ["_law_deck_here", "_law_many"] spDraw) :
    FnOk P w K mg base CX0 2 f fd ["_law_deck_here", "_law_items"] spOneT := by
  refine F.ok scOne (fun vs H Q E h => ?_) (fun cdv A outer s H vs Q E hr h => ?_)
  · obtain ⟨d, c, z, m, rfl, _⟩ := h
    rfl
  obtain ⟨d, c, z, m, rfl, D, hm, x0, x1, q⟩ := h
  have zl : z.length ≤ 2 ^ 24 := by omega
  refine ⟨_, pss_one (ps_ret (pe_ix ix_str (pv 1) (pe_call W.ok hr rfl W.m W.kp W.b .nil pass0 (pa_cons (pv 0) (pa_cons (pe_callB call_len_str (by rfl) T.c.len PySem.boot_len (pa_cons (pv 1) pa_nil)) pa_nil))) (fun _ _ => rfl))), ?_⟩
  refine ⟨_, rfl, _, rfl, _, rfl, _, rfl, zl, d, c, (z.length : Int), m, rfl, D, hm, by omega, by omega, fun r G r0 r1 D2 s2 => ?_⟩
  obtain ⟨j, rfl⟩ : ∃ j : Nat, r = (j : Int) := ⟨r.toNat, by omega⟩
  have jl : j < z.cps.toList.length := by
    rw [Array.length_toList]
    show j < z.length
    omega
  obtain ⟨k, hk⟩ : ∃ k, z.cps.toList[j]? = some k := ⟨_, List.getElem?_eq_getElem jl⟩
  exact ⟨_, _, k, rfl, rfl, zl, atI_nat hk, q k G (List.mem_of_getElem? hk) D2 s2⟩
theorem scRd : FnScope ["_law_machine_here", "_law_word", "_law_states", "_law_letter", "_law_state"] ["_law_machine_here", "_law_word"] (defScope sRead) := ⟨rfl, rfl, rfl, by decide +kernel, rfl, by decide +kernel, by decide +kernel⟩
theorem ok_read {f : Addr} {fd : FuncData} (F : Fun K "_law_read" "_law_read" sRead f fd) : FnOk P w K mg base CX0 1 f fd ["_law_machine_here", "_law_word"] spIs := by
  refine F.ok scRd (fun vs H Q E h => ?_) (fun cdv A outer s H vs Q E hr h => ?_)
  · obtain ⟨p, l, n, rows, ends, w, rfl, _⟩ := h
    rfl
  obtain ⟨p, l, n, rows, ends, wd, rfl, M, W, hw, q⟩ := h
  refine ⟨_, pss_cons (ps_set (i := 2) scRd.nd rfl (Or.inl rfl) (pe_lst (pa_cons pe_int pa_nil)))
    (pss_cons (ps_for PassesOwn.never rfl (pi_str (pv 1)) (pg_name (i := 3) scRd.nd rfl (Or.inr rfl))
      (pss_cons (ps_setLc (i := 2) (own := [("_law_state", 4)]) (g := gName 4) (tt := tYes) rfl scRd.nd rfl rfl (sw_true rfl rfl rfl (by decide +kernel)) (pi_list (pv 2))
        (blkOk_by (own := [("_law_state", 4)]) (N := ["_law_machine_here", "_law_word", "_law_states", "_law_letter", "_law_state"]) (sc := defScope sRead) (by decide +kernel)) (fun _ _ _ _ _ => pg_name (i := 4) scRd.nd rfl (Or.inl rfl)) (fun _ _ _ _ _ => pts_nil)
        (fun _ _ _ _ _ => show PE _ _ (tOp (rIxT K) (tOp (rIxT K) (tOp (rIxT K) _ _) _) (tBM K "str" _ _ _)) from pe_ixT (pe_ixT (pe_ixT (pv 0) pe_int (fun _ _ => rfl)) (pv 4) (fun _ _ => rfl)) (pe_bm PySem.F.plainAttrs_str PySem.F.slot_str_index PySem.F.type_str_index mt_sindex pe_str (pa_cons (pv 3) pa_nil)) (fun _ _ => rfl)))
      (pss_one (ps_setLc (i := 2) (own := [("_law_state", 4)]) (g := gName 4) rfl scRd.nd rfl rfl (sw_true rfl rfl rfl (by decide +kernel)) (pi_list (pv 2))
        (blkOk_by (own := [("_law_state", 4)]) (N := ["_law_machine_here", "_law_word", "_law_states", "_law_letter", "_law_state"]) (sc := defScope sRead) (by decide +kernel)) (fun _ _ _ _ _ => pg_name (i := 4) scRd.nd rfl (Or.inl rfl)) (fun _ _ _ _ _ => pts_one (pt_cmpR op_notN (pv 4) pe_non (nomark _)))
        (fun _ _ _ _ _ => pv 4)))))
    (pss_one (ps_ret (pe_cmpR (op_ne0 hr.units0) (pe_lc (own := [("_law_state", 4)]) (g := gName 4) rfl scRd.nd (pi_list (pv 2))
        (blkOk_by (own := [("_law_state", 4)]) (N := ["_law_machine_here", "_law_word", "_law_states", "_law_letter", "_law_state"]) (sc := defScope sRead) (by decide +kernel)) (fun _ _ _ _ _ => pg_name (i := 4) scRd.nd rfl (Or.inl rfl))
        (fun _ _ _ _ _ => pts_one (pt_val (show PE _ _ (tOp (rIxT K) (tOp (rIxT K) _ _) _) from pe_ixT (pe_ixT (pv 0) pe_int (fun _ _ => rfl)) (pv 4) (fun _ _ => rfl)))) (fun _ _ _ _ _ => pv 4)) (pe_lst pa_nil) (nomark _))))), ?_⟩
  obtain ⟨pr, pe, rvs, h1, h2, h3, h4, h5⟩ := M.ex
  refine ⟨by show 1 ≤ 2 ^ 24; decide, fun a0 na0 => ?_⟩
  have sa := same_new na0 (.lst [V.int 0])
  have ga : upd H a0 (.lst [V.int 0]) a0 = some (.lst [V.int 0]) := upd_same
  generalize upd H a0 (.lst [V.int 0]) = G at sa ga
  refine ⟨_, rfl, _, rfl, for_it (walk_str (z := wS wd)) (fun i σ G' => ∃ (a : Addr) (k3 : Option V), σ = [some (.ref p), some (.str (wS wd)), some (.ref a), k3, none] ∧ Same G G' ∧ G' a = some (.lst (oL (run rows 0 (wd.take i)))) ∧ ∀ st, run rows 0 (wd.take i) = some st → st < n)
    ⟨a0, none, rfl, Same.refl G, ga, fun st e => by cases e; exact W.n1⟩ (fun _ _ _ _ _ => True.intro) ?_ ?_⟩
  · rintro i x σ G2 H' hi ⟨a, k3, rfl, s2, g2, b2⟩ ⟨rfl, c, hc, rfl⟩
    obtain ⟨j, j1, rfl⟩ := wS_at hc
    have jl := hw j (List.mem_of_getElem? j1)
    have run1 : run rows 0 (wd.take (i + 1)) = (run rows 0 (wd.take i)).bind fun st => stepM rows st j := by
      rw [List.take_add_one, j1, run_append]
      cases run rows 0 (wd.take i) with
      | none => rfl
      | some st =>
        show (match stepM rows st j with | none => none | some t => run rows t []) = stepM rows st j
        cases stepM rows st j <;> rfl
    generalize run rows 0 (wd.take i) = o at g2 b2 run1
    have xl := oL_len o
    refine ⟨_, rfl, a, rfl, ⟨_, .inl (.inl g2)⟩, fun L nL => lc_list (K := K) (a := a) (xs := oL o) (fun k G' => Same H' G' ∧ G' L = some (.lst (((oL o).take k).map (fS rows j)))) ⟨same_new nL _, upd_same⟩ (fun k G' _ h => .inl (.inl (h.1 _ _ g2))) ?_ ?_⟩
    · rintro k x G3 hx ⟨s3, g3⟩
      obtain ⟨st, rfl, rfl⟩ := oL_mem (List.mem_of_getElem? hx)
      have kl : k < (oL (some st)).length := (List.getElem?_eq_some_iff.mp hx).1
      have sl := b2 st rfl
      obtain ⟨r, w1, w2, w3, w4⟩ := W.row sl
      obtain ⟨t, t1, t2⟩ := h5 st r w1
      have jr : j < r.length := by rw [w2]; exact jl
      have s4 := sa.trans (s2.trans s3)
      refine ⟨rfl, _, rfl, p, _, 1, .ref pr, rfl, rfl, .inl (.inl (s4 _ _ h1)), rfl, _, rfl, pr, rvs, st, .ref t, rfl, rfl, .inl (.inl (s4 _ _ h2)), atI_nat t1, rfl, _, rfl, _, sg j, j, [], rfl, rfl, occ_at j (Nat.lt_of_lt_of_le jl W.l4), t, _, _, oV (r.getD j none), rfl, rfl, .inl (.inl (s4 _ _ t2)), atI_nat ?_, ?_⟩
      · rw [List.getElem?_map, List.getD_eq_getElem?_getD, List.getElem?_eq_getElem jr]; rfl
      rw [← w4 j]
      refine ⟨_, g3, by rw [List.length_map, List.length_take]; show _ < 2 ^ 24; omega, same_grow nL s3 _, ?_⟩
      rw [upd_same, List.take_add_one, hx, List.map_append]
      rfl
    · rintro G3 ⟨s3, g3⟩
      rw [List.take_length] at g3
      have yl : ((oL o).map (fS rows j)).length ≤ 1 := by rw [List.length_map]; exact xl
      refine ⟨_, rfl, L, rfl, ⟨_, .inl (.inl g3)⟩, fun L2 nL2 => lc_list (K := K) (a := L) (xs := (oL o).map (fS rows j)) (fun k G' => Same G3 G' ∧ G' L2 = some (.lst ((((oL o).map (fS rows j)).take k).filter fun v => !decide (v = .non)))) ⟨same_new nL2 _, upd_same⟩
        (fun k G' _ h => .inl (.inl (h.1 _ _ g3))) ?_ ?_⟩
      · rintro k x G4 hx ⟨s4, g4⟩
        refine ⟨rfl, _, rfl, rfl, _, rfl, ite2 (fun c1 => ?_) (fun c1 => ?_)⟩
        · refine ⟨_, rfl, _, g4, ?_, same_grow nL2 s4 _, ?_⟩
          · have := List.length_filter_le (fun v => !decide (v = V.non)) (((oL o).map (fS rows j)).take k)
            rw [List.length_take] at this
            show _ < 2 ^ 24
            omega
          · rw [upd_same, List.take_add_one, hx, List.filter_append]
            show _ = some (HO.lst (_ ++ List.filter _ [x]))
            rw [filter1_pos (p := fun v => !decide (v = V.non)) c1]
        · refine ⟨s4, ?_⟩
          rw [g4, List.take_add_one, hx, List.filter_append]
          show _ = some (HO.lst (_ ++ List.filter _ [x]))
          rw [filter1_neg (p := fun v => !decide (v = V.non)) c1, List.append_nil]
      · rintro G4 ⟨s4, g4⟩
        rw [List.take_length, oL_step, ← run1] at g4
        refine ⟨L2, _, rfl, s2.trans (s3.trans s4), g4, fun st e => ?_⟩
        rw [run1] at e
        cases o with
        | none => cases e
        | some st0 => exact W.step_lt (b2 st0 rfl) e
  · rintro σ G2 ⟨a, k3, rfl, s2, g2, b2⟩
    rw [wS_size, List.take_length] at g2 b2
    have kq : ∀ G', Same G2 G' → Q (.bl (!((oL (run rows 0 wd)).filter (eS ends)).isEmpty)) G' := fun G' s3 => by
      rw [oL_end]
      exact q G' (sa.trans (s2.trans s3))
    generalize run rows 0 wd = o at g2 b2 kq
    have xl := oL_len o
    refine ⟨_, rfl, a, rfl, ⟨_, .inl (.inl g2)⟩, fun L nL => lc_list (K := K) (a := a) (xs := oL o) (fun k G' => Same G2 G' ∧ G' L = some (.lst (((oL o).take k).filter (eS ends)))) ⟨same_new nL _, upd_same⟩ (fun k G' _ h => .inl (.inl (h.1 _ _ g2))) ?_ ?_⟩
    · rintro k x G3 hx ⟨s3, g3⟩
      obtain ⟨st, rfl, rfl⟩ := oL_mem (List.mem_of_getElem? hx)
      have el : st < ends.length := by rw [W.el]; exact b2 st rfl
      have s4 := sa.trans (s2.trans s3)
      refine ⟨rfl, _, rfl, p, _, 2, .ref pe, rfl, rfl, .inl (.inl (s4 _ _ h1)), rfl, _, rfl, pe, _, st, .bl (ends.getD st false), rfl, rfl, .inl (.inl (s4 _ _ h3)), atI_nat ?_, _, rfl, ?_⟩
      · rw [List.getElem?_map, List.getD_eq_getElem?_getD, List.getElem?_eq_getElem el]; rfl
      have ee : eS ends (V.int (st : Int)) = ends.getD st false := rfl
      have ll := List.length_filter_le (eS ends) ((oL (some st)).take k)
      rw [List.length_take] at ll
      cases z : ends.getD st false with
      | true =>
        refine ⟨_, rfl, _, g3, by show _ < 2 ^ 24; omega, same_grow nL s3 _, ?_⟩
        rw [upd_same, List.take_add_one, hx, List.filter_append]
        show _ = some (HO.lst (_ ++ List.filter _ [_]))
        rw [filter1_pos (p := eS ends) (by rw [ee, z])]
      | false =>
        refine ⟨s3, ?_⟩
        rw [g3, List.take_add_one, hx, List.filter_append]
        show _ = some (HO.lst (_ ++ List.filter _ [_]))
        rw [filter1_neg (p := eS ends) (by rw [ee, z]; exact Bool.false_ne_true), List.append_nil]
    · rintro G3 ⟨s3, g3⟩
      rw [List.take_length] at g3
      refine ⟨by show 0 ≤ 2 ^ 24; decide, fun e nE => ⟨L, e, _, rfl, rfl, same_new nE _ _ _ g3, upd_same, kq _ (s3.trans (same_new nE _))⟩⟩
theorem scSg : FnScope ["_law_deck_here", "_law_letters", "_law_k"] ["_law_deck_here", "_law_letters"] (defScope sSigns) := ⟨rfl, rfl, rfl, by decide +kernel, rfl, by decide +kernel, by decide +kernel⟩
theorem ok_signs {f fO : Addr} {fd fdO : FuncData} (F : Fun K "_law_signs" "_law_signs" sSigns f fd) (T : Txt mg)
    (O : Dfn P w K mg base "_law_one" 2 fO fdO ["_law_deck_here", "_law_items"] spOneT) : FnOk P w K mg base CX0 3 f fd ["_law_deck_here", "_law_letters"] spSigns := by
  refine F.ok scSg (fun vs H Q E h => ?_) (fun cdv A outer s H vs Q E hr h => ?_)
  · obtain ⟨d, c, l, m, rfl, _⟩ := h
    rfl
  obtain ⟨d, c, l, m, rfl, D, hm, l4, q⟩ := h
  refine ⟨_, pss_one (ps_ret (pe_join pe_str (pe_lc (own := [("_law_k", 2)]) (g := gName 2) (tt := tYes) rfl scSg.nd (pi_range1 rfl T.c.range (pa_cons (pv 1) pa_nil))
      (blkOk_by (own := [("_law_k", 2)]) (N := ["_law_deck_here", "_law_letters", "_law_k"]) (sc := defScope sSigns) (by decide +kernel)) (fun _ _ _ _ _ => pg_name (i := 2) scSg.nd rfl (Or.inl rfl)) (fun _ _ _ _ _ => pts_nil)
      (fun _ _ _ _ _ => pe_call O.ok hr rfl O.m O.kp O.b .nil pass0 (pa_cons (pv 0) (pa_cons pe_str pa_nil)))))), ?_⟩
  refine ⟨⟨_, rfl⟩, _, rfl, l, rfl, by omega, by omega, fun L nL => lc_range (lo := 0) (n := l) (fun i G' => Deck G' d c (m + i) ∧ Same (Hd d c H) (Hd d c G') ∧ ∃ u : List Nat, G' L = some (.lst ((u.map fun k => (⟨#[k]⟩ : Str)).map V.str)) ∧ u.length = i ∧ ∀ k ∈ u, k = 43 ∨ k = 45)
    ⟨D.new nL _, hd_new nL _, [], upd_same, rfl, fun j h => nomatch h⟩ ?_ ?_⟩
  · rintro i G' hi ⟨D2, s2, u, u1, u2, u3⟩
    have fL := D.free nL
    refine ⟨rfl, _, rfl, d, c, "+-", m + i, rfl, D2, by omega, by decide, by decide, fun j G2 hj D3 s3 => ?_⟩
    refine ⟨_, hd_sub _ _ (s3 _ _ (hd_of u1 fL.1 fL.2)), ?_, D3.put fL.1 fL.2 _, hd_grow (hd_none nL) (s2.trans s3) _, u ++ [j], ?_, by rw [List.length_append, u2]; rfl, ?_⟩
    · rw [List.length_map, List.length_map, u2]
      show i < 2 ^ 24
      omega
    · rw [upd_same, List.map_append, List.map_append]; rfl
    · intro k hk
      rcases List.mem_append.mp hk with hk | hk
      · exact u3 k hk
      · rw [List.mem_singleton.mp hk]
        have hj' : j ∈ [43, 45] := hj
        simpa using hj'
  · rintro G' ⟨D2, s2, u, u1, u2, u3⟩
    obtain ⟨bs, rfl⟩ := bs_of u u3
    refine ⟨_, L, _, rfl, rfl, .inl (.inl (.inl u1)), ?_, ?_⟩
    · rw [len_c]
      simp only [List.length_map] at u2 ⊢
      show bs.length + bs.length * 0 ≤ 16777216
      omega
    · rw [join_c]
      exact q bs G' (by rw [List.length_map] at u2; exact u2) (D2.mono (by omega)) s2
theorem scLs : FnScope ["_law_signs_here", "_law_word", "_law_found", "_law_letter"] ["_law_signs_here", "_law_word"] (defScope sSign) := ⟨rfl, rfl, rfl, by decide +kernel, rfl, by decide +kernel, by decide +kernel⟩
theorem sS_at {bs : List Bool} {j : Nat} (h : j < bs.length) : (sS bs).cps.toList[j]? = some (sc (bs.getD j false)) := by
  show (bs.map sc)[j]? = _
  rw [List.getElem?_map, List.getD_eq_getElem?_getD, List.getElem?_eq_getElem h]
  rfl
theorem ok_lsign {f : Addr} {fd : FuncData} (F : Fun K "_law_sign" "_law_sign" sSign f fd) : FnOk P w K mg base CX0 1 f fd ["_law_signs_here", "_law_word"] spSgn := by
  refine F.ok scLs (fun vs H Q E h => ?_) (fun cdv A outer s H vs Q E hr h => ?_)
  · obtain ⟨bs, w, rfl, _⟩ := h
    rfl
  obtain ⟨bs, wd, rfl, b4, hw, hl, q⟩ := h
  refine ⟨_, pss_cons (ps_set (i := 2) scLs.nd rfl (Or.inl rfl) pe_int)
    (pss_cons (ps_for PassesOwn.never rfl (pi_str (pv 1)) (pg_name (i := 3) scLs.nd rfl (Or.inl rfl))
      (pss_one (ps_if (pt_cmpR op_eq (pe_ix ix_str (pv 0) (pe_bm PySem.F.plainAttrs_str PySem.F.slot_str_index PySem.F.type_str_index mt_sindex pe_str (pa_cons (pv 3) pa_nil)) (fun _ _ => rfl)) pe_str (nomark _))
        (pss_one (ps_set (i := 2) scLs.nd rfl (Or.inl rfl) (pe_op op_sub pe_int (pv 2)))) pss_nil)))
    (pss_one (ps_ret (pv 2)))), ?_⟩
  refine ⟨_, rfl, _, rfl, for_it (walk_str (z := wS wd)) (fun i σ G' => ∃ (k3 : Option V), σ = [some (.str (sS bs)), some (.str (wS wd)), some (.int (sgn bs (wd.take i))), k3] ∧ Same H G')
    ⟨none, rfl, Same.refl H⟩ (fun _ _ _ _ _ => True.intro) ?_ ?_⟩
  · rintro i x σ G2 H' hi ⟨k3, rfl, s2⟩ ⟨rfl, c, hc, rfl⟩
    obtain ⟨j, j1, rfl⟩ := wS_at hc
    have jl := hw j (List.mem_of_getElem? j1)
    have e1 : sgn bs (wd.take (i + 1)) = sgn bs (wd.take i) * (if bs.getD j false then -1 else 1) := by
      rw [List.take_add_one, j1, sgn_app]
      exact congrArg _ (sgn_one bs j)
    refine ⟨_, rfl, rfl, _, rfl, _, sg j, j, [], rfl, rfl, occ_at j (Nat.lt_of_lt_of_le jl b4), _, _, sc (bs.getD j false), rfl, rfl, by rw [sS_len]; show _ ≤ 2 ^ 24; omega, atI_nat (sS_at jl), rfl, _, rfl, ?_⟩
    rw [sc_minus]
    cases e : bs.getD j false with
    | true =>
      refine iteT ⟨_, rfl, _, _, rfl, rfl, some (.str ⟨#[97 + j]⟩), ?_, s2⟩
      rw [e1, e]
      show _ = [some (V.str (sS bs)), some (V.str (wS wd)), some (V.int (sgn bs (wd.take i) * -1)), _]
      rw [show sgn bs (wd.take i) * -1 = 0 - sgn bs (wd.take i) by omega]
      rfl
    | false =>
      refine iteF ⟨some (.str ⟨#[97 + j]⟩), ?_, s2⟩
      rw [e1, e]
      show _ = [some (V.str (sS bs)), some (V.str (wS wd)), some (V.int (sgn bs (wd.take i) * 1)), _]
      rw [Int.mul_one]
      rfl
  · rintro σ G2 ⟨k3, rfl, s2⟩
    rw [wS_size, List.take_length]
    exact ⟨_, rfl, q G2 s2⟩
end
end K25
namespace K25
open PySem L2 GL KC KW KM
def spTexts : Sp := fun vs H Q _ => ∃ (l n : Nat), vs = [.int l, .int n] ∧ 1 ≤ l ∧ l ≤ 4 ∧ n ≤ 8 ∧ ∀ L G, Same H G → G L = some (.lst (tw (texts l n))) → Q (.ref L) G
abbrev NTx : List Str := ["_law_letters", "_law_length", "_law_found", "_law_k", "_law_longer", "_law_word", "_law_letter"]
section
variable {P : Program} {w : World} {K : PySem.W.Frag} {mg : Str → Option Value} {base : Heap}
theorem scTx : FnScope ["_law_letters", "_law_length", "_law_found", "_law_k", "_law_longer", "_law_word", "_law_letter"] ["_law_letters", "_law_length"] (defScope sTexts) := ⟨rfl, rfl, rfl, by decide +kernel, rfl, by decide +kernel, by decide +kernel⟩
theorem ok_texts {f : Addr} {fd : FuncData} (F : Fun K "_law_texts" "_law_texts" sTexts f fd) (T : Txt mg) : FnOk P w K mg base CX0 1 f fd ["_law_letters", "_law_length"] spTexts := by
  refine F.ok scTx (fun vs H Q E h => ?_) (fun cdv A outer s H vs Q E hr h => ?_)
  · obtain ⟨l, n, rfl, _⟩ := h
    rfl
  obtain ⟨l, n, rfl, l1, l4, n8, q⟩ := h
  refine ⟨_, pss_cons (ps_set (i := 2) scTx.nd rfl (Or.inl rfl) (pe_lst (pa_cons pe_str pa_nil)))
    (pss_cons (ps_for PassesOwn.never rfl (pi_range1 rfl T.c.range (pa_cons (pv 1) pa_nil)) (pg_name (i := 3) scTx.nd rfl (Or.inl rfl))
      (pss_cons (ps_set (i := 4) scTx.nd rfl (Or.inl rfl) (pe_lst pa_nil))
      (pss_cons (ps_for PassesOwn.never rfl (pi_list (pv 2)) (pg_name (i := 5) scTx.nd rfl (Or.inr rfl))
        (pss_one (ps_expr (pe_bm PySem.F.plainAttrs_list PySem.F.slot_list_extend PySem.F.type_list_extend mt_extend (pv 4) (pa_cons (pe_lc (own := [("_law_letter", 6)]) (g := gName 6) (tt := tYes) rfl scTx.nd (pi_str (pe_slice sl_str pe_str po_none (po_some (pv 0))))
          (blkOk_by (own := [("_law_letter", 6)]) (N := NTx) (sc := defScope sTexts) (by decide +kernel)) (fun _ _ _ _ _ => pg_name (i := 6) scTx.nd rfl (Or.inl rfl)) (fun _ _ _ _ _ => pts_nil) (fun _ _ _ _ _ => pe_op op_add_str (pv 5) (pv 6))) pa_nil)))))
      (pss_one (ps_set (i := 2) scTx.nd rfl (Or.inl rfl) (pv 4))))))
    (pss_one (ps_ret (pv 2)))), ?_⟩
  have pw : ∀ i, i ≤ 8 → (texts l i).length ≤ 65536 := fun i hi => by
    rw [texts_len]
    exact Nat.le_trans (Nat.pow_le_pow_left l4 i) (Nat.le_trans (Nat.pow_le_pow_right (by decide) hi) (by decide +kernel))
  refine ⟨by show 1 ≤ 2 ^ 24; decide, fun a0 na0 => ?_⟩
  have s0 := same_new na0 (.lst [V.str ""])
  have g0 : upd H a0 (.lst [V.str ""]) a0 = some (.lst (tw (texts l 0))) := by
    rw [upd_same, ← wS_nil]
    rfl
  generalize upd H a0 (.lst [V.str ""]) = H0 at s0 g0
  refine ⟨_, rfl, n, rfl, by omega, by omega, for_range (lo := 0) (n := n) (fun i σ G => ∃ (a : Addr) (k3 k4 k5 : Option V), σ = [some (.int l), some (.int n), some (.ref a), k3, k4, k5, none] ∧ Same H G ∧ G a = some (.lst (tw (texts l i)))) ⟨a0, none, none, none, rfl, s0, g0⟩ ?_ ?_⟩
  · rintro i σ G hi ⟨a, k3, k4, k5, rfl, sG, ga⟩
    have pl := pw i (by omega)
    refine ⟨by show 0 ≤ 2 ^ 24; decide, fun lo nlo => ?_⟩
    have s1 := same_new nlo (.lst ([] : List V))
    have g1 : upd G lo (.lst []) lo = some (.lst (tw (((texts l i).take 0).flatMap fun w => (List.range l).map fun j => w ++ [j]))) := upd_same
    have ga1 := s1 _ _ ga
    generalize upd G lo (.lst []) = G1 at s1 g1 ga1
    have noG : G lo = none := nlo
    refine ⟨_, rfl, a, rfl, ⟨_, .inl (.inl ga1)⟩, for_list (K := K) (a := a) (xs := tw (texts l i)) (fun j σ G' => ∃ (k5 : Option V), σ = [some (.int l), some (.int n), some (.ref a), some (.int (0 + i)), some (.ref lo), k5, none] ∧ Same G G' ∧
        G' lo = some (.lst (tw (((texts l i).take j).flatMap fun w => (List.range l).map fun j => w ++ [j])))) ⟨_, rfl, s1, g1⟩ (fun j σ G' _ h => let ⟨_, _, s, _⟩ := h; .inl (.inl (s _ _ ga))) ?_ ?_⟩
    · rintro j x σ G' hx ⟨k5', rfl, s2, g2⟩
      obtain ⟨w', hw, rfl⟩ : ∃ w', (texts l i)[j]? = some w' ∧ x = V.str (wS w') := by
        have hx' : ((texts l i).map fun u => V.str (wS u))[j]? = some x := hx
        rw [List.getElem?_map] at hx'
        cases e : (texts l i)[j]? with
        | none => rw [e] at hx'; cases hx'
        | some w' => rw [e] at hx'; exact ⟨w', rfl, (Option.some.inj hx').symm⟩
      have jl : j < (texts l i).length := (List.getElem?_eq_some_iff.mp hw).1
      obtain ⟨wl, _⟩ := texts_ok l i w' (List.mem_of_getElem? hw)
      have fl : ∀ L : List (List Nat), (tw (L.flatMap fun w => (List.range l).map fun j => w ++ [j])).length = L.length * l := by
        intro L
        rw [tw_len]
        induction L with
        | nil => simp
        | cons x L ih => rw [List.flatMap_cons, List.length_append, ih, List.length_map, List.length_range, List.length_cons, Nat.succ_mul]; omega
      refine ⟨_, rfl, .inl ⟨rfl, _, .inl (.inl g2)⟩, _, rfl, l, rfl, _, rfl, by decide, ?_⟩
      rw [cut_abcd l l1 l4]
      refine ⟨_, rfl, fun L nL => lc_it (walk_str (z := wS (List.range l))) (fun q G3 => Same G' G3 ∧ G3 L = some (.lst (tw ((List.range q).map fun j => w' ++ [j])))) ⟨same_new nL _, by rw [upd_same]; rfl⟩ (fun _ _ _ _ => True.intro) ?_ ?_⟩
      · rintro qq y G3 H' hq ⟨s3, g3⟩ ⟨rfl, c, hc, rfl⟩
        obtain ⟨jj, j1, rfl⟩ := wS_at hc
        have e1 : jj = qq := by
          rw [List.getElem?_range (by have := (List.getElem?_eq_some_iff.mp j1).1; rw [List.length_range] at this; exact this)] at j1
          exact (Option.some.inj j1).symm
        subst e1
        have ql : jj < l := by have := (List.getElem?_eq_some_iff.mp j1).1; rw [List.length_range] at this; exact this
        refine ⟨rfl, _, rfl, _, rfl, wS w', sg jj, rfl, rfl, by rw [wS_len, wl]; show i + 1 ≤ 2 ^ 24; omega, _, g3, by rw [tw_len, List.length_map, List.length_range]; show jj < 2 ^ 24; omega, same_grow nL s3 _, ?_⟩
        rw [upd_same, sg_wS, wS_app, tw_app, List.range_succ, List.map_append]
        rfl
      · rintro G3 ⟨s3, g3⟩
        rw [wS_size, List.length_range] at g3
        have nL2 : L ≠ lo := fun e => by rw [e, g2] at nL; cases nL
        refine ⟨lo, L, _, _, rfl, rfl, s3 _ _ g2, g3, ?_, ?_⟩
        · have f1 := fl ((texts l i).take j)
          rw [f1, tw_len, List.length_map, List.length_range, List.length_take]
          have : min j (texts l i).length * l ≤ 65536 * 4 := Nat.mul_le_mul (by omega) l4
          show _ ≤ 2 ^ 24
          omega
        refine ⟨_, rfl, same_grow noG (s2.trans s3) _, ?_⟩
        rw [upd_same, List.take_add_one, hw, List.flatMap_append]
        show _ = some (HO.lst (tw (_ ++ (List.flatMap _ [w']))))
        unfold tw
        rw [List.map_append]
        simp
    · rintro σ G' ⟨k5', rfl, s2, g2⟩
      rw [tw_len, List.take_length] at g2
      exact ⟨_, rfl, lo, _, _, _, rfl, sG.trans s2, g2⟩
  · rintro σ G ⟨a, k3, k4, k5, rfl, sG, ga⟩
    exact ⟨_, rfl, q a G sG ga⟩
end
end K25
namespace K25
open PySem L2 GL KC KW KM
def sums (l : Nat) (rows : Rows) (ends bs : List Bool) (m : Nat) : List V := (List.range m).map fun k => V.int (cnt l rows ends bs k 0)
def spSums : Sp := fun vs H Q _ => ∃ (p : Addr) (l n m : Nat) (rows : Rows) (ends bs : List Bool), vs = [.ref p, .str (sS bs), .int m] ∧ MachAt H p l rows ends ∧ WF l n rows ends ∧ bs.length = l ∧ m ≤ 400 ∧
  ∀ L G, Same H G → G L = some (.lst (sums l rows ends bs (m + 1))) → Q (.ref L) G
abbrev NSu : List Str := ["_law_machine_here", "_law_signs_here", "_law_most", "_law_worth", "_law_found", "_law_k", "_law_later", "_law_row", "_law_gained", "_law_j", "_law_more", "_law_end"]
/-- the sum over the first letters -/
def pS (rows : Rows) (bs : List Bool) (f : Nat → Int) (s j : Nat) : Int := ((List.range j).map fun j => match stepM rows s j with | none => (0 : Int) | some t => sj bs j * f t).sum
theorem pS_succ (rows : Rows) (bs : List Bool) (f : Nat → Int) (s j : Nat) : pS rows bs f s (j + 1) = pS rows bs f s j + match stepM rows s j with | none => (0 : Int) | some t => sj bs j * f t := by
  unfold pS
  rw [List.range_succ, List.map_append, sum_app]
  show _ + ((match stepM rows s j with | none => (0 : Int) | some t => sj bs j * f t) + 0) = _
  rw [Int.add_zero]
theorem pS_none {rows : Rows} {bs : List Bool} {f : Nat → Int} {s j : Nat} (e : stepM rows s j = none) : pS rows bs f s (j + 1) = pS rows bs f s j := by
  rw [pS_succ, e]
  exact Int.add_zero _
theorem pS_plus {rows : Rows} {bs : List Bool} {f : Nat → Int} {s j t : Nat} (e : stepM rows s j = some t) (eb : bs.getD j false = false) : pS rows bs f s (j + 1) = pS rows bs f s j + f t := by
  rw [pS_succ, e]
  show _ + sj bs j * f t = _
  unfold sj
  rw [eb]
  show _ + 1 * f t = _
  rw [Int.one_mul]
theorem pS_minus {rows : Rows} {bs : List Bool} {f : Nat → Int} {s j t : Nat} (e : stepM rows s j = some t) (eb : bs.getD j false = true) : pS rows bs f s (j + 1) = pS rows bs f s j + (0 - f t) := by
  rw [pS_succ, e]
  show _ + sj bs j * f t = _
  unfold sj
  rw [eb]
  show _ + -1 * f t = _
  omega
theorem cnt_pS (l : Nat) (rows : Rows) (ends bs : List Bool) (n s : Nat) : cnt l rows ends bs (n + 1) s = pS rows bs (cnt l rows ends bs n) s l := rfl
theorem sc_plus (b : Bool) : decide (V.str ⟨#[sc b]⟩ = V.str ("+" : Str)) = !b := by cases b <;> decide +kernel
section
variable {P : Program} {w : World} {K : PySem.W.Frag} {mg : Str → Option Value} {base : Heap}
theorem scSu : FnScope ["_law_machine_here", "_law_signs_here", "_law_most", "_law_worth", "_law_found", "_law_k", "_law_later", "_law_row", "_law_gained", "_law_j", "_law_more", "_law_end"] ["_law_machine_here", "_law_signs_here", "_law_most"] (defScope sSums) := ⟨rfl, rfl, rfl, by decide +kernel, rfl, by decide +kernel, by decide +kernel⟩
theorem ok_sums {f : Addr} {fd : FuncData} (F : Fun K "_law_sums" "_law_sums" sSums f fd) (T : Txt mg) : FnOk P w K mg base CX0 1 f fd ["_law_machine_here", "_law_signs_here", "_law_most"] spSums := by
  refine F.ok scSu (fun vs H Q E h => ?_) (fun cdv A outer s H vs Q E hr h => ?_)
  · obtain ⟨p, l, n, m, rows, ends, bs, rfl, _⟩ := h
    rfl
  obtain ⟨p, l, n, m, rows, ends, bs, rfl, M, W, b4, m4, q⟩ := h
  refine ⟨_, pss_cons (ps_par (i := 3) (j := 4) (by rfl) scSu.nd rfl rfl (by decide) rfl rfl (pa_cons (pe_lc (own := [("_law_end", 11)]) (g := gName 11) (tt := tYes) rfl scSu.nd (pi_tup (pe_ixT (pv 0) pe_int (fun _ _ => rfl)))
        (blkOk_by (own := [("_law_end", 11)]) (N := NSu) (sc := defScope sSums) (by decide +kernel)) (fun _ _ _ _ _ => pg_name (i := 11) scSu.nd rfl (Or.inl rfl)) (fun _ _ _ _ _ => pts_nil) (fun _ _ _ _ _ => pe_callTy call_int1 (by rfl) T.c.int (by decide +kernel) (pa_cons (pv 11) pa_nil)))
        (pa_cons (pe_lst pa_nil) pa_nil)) (by rfl))
    (pss_cons (ps_for PassesOwn.never rfl (pi_range1 rfl T.c.range (pa_cons (pe_op op_add (pv 2) pe_int) pa_nil)) (pg_name (i := 5) scSu.nd rfl (Or.inl rfl))
      (pss_cons (ps_expr (pe_bm PySem.F.plainAttrs_list PySem.F.slot_list_append PySem.F.type_list_append mt_append (pv 4) (pa_cons (pe_ix ix_list (pv 3) pe_int (fun _ _ => rfl)) pa_nil)))
      (pss_cons (ps_set (i := 6) scSu.nd rfl (Or.inl rfl) (pe_lst pa_nil))
      (pss_cons (ps_for PassesOwn.never rfl (pi_tup (pe_ixT (pv 0) pe_int (fun _ _ => rfl))) (pg_name (i := 7) scSu.nd rfl (Or.inl rfl))
        (pss_cons (ps_set (i := 8) scSu.nd rfl (Or.inl rfl) pe_int)
        (pss_cons (ps_for PassesOwn.never rfl (pi_range1 rfl T.c.range (pa_cons (pe_ixT (pv 0) pe_int (fun _ _ => rfl)) pa_nil)) (pg_name (i := 9) scSu.nd rfl (Or.inl rfl))
          (pss_one (ps_if (pt_cmpR op_notN (pe_ixT (pv 7) (pv 9) (fun _ _ => rfl)) pe_non (nomark _))
            (pss_cons (ps_set (i := 10) scSu.nd rfl (Or.inl rfl) (pe_ix ix_list (pv 3) (pe_ixT (pv 7) (pv 9) (fun _ _ => rfl)) (fun _ _ => rfl)))
            (pss_one (ps_set (i := 8) scSu.nd rfl (Or.inl rfl) (pe_op op_add (pv 8) (pe_ifExp (pt_cmpR op_eq (pe_ix ix_str (pv 1) (pv 9) (fun _ _ => rfl)) pe_str (nomark _)) (pv 10) (pe_op op_sub pe_int (pv 10))))))) pss_nil)))
        (pss_one (ps_expr (pe_bm PySem.F.plainAttrs_list PySem.F.slot_list_append PySem.F.type_list_append mt_append (pv 6) (pa_cons (pv 8) pa_nil)))))))
      (pss_one (ps_set (i := 3) scSu.nd rfl (Or.inl rfl) (pv 6)))))))
    (pss_one (ps_ret (pv 4)))), ?_⟩
  obtain ⟨pr, pe, rvs, h1, h2, h3, h4, h5⟩ := M.ex
  have l4 := W.l4
  have n4 := W.n4
  have n1 := W.n1
  obtain ⟨wv, hwv⟩ : ∃ wv : Nat → List V, wv = fun k => (List.range n).map fun s => V.int (cnt l rows ends bs k s) := ⟨_, rfl⟩
  have wlen : ∀ k, (wv k).length = n := fun k => by rw [hwv, List.length_map, List.length_range]
  have wat : ∀ k s, s < n → (wv k)[s]? = some (V.int (cnt l rows ends bs k s)) := fun k s hs => by
    rw [hwv, List.getElem?_map, List.getElem?_range hs]
    rfl
  refine ⟨_, rfl, p, _, 2, .ref pe, rfl, rfl, .inl (.inl h1), rfl, pe, rfl, ⟨_, .inl (.inl h3)⟩, fun L nL => lc_tup (K := K) (a := pe) (xs := ends.map V.bl) (fun j G' => Same H G' ∧ G' L = some (.lst ((List.range j).map fun s => V.int (cnt l rows ends bs 0 s))))
    ⟨same_new nL _, by rw [upd_same]; rfl⟩ (fun j G' _ h => .inl (.inl (h.1 _ _ h3))) ?_ ?_⟩
  · rintro j x G' hx ⟨s2, g2⟩
    rw [List.getElem?_map] at hx
    cases e : ends[j]? with
    | none => rw [e] at hx; cases hx
    | some b =>
      rw [e] at hx
      cases hx
      have jl : j < n := by rw [← W.el]; exact (List.getElem?_eq_some_iff.mp e).1
      refine ⟨rfl, _, rfl, .inr ⟨b, rfl, _, g2, by rw [List.length_map, List.length_range]; show j < 2 ^ 24; omega, same_grow nL s2 _, ?_⟩⟩
      have eb : cnt l rows ends bs 0 j = if b = true then 1 else 0 := by
        show (if ends.getD j false = true then (1 : Int) else 0) = _
        rw [List.getD_eq_getElem?_getD, e]
        rfl
      rw [upd_same, List.range_succ, List.map_append, ← eb]
      rfl
  rintro G0 ⟨s0, g0⟩
  rw [List.length_map, W.el] at g0
  have g0' : G0 L = some (.lst (wv 0)) := by rw [hwv]; exact g0
  refine ⟨by show 0 ≤ 2 ^ 24; decide, fun lf nlf => ⟨_, _, rfl, ?_⟩⟩
  have nHf : H lf = none := s0.free nlf
  have Llf : L ≠ lf := fun e => by rw [e] at g0; rw [g0] at nlf; cases nlf
  have sA := s0.trans (same_new nlf (.lst ([] : List V)))
  have gA := same_new nlf (.lst ([] : List V)) _ _ g0'
  have gF : upd G0 lf (.lst []) lf = some (.lst (sums l rows ends bs 0)) := upd_same
  generalize upd G0 lf (.lst []) = GA at sA gA gF
  refine ⟨_, rfl, _, _, rfl, rfl, (m + 1 : Nat), rfl, by omega, by omega, for_range (lo := 0) (n := m + 1) (fun i σ G => ∃ (wa : Addr) (k5 k6 k7 k8 k9 k10 : Option V), σ = [some (.ref p), some (.str (sS bs)), some (.int m), some (.ref wa), some (.ref lf), k5, k6, k7, k8, k9, k10, none] ∧ Same H G ∧
      G wa = some (.lst (wv i)) ∧ G lf = some (.lst (sums l rows ends bs i)) ∧ wa ≠ lf) ⟨L, none, none, none, none, none, none, rfl, sA, gA, gF, Llf⟩ ?_ ?_⟩
  · rintro i σ G hi ⟨wa, k5, k6, k7, k8, k9, k10, rfl, sG, gw, gf, nwf⟩
    refine ⟨_, rfl, .inl ⟨rfl, _, .inl (.inl gf)⟩, _, rfl, wa, _, 0, _, rfl, rfl, .inl (.inl gw), atI_nat (j := 0) (wat i 0 (by omega)), lf, _, _, rfl, rfl, gf, by unfold sums; rw [List.length_map, List.length_range]; show i < 2 ^ 24; omega, ?_⟩
    have s1 : Same H (upd G lf (.lst (sums l rows ends bs i ++ [V.int (cnt l rows ends bs i 0)]))) := same_grow nHf sG _
    have gw1 : upd G lf (.lst (sums l rows ends bs i ++ [V.int (cnt l rows ends bs i 0)])) wa = some (.lst (wv i)) := by rw [upd_ne nwf]; exact gw
    have gf1 : upd G lf (.lst (sums l rows ends bs i ++ [V.int (cnt l rows ends bs i 0)])) lf = some (.lst (sums l rows ends bs (i + 1))) := by
      rw [upd_same]
      unfold sums
      rw [List.range_succ, List.map_append]
      rfl
    generalize upd G lf (.lst (sums l rows ends bs i ++ [V.int (cnt l rows ends bs i 0)])) = G1 at s1 gw1 gf1
    refine ⟨by show 0 ≤ 2 ^ 24; decide, fun la nla => ?_⟩
    have laf : la ≠ lf := fun e => by rw [e, gf1] at nla; cases nla
    have t1 := same_new nla (.lst ([] : List V))
    have gl : upd G1 la (.lst []) la = some (.lst ((List.range 0).map fun s => V.int (cnt l rows ends bs (i + 1) s))) := upd_same
    generalize upd G1 la (.lst []) = G2 at t1 gl
    refine ⟨_, rfl, p, _, 1, .ref pr, rfl, rfl, .inl (.inl (t1 _ _ (s1 _ _ h1))), rfl, pr, rfl, ⟨_, .inl (.inl (t1 _ _ (s1 _ _ h2)))⟩, for_tup (K := K) (a := pr) (xs := rvs) (fun s σ G' => ∃ (k7 k8 k9 k10 : Option V), σ = [some (.ref p), some (.str (sS bs)), some (.int m), some (.ref wa), some (.ref lf), some (.int (0 + i)), some (.ref la), k7, k8, k9, k10, none] ∧ Same G1 G' ∧
        G' la = some (.lst ((List.range s).map fun s => V.int (cnt l rows ends bs (i + 1) s)))) ⟨_, _, _, _, rfl, t1, gl⟩ (fun s σ G' _ h => let ⟨_, _, _, _, _, t, _⟩ := h; .inl (.inl (t _ _ (s1 _ _ h2)))) ?_ ?_⟩
    · rintro s x σ G' hx ⟨k7, k8, k9, k10, rfl, t2, g2⟩
      have sl : s < rows.length := by rw [← h4]; exact (List.getElem?_eq_some_iff.mp hx).1
      obtain ⟨t, ht1, ht2⟩ := h5 s rows[s] (List.getElem?_eq_getElem sl)
      rw [hx] at ht1
      cases ht1
      obtain ⟨r, r1, r2, r3, r4⟩ := W.row (s := s) (by rw [← W.rl]; exact sl)
      rw [List.getElem?_eq_getElem sl] at r1
      cases r1
      have gt := t2 _ _ (s1 _ _ ht2)
      have gw2 := t2 _ _ gw1
      have gp := t2 _ _ (s1 _ _ h1)
      refine ⟨_, rfl, p, _, 0, .int l, rfl, rfl, .inl (.inl gp), rfl, l, rfl, by omega, by omega, for_range (lo := 0) (n := l) (fun j σ G'' => ∃ (k9 k10 : Option V), σ = [some (.ref p), some (.str (sS bs)), some (.int m), some (.ref wa), some (.ref lf), some (.int (0 + i)), some (.ref la), some (.ref t),
          some (.int (pS rows bs (cnt l rows ends bs i) s j)), k9, k10, none] ∧ G'' = G') ⟨_, _, rfl, rfl⟩ ?_ ?_⟩
      · rintro j σ G'' hj ⟨k9, k10, rfl, rfl⟩
        have jr : j < rows[s].length := by rw [r2]; exact hj
        have ro : (rows[s].map oV)[j]? = some (oV (stepM rows s j)) := by
          rw [List.getElem?_map, r4, List.getD_eq_getElem?_getD, List.getElem?_eq_getElem jr]
          rfl
        have ai : atI (rows[s].map oV) (0 + (j : Int)) = some (oV (stepM rows s j)) := by rw [Int.zero_add]; exact atI_nat ro
        refine ⟨_, rfl, _, rfl, t, _, _, _, rfl, rfl, .inl (.inl gt), ai, rfl, _, rfl, ?_⟩
        cases e : stepM rows s j with
        | none =>
          exact iteF ⟨some (.int (0 + j)), k10, by rw [pS_none e]; rfl, rfl⟩
        | some t' =>
          have tl : t' < n := W.step_lt (by rw [← W.rl]; exact sl) e
          refine iteT ?_
          have ai' : atI (rows[s].map oV) (0 + (j : Int)) = some (V.int (t' : Int)) := by rw [ai, e]; rfl
          refine ⟨_, rfl, _, rfl, _, rfl, t, _, _, _, rfl, rfl, .inl (.inl gt), ai', wa, _, _, _, rfl, rfl, .inl (.inl gw2), atI_nat (wat i t' tl), ?_⟩
          have sa : atI (sS bs).cps.toList (0 + (j : Int)) = some (sc (bs.getD j false)) := by rw [Int.zero_add]; exact atI_nat (sS_at (by rw [b4]; exact hj))
          refine ⟨_, rfl, _, rfl, _, rfl, _, _, _, rfl, rfl, by rw [sS_len]; show _ ≤ 2 ^ 24; omega, sa, rfl, _, rfl, ?_⟩
          rw [sc_plus]
          cases eb : bs.getD j false with
          | true =>
            refine iteF ⟨_, rfl, _, _, rfl, rfl, _, _, rfl, rfl, some (.int (0 + j)), some (.int (cnt l rows ends bs i t')), ?_, rfl⟩
            rw [pS_minus e eb]
            rfl
          | false =>
            refine iteT ⟨_, rfl, _, _, rfl, rfl, some (.int (0 + j)), some (.int (cnt l rows ends bs i t')), ?_, rfl⟩
            rw [pS_plus e eb]
            rfl
      · rintro σ G'' ⟨k9, k10, rfl, rfl⟩
        have g3 := g2
        have sn : s < n := by rw [← W.rl]; exact sl
        have noG1 : G1 la = none := nla
        refine ⟨_, rfl, .inl ⟨rfl, _, .inl (.inl g3)⟩, _, rfl, la, _, _, rfl, rfl, g3, by rw [List.length_map, List.length_range]; show s < 2 ^ 24; omega, ?_⟩
        refine ⟨_, _, _, _, rfl, same_grow noG1 t2 _, ?_⟩
        rw [upd_same, List.range_succ, List.map_append]
        rfl
    · rintro σ G' ⟨k7, k8, k9, k10, rfl, t2, g2⟩
      rw [h4, W.rl] at g2
      have g2' : G' la = some (.lst (wv (i + 1))) := by rw [hwv]; exact g2
      exact ⟨_, rfl, la, _, _, _, _, _, _, rfl, s1.trans t2, g2', t2 _ _ gf1, laf⟩
  · rintro σ G ⟨wa, k5, k6, k7, k8, k9, k10, rfl, sG, gw, gf, nwf⟩
    exact ⟨_, rfl, q lf G sG gf⟩
end
end K25
/-! The steps of the signed counts. -/
namespace S25
open PySem L2 GL KC K25
abbrev sS1 : Stmt := top 13
abbrev NS1 : List Str := ["goals", "sums", "one"]
theorem scS1 : FnScope NS1 ["goals", "sums"] (defScope sS1) := ⟨rfl, rfl, rfl, by decide +kernel, rfl, by decide +kernel, by decide +kernel⟩
abbrev sS2 : Stmt := top 14
abbrev NS2 : List Str := ["goals", "sums", "one", "two"]
theorem scS2 : FnScope NS2 ["goals", "sums"] (defScope sS2) := ⟨rfl, rfl, rfl, by decide +kernel, rfl, by decide +kernel, by decide +kernel⟩
abbrev sS3 : Stmt := top 15
abbrev NS3 : List Str := ["goals", "sums", "one", "two"]
theorem scS3 : FnScope NS3 ["goals", "sums"] (defScope sS3) := ⟨rfl, rfl, rfl, by decide +kernel, rfl, by decide +kernel, by decide +kernel⟩
abbrev sS4 : Stmt := top 16
abbrev NS4 : List Str := ["goals", "sums", "one", "two", "three"]
theorem scS4 : FnScope NS4 ["goals", "sums"] (defScope sS4) := ⟨rfl, rfl, rfl, by decide +kernel, rfl, by decide +kernel, by decide +kernel⟩
abbrev sS5 : Stmt := top 17
abbrev NS5 : List Str := ["goals", "sums", "one", "two", "three"]
theorem scS5 : FnScope NS5 ["goals", "sums"] (defScope sS5) := ⟨rfl, rfl, rfl, by decide +kernel, rfl, by decide +kernel, by decide +kernel⟩
abbrev sS6 : Stmt := top 18
abbrev NS6 : List Str := ["goals", "sums", "one", "two", "three", "four"]
theorem scS6 : FnScope NS6 ["goals", "sums"] (defScope sS6) := ⟨rfl, rfl, rfl, by decide +kernel, rfl, by decide +kernel, by decide +kernel⟩
abbrev sS7 : Stmt := top 19
abbrev NS7 : List Str := ["goals", "sums", "one", "two", "three", "four"]
theorem scS7 : FnScope NS7 ["goals", "sums"] (defScope sS7) := ⟨rfl, rfl, rfl, by decide +kernel, rfl, by decide +kernel, by decide +kernel⟩
abbrev sS8 : Stmt := top 20
abbrev NS8 : List Str := ["goals", "sums", "one", "two", "three", "four"]
theorem scS8 : FnScope NS8 ["goals", "sums"] (defScope sS8) := ⟨rfl, rfl, rfl, by decide +kernel, rfl, by decide +kernel, by decide +kernel⟩
/-- the sums that a state's goals give, each with its sign -/
def dot : List Int → List Nat → List Int → Int
  | s :: sg, j :: js, us => s * us.getD j 0 + dot sg js us
  | _, _, _ => 0
/-- one step: what is due for each row of goals -/
def spStep (sg : List Int) : Sp := fun vs H Q _ => ∃ (a b : Addr) (ts : List Addr) (rows : List (List Nat)) (us : List Int), vs = [.ref a, .ref b] ∧ H a = some (.lst (ts.map V.ref)) ∧ ts.length = rows.length ∧ (∀ (i : Nat) (r : List Nat), rows[i]? = some r → ∃ t : Addr, ts[i]? = some t ∧ H t = some (.tup (r.map fun j : Nat => V.int (j : Int)))) ∧
  (∀ r ∈ rows, r.length = sg.length ∧ ∀ j ∈ r, j < us.length) ∧ rows.length ≤ 1000 ∧ us.length ≤ 1000 ∧ H b = some (.lst (us.map V.int)) ∧ ∀ (L : Addr) (G : Hp), Same H G → G L = some (.lst ((rows.map fun r => dot sg r us).map V.int)) → Q (.ref L) G
section
variable {P : Program} {w : World} {K : PySem.W.Frag} {mg : Str → Option Value} {base : Heap}
theorem ok_s1 {f : Addr} {fd : FuncData} (F : Fun K "one_more" "one_more" sS1 f fd) (T : TxC mg) : FnOk P w K mg base CX0 1 f fd ["goals", "sums"] (spStep [1]) := by
  refine F.ok scS1 (fun vs H Q E h => ?_) (fun cdv A outer s H vs Q E hr h => ?_)
  · obtain ⟨a, b, ts, rows, us, rfl, _⟩ := h
    rfl
  obtain ⟨a, b, ts, rows, us, rfl, ha, tl, hrow, hr2, rl, ul, hb, q⟩ := h
  refine ⟨_, (pss_one (ps_ret (pe_lc (own := [("one", 2)]) (g := gTup K 1 (gCons (gName 2) gNil)) (tt := tYes) rfl scS1.nd (pi_list (pv 0)) (blkOk_by (own := [("one", 2)]) (N := NS1) (sc := defScope sS1) (by decide +kernel)) (fun _ _ _ _ _ => show PG _ _ (gTup K 1 (gCons (gName 2) gNil)) from pg_tup (by rfl) (pgs_cons (pg_name (i := 2) scS1.nd rfl (Or.inl rfl)) pgs_nil)) (fun _ _ _ _ _ => pts_nil) (fun _ _ _ _ _ => (show PE _ _ (tOp (rIxL K) _ _) from (pe_ix ix_list (pv 1) (pv 2) (fun _ _ => rfl))))))), ?_⟩
  refine ⟨_, rfl, a, rfl, ⟨_, .inl (.inl ha)⟩, fun L nL => lc_list (K := K) (a := a) (xs := ts.map V.ref) (fun i G => Same H G ∧ G L = some (.lst (((rows.take i).map fun r => dot [1] r us).map V.int))) ⟨same_new nL _, upd_same⟩ (fun i G _ h => .inl (.inl (h.1 _ _ ha))) ?_ ?_⟩
  · rintro i x G hx ⟨sG, gL⟩
    rw [List.getElem?_map] at hx
    obtain ⟨t, ht, rfl⟩ := Option.map_eq_some_iff.mp hx
    have il : i < rows.length := by rw [← tl]; exact (List.getElem?_eq_some_iff.mp ht).1
    have er := List.getElem?_eq_getElem il
    obtain ⟨t', ht', gt⟩ := hrow i _ er
    rw [ht] at ht'
    cases ht'
    obtain ⟨r4, rj⟩ := hr2 _ (List.getElem_mem il)
    generalize hrr : rows[i] = r at *
    match r, r4 with
    | [j1], _ =>
    have at_ : ∀ j, j < us.length → atI (us.map V.int) (j : Int) = some (.int (us.getD j 0)) := fun j hj => by
      refine atI_nat (j := j) ?_
      rw [List.getElem?_map, List.getElem?_eq_getElem hj, List.getD_eq_getElem?_getD, List.getElem?_eq_getElem hj]
      rfl
    refine ⟨t, _, rfl, .inl (.inl (sG _ _ gt)), rfl, _, _, rfl, rfl, ?_⟩
    refine ⟨rfl, _, rfl, _, rfl, b, _, (j1 : Int), _, rfl, rfl, .inl (.inl (sG _ _ hb)), at_ j1 (rj j1 (by simp)), _, gL, ?_, same_grow nL sG _, ?_⟩
    · rw [List.length_map, List.length_map, List.length_take]
      show min i _ < 2 ^ 24
      omega
    · rw [upd_same, List.take_add_one, er, List.map_append, List.map_append]
      congr 3
      show [V.int _] = [V.int (dot [1] [j1] us)]
      congr 2
      simp only [dot]
      omega
  · rintro G ⟨sG, gL⟩
    rw [List.length_map, tl, List.take_length] at gL
    exact q L G sG gL
theorem ok_s2 {f : Addr} {fd : FuncData} (F : Fun K "two_more" "two_more" sS2 f fd) (T : TxC mg) : FnOk P w K mg base CX0 1 f fd ["goals", "sums"] (spStep [1, 1]) := by
  refine F.ok scS2 (fun vs H Q E h => ?_) (fun cdv A outer s H vs Q E hr h => ?_)
  · obtain ⟨a, b, ts, rows, us, rfl, _⟩ := h
    rfl
  obtain ⟨a, b, ts, rows, us, rfl, ha, tl, hrow, hr2, rl, ul, hb, q⟩ := h
  refine ⟨_, (pss_one (ps_ret (pe_lc (own := [("one", 2), ("two", 3)]) (g := gTup K 2 (gCons (gName 2) (gCons (gName 3) gNil))) (tt := tYes) rfl scS2.nd (pi_list (pv 0)) (blkOk_by (own := [("one", 2), ("two", 3)]) (N := NS2) (sc := defScope sS2) (by decide +kernel)) (fun _ _ _ _ _ => show PG _ _ (gTup K 2 (gCons (gName 2) (gCons (gName 3) gNil))) from pg_tup (by rfl) (pgs_cons (pg_name (i := 2) scS2.nd rfl (Or.inl rfl)) (pgs_cons (pg_name (i := 3) scS2.nd rfl (Or.inl rfl)) pgs_nil))) (fun _ _ _ _ _ => pts_nil) (fun _ _ _ _ _ => (pe_op op_add (show PE _ _ (tOp (rIxL K) _ _) from (pe_ix ix_list (pv 1) (pv 2) (fun _ _ => rfl))) (show PE _ _ (tOp (rIxL K) _ _) from (pe_ix ix_list (pv 1) (pv 3) (fun _ _ => rfl)))))))), ?_⟩
  refine ⟨_, rfl, a, rfl, ⟨_, .inl (.inl ha)⟩, fun L nL => lc_list (K := K) (a := a) (xs := ts.map V.ref) (fun i G => Same H G ∧ G L = some (.lst (((rows.take i).map fun r => dot [1, 1] r us).map V.int))) ⟨same_new nL _, upd_same⟩ (fun i G _ h => .inl (.inl (h.1 _ _ ha))) ?_ ?_⟩
  · rintro i x G hx ⟨sG, gL⟩
    rw [List.getElem?_map] at hx
    obtain ⟨t, ht, rfl⟩ := Option.map_eq_some_iff.mp hx
    have il : i < rows.length := by rw [← tl]; exact (List.getElem?_eq_some_iff.mp ht).1
    have er := List.getElem?_eq_getElem il
    obtain ⟨t', ht', gt⟩ := hrow i _ er
    rw [ht] at ht'
    cases ht'
    obtain ⟨r4, rj⟩ := hr2 _ (List.getElem_mem il)
    generalize hrr : rows[i] = r at *
    match r, r4 with
    | [j1, j2], _ =>
    have at_ : ∀ j, j < us.length → atI (us.map V.int) (j : Int) = some (.int (us.getD j 0)) := fun j hj => by
      refine atI_nat (j := j) ?_
      rw [List.getElem?_map, List.getElem?_eq_getElem hj, List.getD_eq_getElem?_getD, List.getElem?_eq_getElem hj]
      rfl
    refine ⟨t, _, rfl, .inl (.inl (sG _ _ gt)), rfl, _, _, rfl, _, _, rfl, rfl, ?_⟩
    refine ⟨rfl, _, rfl, _, rfl, b, _, (j1 : Int), _, rfl, rfl, .inl (.inl (sG _ _ hb)), at_ j1 (rj j1 (by simp)), _, rfl, _, rfl, b, _, (j2 : Int), _, rfl, rfl, .inl (.inl (sG _ _ hb)), at_ j2 (rj j2 (by simp)), _, _, rfl, rfl, _, gL, ?_, same_grow nL sG _, ?_⟩
    · rw [List.length_map, List.length_map, List.length_take]
      show min i _ < 2 ^ 24
      omega
    · rw [upd_same, List.take_add_one, er, List.map_append, List.map_append]
      congr 3
      show [V.int _] = [V.int (dot [1, 1] [j1, j2] us)]
      congr 2
      simp only [dot]
      omega
  · rintro G ⟨sG, gL⟩
    rw [List.length_map, tl, List.take_length] at gL
    exact q L G sG gL
theorem ok_s3 {f : Addr} {fd : FuncData} (F : Fun K "one_more_one_less" "one_more_one_less" sS3 f fd) (T : TxC mg) : FnOk P w K mg base CX0 1 f fd ["goals", "sums"] (spStep [1, -1]) := by
  refine F.ok scS3 (fun vs H Q E h => ?_) (fun cdv A outer s H vs Q E hr h => ?_)
  · obtain ⟨a, b, ts, rows, us, rfl, _⟩ := h
    rfl
  obtain ⟨a, b, ts, rows, us, rfl, ha, tl, hrow, hr2, rl, ul, hb, q⟩ := h
  refine ⟨_, (pss_one (ps_ret (pe_lc (own := [("one", 2), ("two", 3)]) (g := gTup K 2 (gCons (gName 2) (gCons (gName 3) gNil))) (tt := tYes) rfl scS3.nd (pi_list (pv 0)) (blkOk_by (own := [("one", 2), ("two", 3)]) (N := NS3) (sc := defScope sS3) (by decide +kernel)) (fun _ _ _ _ _ => show PG _ _ (gTup K 2 (gCons (gName 2) (gCons (gName 3) gNil))) from pg_tup (by rfl) (pgs_cons (pg_name (i := 2) scS3.nd rfl (Or.inl rfl)) (pgs_cons (pg_name (i := 3) scS3.nd rfl (Or.inl rfl)) pgs_nil))) (fun _ _ _ _ _ => pts_nil) (fun _ _ _ _ _ => (pe_op op_sub (show PE _ _ (tOp (rIxL K) _ _) from (pe_ix ix_list (pv 1) (pv 2) (fun _ _ => rfl))) (show PE _ _ (tOp (rIxL K) _ _) from (pe_ix ix_list (pv 1) (pv 3) (fun _ _ => rfl)))))))), ?_⟩
  refine ⟨_, rfl, a, rfl, ⟨_, .inl (.inl ha)⟩, fun L nL => lc_list (K := K) (a := a) (xs := ts.map V.ref) (fun i G => Same H G ∧ G L = some (.lst (((rows.take i).map fun r => dot [1, -1] r us).map V.int))) ⟨same_new nL _, upd_same⟩ (fun i G _ h => .inl (.inl (h.1 _ _ ha))) ?_ ?_⟩
  · rintro i x G hx ⟨sG, gL⟩
    rw [List.getElem?_map] at hx
    obtain ⟨t, ht, rfl⟩ := Option.map_eq_some_iff.mp hx
    have il : i < rows.length := by rw [← tl]; exact (List.getElem?_eq_some_iff.mp ht).1
    have er := List.getElem?_eq_getElem il
    obtain ⟨t', ht', gt⟩ := hrow i _ er
    rw [ht] at ht'
    cases ht'
    obtain ⟨r4, rj⟩ := hr2 _ (List.getElem_mem il)
    generalize hrr : rows[i] = r at *
    match r, r4 with
    | [j1, j2], _ =>
    have at_ : ∀ j, j < us.length → atI (us.map V.int) (j : Int) = some (.int (us.getD j 0)) := fun j hj => by
      refine atI_nat (j := j) ?_
      rw [List.getElem?_map, List.getElem?_eq_getElem hj, List.getD_eq_getElem?_getD, List.getElem?_eq_getElem hj]
      rfl
    refine ⟨t, _, rfl, .inl (.inl (sG _ _ gt)), rfl, _, _, rfl, _, _, rfl, rfl, ?_⟩
    refine ⟨rfl, _, rfl, _, rfl, b, _, (j1 : Int), _, rfl, rfl, .inl (.inl (sG _ _ hb)), at_ j1 (rj j1 (by simp)), _, rfl, _, rfl, b, _, (j2 : Int), _, rfl, rfl, .inl (.inl (sG _ _ hb)), at_ j2 (rj j2 (by simp)), _, _, rfl, rfl, _, gL, ?_, same_grow nL sG _, ?_⟩
    · rw [List.length_map, List.length_map, List.length_take]
      show min i _ < 2 ^ 24
      omega
    · rw [upd_same, List.take_add_one, er, List.map_append, List.map_append]
      congr 3
      show [V.int _] = [V.int (dot [1, -1] [j1, j2] us)]
      congr 2
      simp only [dot]
      omega
  · rintro G ⟨sG, gL⟩
    rw [List.length_map, tl, List.take_length] at gL
    exact q L G sG gL
theorem ok_s4 {f : Addr} {fd : FuncData} (F : Fun K "three_more" "three_more" sS4 f fd) (T : TxC mg) : FnOk P w K mg base CX0 1 f fd ["goals", "sums"] (spStep [1, 1, 1]) := by
  refine F.ok scS4 (fun vs H Q E h => ?_) (fun cdv A outer s H vs Q E hr h => ?_)
  · obtain ⟨a, b, ts, rows, us, rfl, _⟩ := h
    rfl
  obtain ⟨a, b, ts, rows, us, rfl, ha, tl, hrow, hr2, rl, ul, hb, q⟩ := h
  refine ⟨_, (pss_one (ps_ret (pe_lc (own := [("one", 2), ("two", 3), ("three", 4)]) (g := gTup K 3 (gCons (gName 2) (gCons (gName 3) (gCons (gName 4) gNil)))) (tt := tYes) rfl scS4.nd (pi_list (pv 0)) (blkOk_by (own := [("one", 2), ("two", 3), ("three", 4)]) (N := NS4) (sc := defScope sS4) (by decide +kernel)) (fun _ _ _ _ _ => show PG _ _ (gTup K 3 (gCons (gName 2) (gCons (gName 3) (gCons (gName 4) gNil)))) from pg_tup (by rfl) (pgs_cons (pg_name (i := 2) scS4.nd rfl (Or.inl rfl)) (pgs_cons (pg_name (i := 3) scS4.nd rfl (Or.inl rfl)) (pgs_cons (pg_name (i := 4) scS4.nd rfl (Or.inl rfl)) pgs_nil)))) (fun _ _ _ _ _ => pts_nil) (fun _ _ _ _ _ => (pe_op op_add (pe_op op_add (show PE _ _ (tOp (rIxL K) _ _) from (pe_ix ix_list (pv 1) (pv 2) (fun _ _ => rfl))) (show PE _ _ (tOp (rIxL K) _ _) from (pe_ix ix_list (pv 1) (pv 3) (fun _ _ => rfl)))) (show PE _ _ (tOp (rIxL K) _ _) from (pe_ix ix_list (pv 1) (pv 4) (fun _ _ => rfl)))))))), ?_⟩
  refine ⟨_, rfl, a, rfl, ⟨_, .inl (.inl ha)⟩, fun L nL => lc_list (K := K) (a := a) (xs := ts.map V.ref) (fun i G => Same H G ∧ G L = some (.lst (((rows.take i).map fun r => dot [1, 1, 1] r us).map V.int))) ⟨same_new nL _, upd_same⟩ (fun i G _ h => .inl (.inl (h.1 _ _ ha))) ?_ ?_⟩
  · rintro i x G hx ⟨sG, gL⟩
    rw [List.getElem?_map] at hx
    obtain ⟨t, ht, rfl⟩ := Option.map_eq_some_iff.mp hx
    have il : i < rows.length := by rw [← tl]; exact (List.getElem?_eq_some_iff.mp ht).1
    have er := List.getElem?_eq_getElem il
    obtain ⟨t', ht', gt⟩ := hrow i _ er
    rw [ht] at ht'
    cases ht'
    obtain ⟨r4, rj⟩ := hr2 _ (List.getElem_mem il)
    generalize hrr : rows[i] = r at *
    match r, r4 with
    | [j1, j2, j3], _ =>
    have at_ : ∀ j, j < us.length → atI (us.map V.int) (j : Int) = some (.int (us.getD j 0)) := fun j hj => by
      refine atI_nat (j := j) ?_
      rw [List.getElem?_map, List.getElem?_eq_getElem hj, List.getD_eq_getElem?_getD, List.getElem?_eq_getElem hj]
      rfl
    refine ⟨t, _, rfl, .inl (.inl (sG _ _ gt)), rfl, _, _, rfl, _, _, rfl, _, _, rfl, rfl, ?_⟩
    refine ⟨rfl, _, rfl, _, rfl, b, _, (j1 : Int), _, rfl, rfl, .inl (.inl (sG _ _ hb)), at_ j1 (rj j1 (by simp)), _, rfl, _, rfl, b, _, (j2 : Int), _, rfl, rfl, .inl (.inl (sG _ _ hb)), at_ j2 (rj j2 (by simp)), _, _, rfl, rfl, _, rfl, _, rfl, b, _, (j3 : Int), _, rfl, rfl, .inl (.inl (sG _ _ hb)), at_ j3 (rj j3 (by simp)), _, _, rfl, rfl, _, gL, ?_, same_grow nL sG _, ?_⟩
    · rw [List.length_map, List.length_map, List.length_take]
      show min i _ < 2 ^ 24
      omega
    · rw [upd_same, List.take_add_one, er, List.map_append, List.map_append]
      congr 3
      show [V.int _] = [V.int (dot [1, 1, 1] [j1, j2, j3] us)]
      congr 2
      simp only [dot]
      omega
  · rintro G ⟨sG, gL⟩
    rw [List.length_map, tl, List.take_length] at gL
    exact q L G sG gL
theorem ok_s5 {f : Addr} {fd : FuncData} (F : Fun K "two_more_one_less" "two_more_one_less" sS5 f fd) (T : TxC mg) : FnOk P w K mg base CX0 1 f fd ["goals", "sums"] (spStep [1, 1, -1]) := by
  refine F.ok scS5 (fun vs H Q E h => ?_) (fun cdv A outer s H vs Q E hr h => ?_)
  · obtain ⟨a, b, ts, rows, us, rfl, _⟩ := h
    rfl
  obtain ⟨a, b, ts, rows, us, rfl, ha, tl, hrow, hr2, rl, ul, hb, q⟩ := h
  refine ⟨_, (pss_one (ps_ret (pe_lc (own := [("one", 2), ("two", 3), ("three", 4)]) (g := gTup K 3 (gCons (gName 2) (gCons (gName 3) (gCons (gName 4) gNil)))) (tt := tYes) rfl scS5.nd (pi_list (pv 0)) (blkOk_by (own := [("one", 2), ("two", 3), ("three", 4)]) (N := NS5) (sc := defScope sS5) (by decide +kernel)) (fun _ _ _ _ _ => show PG _ _ (gTup K 3 (gCons (gName 2) (gCons (gName 3) (gCons (gName 4) gNil)))) from pg_tup (by rfl) (pgs_cons (pg_name (i := 2) scS5.nd rfl (Or.inl rfl)) (pgs_cons (pg_name (i := 3) scS5.nd rfl (Or.inl rfl)) (pgs_cons (pg_name (i := 4) scS5.nd rfl (Or.inl rfl)) pgs_nil)))) (fun _ _ _ _ _ => pts_nil) (fun _ _ _ _ _ => (pe_op op_sub (pe_op op_add (show PE _ _ (tOp (rIxL K) _ _) from (pe_ix ix_list (pv 1) (pv 2) (fun _ _ => rfl))) (show PE _ _ (tOp (rIxL K) _ _) from (pe_ix ix_list (pv 1) (pv 3) (fun _ _ => rfl)))) (show PE _ _ (tOp (rIxL K) _ _) from (pe_ix ix_list (pv 1) (pv 4) (fun _ _ => rfl)))))))), ?_⟩
  refine ⟨_, rfl, a, rfl, ⟨_, .inl (.inl ha)⟩, fun L nL => lc_list (K := K) (a := a) (xs := ts.map V.ref) (fun i G => Same H G ∧ G L = some (.lst (((rows.take i).map fun r => dot [1, 1, -1] r us).map V.int))) ⟨same_new nL _, upd_same⟩ (fun i G _ h => .inl (.inl (h.1 _ _ ha))) ?_ ?_⟩
  · rintro i x G hx ⟨sG, gL⟩
    rw [List.getElem?_map] at hx
    obtain ⟨t, ht, rfl⟩ := Option.map_eq_some_iff.mp hx
    have il : i < rows.length := by rw [← tl]; exact (List.getElem?_eq_some_iff.mp ht).1
    have er := List.getElem?_eq_getElem il
    obtain ⟨t', ht', gt⟩ := hrow i _ er
    rw [ht] at ht'
    cases ht'
    obtain ⟨r4, rj⟩ := hr2 _ (List.getElem_mem il)
    generalize hrr : rows[i] = r at *
    match r, r4 with
    | [j1, j2, j3], _ =>
    have at_ : ∀ j, j < us.length → atI (us.map V.int) (j : Int) = some (.int (us.getD j 0)) := fun j hj => by
      refine atI_nat (j := j) ?_
      rw [List.getElem?_map, List.getElem?_eq_getElem hj, List.getD_eq_getElem?_getD, List.getElem?_eq_getElem hj]
      rfl
    refine ⟨t, _, rfl, .inl (.inl (sG _ _ gt)), rfl, _, _, rfl, _, _, rfl, _, _, rfl, rfl, ?_⟩
    refine ⟨rfl, _, rfl, _, rfl, b, _, (j1 : Int), _, rfl, rfl, .inl (.inl (sG _ _ hb)), at_ j1 (rj j1 (by simp)), _, rfl, _, rfl, b, _, (j2 : Int), _, rfl, rfl, .inl (.inl (sG _ _ hb)), at_ j2 (rj j2 (by simp)), _, _, rfl, rfl, _, rfl, _, rfl, b, _, (j3 : Int), _, rfl, rfl, .inl (.inl (sG _ _ hb)), at_ j3 (rj j3 (by simp)), _, _, rfl, rfl, _, gL, ?_, same_grow nL sG _, ?_⟩
    · rw [List.length_map, List.length_map, List.length_take]
      show min i _ < 2 ^ 24
      omega
    · rw [upd_same, List.take_add_one, er, List.map_append, List.map_append]
      congr 3
      show [V.int _] = [V.int (dot [1, 1, -1] [j1, j2, j3] us)]
      congr 2
      simp only [dot]
      omega
  · rintro G ⟨sG, gL⟩
    rw [List.length_map, tl, List.take_length] at gL
    exact q L G sG gL
theorem ok_s6 {f : Addr} {fd : FuncData} (F : Fun K "four_more" "four_more" sS6 f fd) (T : TxC mg) : FnOk P w K mg base CX0 1 f fd ["goals", "sums"] (spStep [1, 1, 1, 1]) := by
  refine F.ok scS6 (fun vs H Q E h => ?_) (fun cdv A outer s H vs Q E hr h => ?_)
  · obtain ⟨a, b, ts, rows, us, rfl, _⟩ := h
    rfl
  obtain ⟨a, b, ts, rows, us, rfl, ha, tl, hrow, hr2, rl, ul, hb, q⟩ := h
  refine ⟨_, (pss_one (ps_ret (pe_lc (own := [("one", 2), ("two", 3), ("three", 4), ("four", 5)]) (g := gTup K 4 (gCons (gName 2) (gCons (gName 3) (gCons (gName 4) (gCons (gName 5) gNil))))) (tt := tYes) rfl scS6.nd (pi_list (pv 0)) (blkOk_by (own := [("one", 2), ("two", 3), ("three", 4), ("four", 5)]) (N := NS6) (sc := defScope sS6) (by decide +kernel)) (fun _ _ _ _ _ => show PG _ _ (gTup K 4 (gCons (gName 2) (gCons (gName 3) (gCons (gName 4) (gCons (gName 5) gNil))))) from pg_tup (by rfl) (pgs_cons (pg_name (i := 2) scS6.nd rfl (Or.inl rfl)) (pgs_cons (pg_name (i := 3) scS6.nd rfl (Or.inl rfl)) (pgs_cons (pg_name (i := 4) scS6.nd rfl (Or.inl rfl)) (pgs_cons (pg_name (i := 5) scS6.nd rfl (Or.inl rfl)) pgs_nil))))) (fun _ _ _ _ _ => pts_nil) (fun _ _ _ _ _ => (pe_op op_add (pe_op op_add (pe_op op_add (show PE _ _ (tOp (rIxL K) _ _) from (pe_ix ix_list (pv 1) (pv 2) (fun _ _ => rfl))) (show PE _ _ (tOp (rIxL K) _ _) from (pe_ix ix_list (pv 1) (pv 3) (fun _ _ => rfl)))) (show PE _ _ (tOp (rIxL K) _ _) from (pe_ix ix_list (pv 1) (pv 4) (fun _ _ => rfl)))) (show PE _ _ (tOp (rIxL K) _ _) from (pe_ix ix_list (pv 1) (pv 5) (fun _ _ => rfl)))))))), ?_⟩
  refine ⟨_, rfl, a, rfl, ⟨_, .inl (.inl ha)⟩, fun L nL => lc_list (K := K) (a := a) (xs := ts.map V.ref) (fun i G => Same H G ∧ G L = some (.lst (((rows.take i).map fun r => dot [1, 1, 1, 1] r us).map V.int))) ⟨same_new nL _, upd_same⟩ (fun i G _ h => .inl (.inl (h.1 _ _ ha))) ?_ ?_⟩
  · rintro i x G hx ⟨sG, gL⟩
    rw [List.getElem?_map] at hx
    obtain ⟨t, ht, rfl⟩ := Option.map_eq_some_iff.mp hx
    have il : i < rows.length := by rw [← tl]; exact (List.getElem?_eq_some_iff.mp ht).1
    have er := List.getElem?_eq_getElem il
    obtain ⟨t', ht', gt⟩ := hrow i _ er
    rw [ht] at ht'
    cases ht'
    obtain ⟨r4, rj⟩ := hr2 _ (List.getElem_mem il)
    generalize hrr : rows[i] = r at *
    match r, r4 with
    | [j1, j2, j3, j4], _ =>
    have at_ : ∀ j, j < us.length → atI (us.map V.int) (j : Int) = some (.int (us.getD j 0)) := fun j hj => by
      refine atI_nat (j := j) ?_
      rw [List.getElem?_map, List.getElem?_eq_getElem hj, List.getD_eq_getElem?_getD, List.getElem?_eq_getElem hj]
      rfl
    refine ⟨t, _, rfl, .inl (.inl (sG _ _ gt)), rfl, _, _, rfl, _, _, rfl, _, _, rfl, _, _, rfl, rfl, ?_⟩
    refine ⟨rfl, _, rfl, _, rfl, b, _, (j1 : Int), _, rfl, rfl, .inl (.inl (sG _ _ hb)), at_ j1 (rj j1 (by simp)), _, rfl, _, rfl, b, _, (j2 : Int), _, rfl, rfl, .inl (.inl (sG _ _ hb)), at_ j2 (rj j2 (by simp)), _, _, rfl, rfl, _, rfl, _, rfl, b, _, (j3 : Int), _, rfl, rfl, .inl (.inl (sG _ _ hb)), at_ j3 (rj j3 (by simp)), _, _, rfl, rfl, _, rfl, _, rfl, b, _, (j4 : Int), _, rfl, rfl, .inl (.inl (sG _ _ hb)), at_ j4 (rj j4 (by simp)), _, _, rfl, rfl, _, gL, ?_, same_grow nL sG _, ?_⟩
    · rw [List.length_map, List.length_map, List.length_take]
      show min i _ < 2 ^ 24
      omega
    · rw [upd_same, List.take_add_one, er, List.map_append, List.map_append]
      congr 3
      show [V.int _] = [V.int (dot [1, 1, 1, 1] [j1, j2, j3, j4] us)]
      congr 2
      simp only [dot]
      omega
  · rintro G ⟨sG, gL⟩
    rw [List.length_map, tl, List.take_length] at gL
    exact q L G sG gL
theorem ok_s7 {f : Addr} {fd : FuncData} (F : Fun K "three_more_one_less" "three_more_one_less" sS7 f fd) (T : TxC mg) : FnOk P w K mg base CX0 1 f fd ["goals", "sums"] (spStep [1, 1, 1, -1]) := by
  refine F.ok scS7 (fun vs H Q E h => ?_) (fun cdv A outer s H vs Q E hr h => ?_)
  · obtain ⟨a, b, ts, rows, us, rfl, _⟩ := h
    rfl
  obtain ⟨a, b, ts, rows, us, rfl, ha, tl, hrow, hr2, rl, ul, hb, q⟩ := h
  refine ⟨_, (pss_one (ps_ret (pe_lc (own := [("one", 2), ("two", 3), ("three", 4), ("four", 5)]) (g := gTup K 4 (gCons (gName 2) (gCons (gName 3) (gCons (gName 4) (gCons (gName 5) gNil))))) (tt := tYes) rfl scS7.nd (pi_list (pv 0)) (blkOk_by (own := [("one", 2), ("two", 3), ("three", 4), ("four", 5)]) (N := NS7) (sc := defScope sS7) (by decide +kernel)) (fun _ _ _ _ _ => show PG _ _ (gTup K 4 (gCons (gName 2) (gCons (gName 3) (gCons (gName 4) (gCons (gName 5) gNil))))) from pg_tup (by rfl) (pgs_cons (pg_name (i := 2) scS7.nd rfl (Or.inl rfl)) (pgs_cons (pg_name (i := 3) scS7.nd rfl (Or.inl rfl)) (pgs_cons (pg_name (i := 4) scS7.nd rfl (Or.inl rfl)) (pgs_cons (pg_name (i := 5) scS7.nd rfl (Or.inl rfl)) pgs_nil))))) (fun _ _ _ _ _ => pts_nil) (fun _ _ _ _ _ => (pe_op op_sub (pe_op op_add (pe_op op_add (show PE _ _ (tOp (rIxL K) _ _) from (pe_ix ix_list (pv 1) (pv 2) (fun _ _ => rfl))) (show PE _ _ (tOp (rIxL K) _ _) from (pe_ix ix_list (pv 1) (pv 3) (fun _ _ => rfl)))) (show PE _ _ (tOp (rIxL K) _ _) from (pe_ix ix_list (pv 1) (pv 4) (fun _ _ => rfl)))) (show PE _ _ (tOp (rIxL K) _ _) from (pe_ix ix_list (pv 1) (pv 5) (fun _ _ => rfl)))))))), ?_⟩
  refine ⟨_, rfl, a, rfl, ⟨_, .inl (.inl ha)⟩, fun L nL => lc_list (K := K) (a := a) (xs := ts.map V.ref) (fun i G => Same H G ∧ G L = some (.lst (((rows.take i).map fun r => dot [1, 1, 1, -1] r us).map V.int))) ⟨same_new nL _, upd_same⟩ (fun i G _ h => .inl (.inl (h.1 _ _ ha))) ?_ ?_⟩
  · rintro i x G hx ⟨sG, gL⟩
    rw [List.getElem?_map] at hx
    obtain ⟨t, ht, rfl⟩ := Option.map_eq_some_iff.mp hx
    have il : i < rows.length := by rw [← tl]; exact (List.getElem?_eq_some_iff.mp ht).1
    have er := List.getElem?_eq_getElem il
    obtain ⟨t', ht', gt⟩ := hrow i _ er
    rw [ht] at ht'
    cases ht'
    obtain ⟨r4, rj⟩ := hr2 _ (List.getElem_mem il)
    generalize hrr : rows[i] = r at *
    match r, r4 with
    | [j1, j2, j3, j4], _ =>
    have at_ : ∀ j, j < us.length → atI (us.map V.int) (j : Int) = some (.int (us.getD j 0)) := fun j hj => by
      refine atI_nat (j := j) ?_
      rw [List.getElem?_map, List.getElem?_eq_getElem hj, List.getD_eq_getElem?_getD, List.getElem?_eq_getElem hj]
      rfl
    refine ⟨t, _, rfl, .inl (.inl (sG _ _ gt)), rfl, _, _, rfl, _, _, rfl, _, _, rfl, _, _, rfl, rfl, ?_⟩
    refine ⟨rfl, _, rfl, _, rfl, b, _, (j1 : Int), _, rfl, rfl, .inl (.inl (sG _ _ hb)), at_ j1 (rj j1 (by simp)), _, rfl, _, rfl, b, _, (j2 : Int), _, rfl, rfl, .inl (.inl (sG _ _ hb)), at_ j2 (rj j2 (by simp)), _, _, rfl, rfl, _, rfl, _, rfl, b, _, (j3 : Int), _, rfl, rfl, .inl (.inl (sG _ _ hb)), at_ j3 (rj j3 (by simp)), _, _, rfl, rfl, _, rfl, _, rfl, b, _, (j4 : Int), _, rfl, rfl, .inl (.inl (sG _ _ hb)), at_ j4 (rj j4 (by simp)), _, _, rfl, rfl, _, gL, ?_, same_grow nL sG _, ?_⟩
    · rw [List.length_map, List.length_map, List.length_take]
      show min i _ < 2 ^ 24
      omega
    · rw [upd_same, List.take_add_one, er, List.map_append, List.map_append]
      congr 3
      show [V.int _] = [V.int (dot [1, 1, 1, -1] [j1, j2, j3, j4] us)]
      congr 2
      simp only [dot]
      omega
  · rintro G ⟨sG, gL⟩
    rw [List.length_map, tl, List.take_length] at gL
    exact q L G sG gL
theorem ok_s8 {f : Addr} {fd : FuncData} (F : Fun K "two_more_two_less" "two_more_two_less" sS8 f fd) (T : TxC mg) : FnOk P w K mg base CX0 1 f fd ["goals", "sums"] (spStep [1, 1, -1, -1]) := by
  refine F.ok scS8 (fun vs H Q E h => ?_) (fun cdv A outer s H vs Q E hr h => ?_)
  · obtain ⟨a, b, ts, rows, us, rfl, _⟩ := h
    rfl
  obtain ⟨a, b, ts, rows, us, rfl, ha, tl, hrow, hr2, rl, ul, hb, q⟩ := h
  refine ⟨_, (pss_one (ps_ret (pe_lc (own := [("one", 2), ("two", 3), ("three", 4), ("four", 5)]) (g := gTup K 4 (gCons (gName 2) (gCons (gName 3) (gCons (gName 4) (gCons (gName 5) gNil))))) (tt := tYes) rfl scS8.nd (pi_list (pv 0)) (blkOk_by (own := [("one", 2), ("two", 3), ("three", 4), ("four", 5)]) (N := NS8) (sc := defScope sS8) (by decide +kernel)) (fun _ _ _ _ _ => show PG _ _ (gTup K 4 (gCons (gName 2) (gCons (gName 3) (gCons (gName 4) (gCons (gName 5) gNil))))) from pg_tup (by rfl) (pgs_cons (pg_name (i := 2) scS8.nd rfl (Or.inl rfl)) (pgs_cons (pg_name (i := 3) scS8.nd rfl (Or.inl rfl)) (pgs_cons (pg_name (i := 4) scS8.nd rfl (Or.inl rfl)) (pgs_cons (pg_name (i := 5) scS8.nd rfl (Or.inl rfl)) pgs_nil))))) (fun _ _ _ _ _ => pts_nil) (fun _ _ _ _ _ => (pe_op op_sub (pe_op op_sub (pe_op op_add (show PE _ _ (tOp (rIxL K) _ _) from (pe_ix ix_list (pv 1) (pv 2) (fun _ _ => rfl))) (show PE _ _ (tOp (rIxL K) _ _) from (pe_ix ix_list (pv 1) (pv 3) (fun _ _ => rfl)))) (show PE _ _ (tOp (rIxL K) _ _) from (pe_ix ix_list (pv 1) (pv 4) (fun _ _ => rfl)))) (show PE _ _ (tOp (rIxL K) _ _) from (pe_ix ix_list (pv 1) (pv 5) (fun _ _ => rfl)))))))), ?_⟩
  refine ⟨_, rfl, a, rfl, ⟨_, .inl (.inl ha)⟩, fun L nL => lc_list (K := K) (a := a) (xs := ts.map V.ref) (fun i G => Same H G ∧ G L = some (.lst (((rows.take i).map fun r => dot [1, 1, -1, -1] r us).map V.int))) ⟨same_new nL _, upd_same⟩ (fun i G _ h => .inl (.inl (h.1 _ _ ha))) ?_ ?_⟩
  · rintro i x G hx ⟨sG, gL⟩
    rw [List.getElem?_map] at hx
    obtain ⟨t, ht, rfl⟩ := Option.map_eq_some_iff.mp hx
    have il : i < rows.length := by rw [← tl]; exact (List.getElem?_eq_some_iff.mp ht).1
    have er := List.getElem?_eq_getElem il
    obtain ⟨t', ht', gt⟩ := hrow i _ er
    rw [ht] at ht'
    cases ht'
    obtain ⟨r4, rj⟩ := hr2 _ (List.getElem_mem il)
    generalize hrr : rows[i] = r at *
    match r, r4 with
    | [j1, j2, j3, j4], _ =>
    have at_ : ∀ j, j < us.length → atI (us.map V.int) (j : Int) = some (.int (us.getD j 0)) := fun j hj => by
      refine atI_nat (j := j) ?_
      rw [List.getElem?_map, List.getElem?_eq_getElem hj, List.getD_eq_getElem?_getD, List.getElem?_eq_getElem hj]
      rfl
    refine ⟨t, _, rfl, .inl (.inl (sG _ _ gt)), rfl, _, _, rfl, _, _, rfl, _, _, rfl, _, _, rfl, rfl, ?_⟩
    refine ⟨rfl, _, rfl, _, rfl, b, _, (j1 : Int), _, rfl, rfl, .inl (.inl (sG _ _ hb)), at_ j1 (rj j1 (by simp)), _, rfl, _, rfl, b, _, (j2 : Int), _, rfl, rfl, .inl (.inl (sG _ _ hb)), at_ j2 (rj j2 (by simp)), _, _, rfl, rfl, _, rfl, _, rfl, b, _, (j3 : Int), _, rfl, rfl, .inl (.inl (sG _ _ hb)), at_ j3 (rj j3 (by simp)), _, _, rfl, rfl, _, rfl, _, rfl, b, _, (j4 : Int), _, rfl, rfl, .inl (.inl (sG _ _ hb)), at_ j4 (rj j4 (by simp)), _, _, rfl, rfl, _, gL, ?_, same_grow nL sG _, ?_⟩
    · rw [List.length_map, List.length_map, List.length_take]
      show min i _ < 2 ^ 24
      omega
    · rw [upd_same, List.take_add_one, er, List.map_append, List.map_append]
      congr 3
      show [V.int _] = [V.int (dot [1, 1, -1, -1] [j1, j2, j3, j4] us)]
      congr 2
      simp only [dot]
      omega
  · rintro G ⟨sG, gL⟩
    rw [List.length_map, tl, List.take_length] at gL
    exact q L G sG gL
end
end S25
/-! The values of signs. -/
namespace S25
open PySem L2 GL KC KW K25
abbrev sSv : Stmt := top 9
abbrev NSv : List Str := ["signs", "sign"]
theorem scSv : FnScope NSv ["signs"] (defScope sSv) := ⟨rfl, rfl, rfl, by decide +kernel, rfl, by decide +kernel, by decide +kernel⟩
def sgV (b : Bool) : Int := if b then -1 else 1
def spSv : Sp := fun vs H Q _ => ∃ (bs : List Bool), vs = [.str (sS bs)] ∧ bs.length ≤ 1000 ∧ ∀ (L : Addr) (G : Hp), Same H G → G L = some (.lst ((bs.map sgV).map V.int)) → Q (.ref L) G
section
variable {P : Program} {w : World} {K : PySem.W.Frag} {mg : Str → Option Value} {base : Heap}
theorem ok_sv {f : Addr} {fd : FuncData} (F : Fun K "sign_values" "sign_values" sSv f fd) (T : TxC mg) : FnOk P w K mg base CX0 1 f fd ["signs"] spSv := by
  refine F.ok scSv (fun vs H Q E h => ?_) (fun cdv A outer s H vs Q E hr h => ?_)
  · obtain ⟨bs, rfl, _⟩ := h
    rfl
  obtain ⟨bs, rfl, bl, q⟩ := h
  refine ⟨_, (pss_one (ps_ret (pe_lc (own := [("sign", 1)]) (g := gName 1) (tt := tYes) rfl scSv.nd (pi_str (pv 0)) (blkOk_by (own := [("sign", 1)]) (N := NSv) (sc := defScope sSv) (by decide +kernel)) (fun _ _ _ _ _ => pg_name (i := 1) scSv.nd rfl (Or.inl rfl)) (fun _ _ _ _ _ => pts_nil) (fun _ _ _ _ _ => (pe_ifExp (pt_cmpR op_eq (pv 1) pe_str (nomark _)) pe_int (pe_un un_neg pe_int)))))), ?_⟩
  refine ⟨_, rfl, _, rfl, fun L nL => lc_it (walk_str (z := sS bs)) (fun i G => Same H G ∧ G L = some (.lst (((bs.take i).map sgV).map V.int))) ⟨same_new nL _, upd_same⟩ (fun _ _ _ _ => True.intro) ?_ ?_⟩
  · rintro i y G G' hi ⟨s1, g1⟩ ⟨rfl, c, hc, rfl⟩
    have sz : (sS bs).cps.size = bs.length := KW.sS_len bs
    have il : i < bs.length := by omega
    have eb := List.getElem?_eq_getElem il
    have ec : c = sc bs[i] := by
      rw [← Array.getElem?_toList] at hc
      have hc : (bs.map sc)[i]? = some c := hc
      rw [List.getElem?_map, eb] at hc
      cases hc
      rfl
    subst ec
    have bd : (((bs.take i).map sgV).map V.int).length < sizeLine := by
      rw [List.length_map, List.length_map, List.length_take]
      show min i _ < 2 ^ 24
      omega
    have fin : ∀ v : Int, v = sgV bs[i] → upd G' L (.lst (((bs.take i).map sgV).map V.int ++ [V.int v])) L = some (.lst (((bs.take (i + 1)).map sgV).map V.int)) := fun v hv => by
      rw [upd_same, List.take_add_one, eb, List.map_append, List.map_append, hv]
      rfl
    generalize bs[i] = b at *
    cases b
    · refine ⟨rfl, _, rfl, rfl, _, rfl, ite2 (fun _ => ⟨_, g1, bd, same_grow nL s1 _, fin 1 rfl⟩) (fun cc => absurd (decide_eq_true (by rfl)) cc)⟩
    · refine ⟨rfl, _, rfl, rfl, _, rfl, ite2 (fun cc => absurd (of_decide_eq_true cc) (by decide +kernel)) (fun _ => ⟨1, rfl, _, g1, bd, same_grow nL s1 _, fin (-1) rfl⟩)⟩
  · rintro G ⟨s1, g1⟩
    have e1 : bs.take (sS bs).cps.size = bs := List.take_of_length_le (by show bs.length ≤ (sS bs).length; rw [KW.sS_len]; exact Nat.le_refl _)
    rw [e1] at g1
    exact q L G s1 g1
end
end S25
/-! Lists of texts, compared. No row. -/
namespace GL
open PySem PySem.Spec PyProof.Rows L2 KC
theorem vals_strs : ∀ {xs : List Str} {us : List Value}, Vals (xs.map V.str) us → us.length = xs.length ∧ ∀ (j : Nat) (x : Str), xs[j]? = some x → ∃ t, us[j]? = some (.str x t)
  | [], _, .nil => ⟨rfl, fun j x h => by cases h⟩
  | y :: ys, _, .cons r rr => by
    obtain ⟨t, rfl⟩ := r
    obtain ⟨a, b⟩ := vals_strs (xs := ys) rr
    refine ⟨by simp [a], fun j x h => ?_⟩
    cases j with
    | zero => cases h; exact ⟨t, rfl⟩
    | succ j => exact b j x (by simpa using h)
theorem all_eq : ∀ {xs ys : List Str}, xs.length = ys.length → ((List.range xs.length).all fun j => xs[j]? == ys[j]?) = decide (xs = ys) := by
  intro xs ys hl
  by_cases e : xs = ys
  · rw [decide_eq_true e, List.all_eq_true]
    intro j _
    rw [e]
    exact beq_self_eq_true _
  · rw [decide_eq_false e, Bool.eq_false_iff]
    intro h
    rw [List.all_eq_true] at h
    refine e (List.ext_getElem hl fun j h1 h2 => ?_)
    have := eq_of_beq (h j (List.mem_range.mpr h1))
    rw [List.getElem?_eq_getElem h1, List.getElem?_eq_getElem h2] at this
    exact Option.some.inj this
def rEqLs : R2 := fun x y H Q => ∃ (a b : Addr) (xs ys : List Str), x = .ref a ∧ y = .ref b ∧ H a = some (.lst (xs.map V.str)) ∧ H b = some (.lst (ys.map V.str)) ∧ Q (.bl (decide (xs = ys))) H
def rNeLs : R2 := fun x y H Q => ∃ (a b : Addr) (xs ys : List Str), x = .ref a ∧ y = .ref b ∧ H a = some (.lst (xs.map V.str)) ∧ H b = some (.lst (ys.map V.str)) ∧ Q (.bl (!decide (xs = ys))) H
theorem strs_eqs {X : Cx} {pins : List (Addr × Obj)} {σ : L2.St} {H : Hp} {s : Shared} (I : Inv X pins σ H s) {a b : Addr} {xs ys : List Str} (ha : H a = some (.lst (xs.map V.str))) (hb : H b = some (.lst (ys.map V.str))) :
    ∃ us ws : Array Value, s.heap.IsList a us ∧ s.heap.IsList b ws ∧ us.size = xs.length ∧ ws.size = ys.length ∧ (∀ j (h1 : j < us.size) (h2 : j < ws.size) (A : Around), SeqAt.EqAt A s us[j] ws[j] (xs[j]? == ys[j]?)) := by
  obtain ⟨its, n, rv, e⟩ := lst_at I ha
  obtain ⟨its2, n2, rv2, e2⟩ := lst_at I hb
  obtain ⟨l1, p1⟩ := vals_strs rv
  obtain ⟨l2, p2⟩ := vals_strs rv2
  refine ⟨its.toArray, its2.toArray, ⟨_, e, rfl, n, rfl⟩, ⟨_, e2, rfl, n2, rfl⟩, by rw [List.size_toArray, l1], by rw [List.size_toArray, l2], fun j h1 h2 A => ?_⟩
  rw [List.size_toArray] at h1 h2
  obtain ⟨x, hx⟩ : ∃ x, xs[j]? = some x := ⟨_, List.getElem?_eq_getElem (by omega)⟩
  obtain ⟨y, hy⟩ : ∃ y, ys[j]? = some y := ⟨_, List.getElem?_eq_getElem (by omega)⟩
  obtain ⟨t, ht⟩ := p1 j x hx
  obtain ⟨u, hu⟩ := p2 j y hy
  have e3 : its.toArray[j] = .str x t := by
    rw [List.getElem_toArray]
    rw [List.getElem?_eq_getElem h1] at ht
    exact Option.some.inj ht
  have e4 : its2.toArray[j] = .str y u := by
    rw [List.getElem_toArray]
    rw [List.getElem?_eq_getElem h2] at hu
    exact Option.some.inj hu
  rw [e3, e4, hx, hy]
  have e5 : ((some x : Option Str) == some y) = (x == y) := rfl
  rw [e5]
  exact SeqAt.EqAt.str_str x t y u
theorem op_eqLs {X : Cx} (hu : X.A.units < cLine) : OpR X (compareOp .Eq) rEqLs := by
  intro pins s σ H x y v u Q I rx ry h
  obtain ⟨a, b, xs, ys, rfl, rfl, ha, hb, q⟩ := h
  cases rx
  cases ry
  obtain ⟨us, ws, m1, m2, z1, z2, k⟩ := strs_eqs I ha hb
  by_cases e : us.size = ws.size
  · have hl : xs.length = ys.length := by omega
    refine SeqAt.RcAt.lists (e := fun j => xs[j]? == ys[j]?) m1 m2 e hu (fun j h1 h2 => k j h1 h2 _) X.prog X.w _ _ ⟨.bl (decide (xs = ys)), H, I, ?_, q⟩
    rw [z1, all_eq hl]
    rfl
  · have ne : xs ≠ ys := fun z => e (by rw [z1, z2, z])
    rw [decide_eq_false ne] at q
    exact SeqAt.RcAt.lists_lengths m1 m2 (by simpa using e) hu X.prog X.w _ _ ⟨.bl false, H, I, rfl, q⟩
theorem op_neLs {X : Cx} (hu : X.A.units < cLine) : OpR X (compareOp .NotEq) rNeLs := by
  intro pins s σ H x y v u Q I rx ry h
  obtain ⟨a, b, xs, ys, rfl, rfl, ha, hb, q⟩ := h
  cases rx
  cases ry
  obtain ⟨us, ws, m1, m2, z1, z2, k⟩ := strs_eqs I ha hb
  by_cases e : us.size = ws.size
  · have hl : xs.length = ys.length := by omega
    refine SeqAt.RcNeAt.lists (e := fun j => xs[j]? == ys[j]?) m1 m2 e hu (fun j h1 h2 => k j h1 h2 _) X.prog X.w _ _ ⟨.bl (!decide (xs = ys)), H, I, ?_, q⟩
    rw [z1, all_eq hl]
    rfl
  · have ne : xs ≠ ys := fun z => e (by rw [z1, z2, z])
    rw [decide_eq_false ne] at q
    exact SeqAt.RcNeAt.lists_lengths m1 m2 (by simpa using e) hu X.prog X.w _ _ ⟨.bl true, H, I, rfl, q⟩
end GL
/-! A list against an empty one; a cut in a run of statements; ways that meet. No row. -/
namespace GL
open PySem PySem.Spec PyProof.Rows L2 KC
def rEql0 : R2 := fun x y H Q => ∃ (a b : Addr) (xs : List V), x = .ref a ∧ y = .ref b ∧ H a = some (.lst xs) ∧ H b = some (.lst []) ∧ Q (.bl xs.isEmpty) H
theorem op_eql0 {X : Cx} (hu : X.A.units < cLine) : OpR X (compareOp .Eq) rEql0 := by
  intro pins s σ H x y v u Q I rx ry h
  obtain ⟨a, b, xs, rfl, rfl, ha, hb, q⟩ := h
  cases rx
  cases ry
  obtain ⟨its, n, rv, e⟩ := lst_at I ha
  obtain ⟨its2, n2, rv2, e2⟩ := lst_at I hb
  cases rv2
  have l1 : s.heap.IsList a its.toArray := ⟨_, e, rfl, n, rfl⟩
  have l2 : s.heap.IsList b ([] : List Value).toArray := ⟨_, e2, rfl, n2, rfl⟩
  cases its with
  | nil =>
    cases rv
    exact SeqAt.RcAt.lists (e := fun _ => true) l1 l2 rfl hu (fun j h1 _ => absurd h1 (Nat.not_lt_zero j)) X.prog X.w _ _ ⟨.bl true, H, I, rfl, q⟩
  | cons y ys =>
    cases rv with
    | cons r1 r2 => exact SeqAt.RcAt.lists_lengths l1 l2 rfl hu X.prog X.w _ _ ⟨.bl false, H, I, rfl, q⟩
theorem seq_cut {t u : TS} {D : Ends} {σ : L2.St} {H : Hp} (P : L2.St → Hp → Prop) (h1 : ∀ Q : L2.St → Hp → Prop, (∀ σ H, P σ H → Q σ H) → t { D with nx := Q } σ H) (h2 : ∀ σ H, P σ H → u D σ H) : tSeq t u D σ H := h1 _ h2
theorem meet {P : V → Hp → Prop} {Good : V → Hp → Prop} {C : Prop} (h : (∀ v G, Good v G → P v G) → C) (r : ∀ v G, Good v G → P v G) : C := h r
theorem cut_last (xs : List V) : cutV xs (some (-1)) none = xs.drop (xs.length - 1) := by
  unfold cutV
  have e2 : HT.sIx xs.length xs.length none = xs.length := rfl
  have e1 : HT.sIx xs.length 0 (some (-1)) = xs.length - 1 := by
    unfold HT.sIx
    simp
    omega
  rw [e1, e2]
  exact List.take_of_length_le (by rw [List.length_drop]; omega)
theorem cut_init (xs : List V) : cutV xs none (some (-1)) = xs.dropLast := by
  unfold cutV
  have e1 : HT.sIx xs.length 0 none = 0 := rfl
  have e2 : HT.sIx xs.length xs.length (some (-1)) = xs.length - 1 := by
    unfold HT.sIx
    simp
    omega
  rw [e1, e2, List.drop_zero, List.dropLast_eq_take]
  rfl
theorem last_is (ws : List Str) (x : Str) : decide (ws.drop (ws.length - 1) = [x]) = decide (ws.getLast? = some x) := by
  have : (ws.drop (ws.length - 1) = [x]) ↔ (ws.getLast? = some x) := by
    cases h : ws.getLast? with
    | none =>
      rw [List.getLast?_eq_none_iff.mp h]
      simp
    | some y =>
      obtain ⟨us, rfl⟩ := List.getLast?_eq_some_iff.mp h
      have : (us ++ [y]).drop ((us ++ [y]).length - 1) = [y] := by simp
      rw [this]
      simp
  exact decide_eq_decide.mpr this
end GL
/-! A tuple so many times. No row. -/
namespace GRJ
open PySem L2 GL KC GZ KW
theorem rep_flat (n : Nat) (v : V) : (List.replicate n [v]).flatten = List.replicate n v := by
  induction n with
  | zero => rfl
  | succ n ih => rw [List.replicate_succ, List.flatten_cons, ih, List.replicate_succ]; rfl
/-- a tuple so many times, in one way -/
def rRepJ : R2 := fun x y H Q => ∃ (l : Addr) (k : Nat) (xs : List V), x = .ref l ∧ y = .int (k : Int) ∧ H l = some (.tup xs) ∧ xs ≠ [] ∧ 1 ≤ k ∧ k ≤ 1000 ∧ xs.length ≤ 1000 ∧ ∀ (t : Addr) (G : Hp), Same H G → G t = some (.tup (List.replicate k xs).flatten) → Q (.ref t) G
theorem op_repJ {X : Cx} : OpR X (binaryOp .Mult) rRepJ := by
  intro pins s σ H x y v u Q I r1 r2 ⟨l, k, xs, e1, e2, hl, n0, k1, k2, xl, q⟩
  refine op_repT1 pins s σ H x y v u Q I r1 r2 ⟨l, k, xs, e1, e2, .inl (.inl hl), n0, k1, k2, xl, fun e => q l H (fun _ _ h => h) ?_, fun p np => q p _ (same_new np _) upd_same⟩
  subst e
  rw [hl]
  simp
end GRJ
/-! A written dict whose keys are tuples of ints: d[(i, j)]. No row. -/
namespace GSp
open PySem PySem.Spec PyProof.Rows L2 GL
/-- the dict at D: the keys, the addresses of their tuples, the values' addresses -/
structure StepsAt (K : PySem.W.Frag) (D : Addr) (xs : List (List Int × Addr × Addr)) : Prop where
  dct : ∃ es n, K.lookup D = some ⟨.type "dict", none, .dict es n, #[]⟩ ∧ ∀ (prog : Program) (w : World), es.toList = (xs.map fun x => (x.1, x.2.1, Value.ref x.2.2)).map (entryOfKey (tupleKind (intKind prog w)))
  keys : ∀ x ∈ xs, ∃ o its n, K.lookup x.2.1 = some o ∧ o.cls = .type "tuple" ∧ o.data = .seq its n ∧ Vals (x.1.map V.int) its.toList
  nd : (xs.map (·.1)).Nodup
theorem items_are {prog : Program} {w : World} : ∀ {ks : List Int} {us : List Value}, Vals (ks.map V.int) us → ItemsAre (intKind prog w) ks us
  | [], _, h => by cases h; exact .nil
  | k :: ks, _, h => by
    cases h with
    | cons r h =>
      obtain ⟨t, rfl⟩ := r
      exact .cons (by show Value.isInt k (.int k t) = true; simp [Value.isInt]) (items_are h)
theorem at_key {α : Type} : ∀ {xs : List (List Int × Addr × Addr)} {k : List Int} {p f : Addr}, (xs.map (·.1)).Nodup → (k, p, f) ∈ xs → atKey (xs.map fun x => (x.1, x.2.1, Value.ref x.2.2)) k = some (p, Value.ref f)
  | [], _, _, _, _, h => nomatch h
  | x :: xs, k, p, f, n, h => by
    rw [List.map_cons, List.nodup_cons] at n
    rcases List.mem_cons.mp h with rfl | h
    · simp [atKey]
    · have ne : x.1 ≠ k := fun e => n.1 (by rw [e]; exact List.mem_map.mpr ⟨_, h, rfl⟩)
      have := at_key (α := α) n.2 h
      simpa [atKey, ne] using this
def rStep (K : PySem.W.Frag) (xs : List (List Int × Addr × Addr)) : R2 := fun x y H Q => ∃ (D a : Addr) (ks : List Int) (p f : Addr), x = .ref D ∧ y = .ref a ∧ StepsAt K D xs ∧ H a = some (.tup (ks.map V.int)) ∧ (ks, p, f) ∈ xs ∧ Q (.ref f) H
theorem ix_steps {X : Cx} {xs : List (List Int × Addr × Addr)} (hu : X.A.units + 1 < cLine) : IxR X (rStep X.K xs) := by
  intro value slice pins s σ H x y v u Q I rx ry h hs
  obtain ⟨D, a, ks, p, f, rfl, rfl, S, ha, hm, q⟩ := h
  obtain rfl : v = Value.ref D := rx
  obtain rfl : u = Value.ref a := ry
  obtain ⟨es, n, hl, he⟩ := S.dct
  obtain ⟨its, o, m, rv, e1, e2, e3⟩ := tup_at I ha
  have hd : s.heap.DictOfH (tupleKind (intKind X.prog X.w)) D (xs.map fun x => (x.1, x.2.1, Value.ref x.2.2)) := by
    refine ⟨_, es, n, I.kIn _ _ hl, ⟨rfl, rfl, rfl⟩, rfl, he X.prog X.w, fun y hy => ?_, by rw [List.map_map]; exact S.nd⟩
    obtain ⟨x, hx, rfl⟩ := List.mem_map.mp hy
    obtain ⟨o, its, n, k1, k2, k3, k4⟩ := S.keys x hx
    exact ⟨o, its, n, I.kIn _ _ k1, k2, k3, items_are k4⟩
  have hk : (tupleKind (intKind X.prog X.w)).is s.heap ks a := ⟨o, its.toArray, m, e1, e2, e3, items_are (by simpa using rv)⟩
  exact tail_any hd.typeIs slot_dict_getitem.lookup (wpAny_getItem_heap (A := X.A) (by show X.A.in1.units < cLine; exact hu) hk hd (at_key (α := Unit) S.nd hm) ⟨.ref f, H, I.tok _, rfl, q⟩) hs
end GSp
/-! by_steps. -/
namespace S25
open PySem L2 GL KC KW KM GRJ K25
/-! ### what is summed -/
theorem dot_app (s : Int) (g : Nat → Nat) (us : List Int) : ∀ (A : List Nat) (sg : List Int) (B : List Nat), dot (List.replicate A.length s ++ sg) (A.map g ++ B) us = s * (A.map fun j => us.getD (g j) 0).sum + dot sg B us
  | [], sg, B => by simp
  | j :: A, sg, B => by
    show s * us.getD (g j) 0 + dot (List.replicate A.length s ++ sg) (A.map g ++ B) us = s * (us.getD (g j) 0 + (A.map fun j => us.getD (g j) 0).sum) + dot sg B us
    rw [dot_app s g us A sg B, Int.mul_add, Int.add_assoc]
theorem dot_two (g : Nat → Nat) (us : List Int) (A B : List Nat) : dot (List.replicate A.length 1 ++ List.replicate B.length (-1)) (A.map g ++ B.map g) us = (A.map fun j => us.getD (g j) 0).sum - (B.map fun j => us.getD (g j) 0).sum := by
  have h := dot_app (-1) g us B [] []
  rw [List.append_nil, List.append_nil] at h
  rw [dot_app, h]
  show 1 * _ + (-1 * _ + 0) = _
  omega
theorem dot_zero (us : List Int) : ∀ (sg : List Int) (js : List Nat), (∀ j ∈ js, us.getD j 0 = 0) → dot sg js us = 0
  | [], _, _ => by unfold dot; rfl
  | _ :: _, [], _ => by unfold dot; rfl
  | s :: sg, j :: js, h => by
    show s * us.getD j 0 + dot sg js us = 0
    rw [h j List.mem_cons_self, dot_zero us sg js fun i hi => h i (List.mem_cons_of_mem _ hi), Int.mul_zero, Int.add_zero]
theorem split_sum {m : Int} (hm : m = 1 ∨ m = -1) (bs : List Bool) (f : Nat → Int) : ∀ L : List Nat, ((L.filter fun j => decide (sj bs j = m)).map f).sum - ((L.filter fun j => decide (sj bs j ≠ m)).map f).sum = (L.map fun j => m * (sj bs j * f j)).sum
  | [] => rfl
  | j :: L => by
    have ih := split_sum hm bs f L
    rw [List.map_cons, List.sum_cons, ← ih]
    by_cases c : sj bs j = m
    · rw [List.filter_cons_of_pos (by rw [decide_eq_true c]), List.filter_cons_of_neg (by rw [decide_eq_false (fun h => h c)]; decide), List.map_cons, List.sum_cons, c]
      rcases hm with rfl | rfl <;> omega
    · rw [List.filter_cons_of_neg (by rw [decide_eq_false c]; decide), List.filter_cons_of_pos (by rw [decide_eq_true c]), List.map_cons, List.sum_cons]
      have : m * (sj bs j * f j) = - f j := by
        unfold sj at c ⊢
        rcases hm with rfl | rfl
        · split <;> rename_i q
          · omega
          · exact absurd (by rw [if_neg q]) c
        · split <;> rename_i q
          · exact absurd (by rw [if_pos q]) c
          · omega
      rw [this]
      omega
/-- the sums for words of k letters, times the sign -/
def uk (l : Nat) (rows : Rows) (ends bs : List Bool) (m : Int) (n k : Nat) : List Int := ((List.range n).map fun s => m ^ k * cnt l rows ends bs k s) ++ [0]
theorem uk_len (l : Nat) (rows : Rows) (ends bs : List Bool) (m : Int) (n k : Nat) : (uk l rows ends bs m n k).length = n + 1 := by unfold uk; simp
theorem uk_at {l : Nat} {rows : Rows} {ends bs : List Bool} {m : Int} {n k s : Nat} (h : s < n) : (uk l rows ends bs m n k).getD s 0 = m ^ k * cnt l rows ends bs k s := by
  unfold uk
  rw [List.getD_eq_getElem?_getD, List.getElem?_append_left (by simpa using h), List.getElem?_map, List.getElem?_range h]
  rfl
theorem uk_end {l : Nat} {rows : Rows} {ends bs : List Bool} {m : Int} {n k : Nat} : (uk l rows ends bs m n k).getD n 0 = 0 := by
  unfold uk
  rw [List.getD_eq_getElem?_getD, List.getElem?_append_right (by simp)]
  simp
def ordA (l : Nat) (bs : List Bool) (m : Int) : List Nat := (List.range l).filter fun j => decide (sj bs j = m)
def ordB (l : Nat) (bs : List Bool) (m : Int) : List Nat := (List.range l).filter fun j => decide (sj bs j ≠ m)
def sgOf (a b : Nat) : List Int := List.replicate a 1 ++ List.replicate b (-1)
/-- the goals by letters in the order of the step -/
def gls (l n : Nat) (bs : List Bool) (m : Int) (rows : Rows) : List (List Nat) := (rows.map fun r => (ordA l bs m ++ ordB l bs m).map fun j => (r.getD j none).getD n) ++ [List.replicate l n]
theorem uk_next {l n : Nat} {rows : Rows} {ends bs : List Bool} {m : Int} (W : WF l n rows ends) (hm : m = 1 ∨ m = -1) (k : Nat) :
    (gls l n bs m rows).map (fun r => dot (sgOf (ordA l bs m).length (ordB l bs m).length) r (uk l rows ends bs m n k)) = uk l rows ends bs m n (k + 1) := by
  unfold gls
  rw [List.map_append]
  have e2 : uk l rows ends bs m n (k + 1) = ((List.range n).map fun s => m ^ (k + 1) * cnt l rows ends bs (k + 1) s) ++ [0] := rfl
  rw [e2]
  congr 1
  · rw [List.map_map]
    refine List.ext_getElem? fun s => ?_
    rw [List.getElem?_map, List.getElem?_map]
    by_cases hs : s < n
    · obtain ⟨r, w1, w2, w3, w4⟩ := W.row hs
      rw [w1, List.getElem?_range hs]
      show some (dot (sgOf (ordA l bs m).length (ordB l bs m).length) ((ordA l bs m ++ ordB l bs m).map fun j => (r.getD j none).getD n) (uk l rows ends bs m n k)) = some (m ^ (k + 1) * cnt l rows ends bs (k + 1) s)
      congr 1
      rw [List.map_append]
      unfold sgOf
      rw [dot_two (fun j => (r.getD j none).getD n)]
      unfold ordA ordB
      rw [split_sum hm bs]
      show _ = m ^ (k + 1) * ((List.range l).map fun j => match stepM rows s j with | none => 0 | some t => sj bs j * cnt l rows ends bs k t).sum
      rw [mul_sum]
      congr 1
      refine List.map_congr_left fun j _ => ?_
      rw [w4 j]
      cases e : r.getD j none with
      | none =>
        show m * (sj bs j * (uk l rows ends bs m n k).getD n 0) = m ^ (k + 1) * 0
        rw [uk_end, Int.mul_zero, Int.mul_zero, Int.mul_zero]
      | some t =>
        have tl : t < n := w3 t (by
          rw [List.getD_eq_getElem?_getD] at e
          cases e3 : r[j]? with
          | none => rw [e3] at e; cases e
          | some o => rw [e3] at e; cases e; exact List.mem_of_getElem? e3)
        show m * (sj bs j * (uk l rows ends bs m n k).getD t 0) = m ^ (k + 1) * (sj bs j * cnt l rows ends bs k t)
        rw [uk_at tl, Int.pow_succ]
        generalize m ^ k = p
        generalize cnt l rows ends bs k t = c
        generalize sj bs j = q
        rw [Int.mul_comm p m, Int.mul_assoc m, ← Int.mul_assoc q p, Int.mul_comm q p, Int.mul_assoc p q]
    · rw [List.getElem?_eq_none (by rw [W.rl]; omega), List.getElem?_eq_none (by simp; omega)]
      rfl
  · show [dot _ _ _] = [0]
    rw [dot_zero]
    intro j hj
    rw [(List.mem_replicate.mp hj).2]
    exact uk_end
theorem uk_zero {l n : Nat} {rows : Rows} {ends bs : List Bool} {m : Int} (W : WF l n rows ends) : uk l rows ends bs m n 0 = (ends.map fun b => if b then (1 : Int) else 0) ++ [0] := by
  unfold uk
  congr 1
  refine List.ext_getElem? fun s => ?_
  rw [List.getElem?_map, List.getElem?_map]
  by_cases hs : s < n
  · have hl : s < ends.length := by rw [W.el]; exact hs
    rw [List.getElem?_range hs, List.getElem?_eq_getElem hl]
    show some (m ^ 0 * (if ends.getD s false then (1 : Int) else 0)) = some (if ends[s] then 1 else 0)
    rw [Int.pow_zero]
    rw [Int.one_mul, List.getD_eq_getElem?_getD, List.getElem?_eq_getElem hl]
    rfl
  · rw [List.getElem?_eq_none (by simp; omega), List.getElem?_eq_none (by rw [W.el]; omega)]
    rfl
/-- which sign more letters have -/
def mst (l : Nat) (bs : List Bool) : Int := if 2 * ((bs.map sgV).count (-1) : Nat) > l then -1 else 1
theorem mst_or (l : Nat) (bs : List Bool) : mst l bs = 1 ∨ mst l bs = -1 := by
  unfold mst
  split
  · exact .inr rfl
  · exact .inl rfl
theorem sj_at {bs : List Bool} {j : Nat} (h : j < bs.length) : (bs.map sgV)[j]? = some (sj bs j) := by
  rw [List.getElem?_map, List.getElem?_eq_getElem h]
  unfold sj
  rw [List.getD_eq_getElem?_getD, List.getElem?_eq_getElem h]
  show some (sgV bs[j]) = some (if bs[j] = true then -1 else 1)
  unfold sgV
  rfl
theorem count_len (bs : List Bool) (c : Int) : ((List.range bs.length).filter fun j => decide (sj bs j = c)).length = (bs.map sgV).count c := by
  have e : (List.range bs.length).map (sj bs) = bs.map sgV := by
    refine List.ext_getElem? fun j => ?_
    rw [List.getElem?_map]
    by_cases h : j < bs.length
    · rw [List.getElem?_range h, sj_at h]; rfl
    · rw [List.getElem?_eq_none (by simp; omega), List.getElem?_eq_none (by rw [List.length_map]; omega)]; rfl
  rw [← e, List.count_eq_countP, List.countP_map, List.countP_eq_length_filter]
  congr 1
theorem ord_len (bs : List Bool) (m : Int) : (ordA bs.length bs m).length + (ordB bs.length bs m).length = bs.length := by
  have h := List.length_eq_countP_add_countP (l := List.range bs.length) (fun j => decide (sj bs j = m))
  rw [List.length_range, List.countP_eq_length_filter, List.countP_eq_length_filter] at h
  have e : (List.filter (fun a => decide (¬ (decide (sj bs a = m)) = true)) (List.range bs.length)) = ordB bs.length bs m := by
    unfold ordB
    refine List.filter_congr fun a _ => ?_
    by_cases c : sj bs a = m <;> simp [c]
  rw [e] at h
  exact h.symm
theorem ord_le (bs : List Bool) : (ordB bs.length bs (mst bs.length bs)).length ≤ (ordA bs.length bs (mst bs.length bs)).length := by
  have h1 := ord_len bs (mst bs.length bs)
  have h2 : (ordA bs.length bs (mst bs.length bs)).length = (bs.map sgV).count (mst bs.length bs) := count_len bs _
  have h3 : (bs.map sgV).count 1 + (bs.map sgV).count (-1) = bs.length := by
    clear h1 h2
    induction bs with
    | nil => rfl
    | cons b bs ih =>
      rw [List.map_cons, List.count_cons, List.count_cons, List.length_cons]
      cases b
      · have e1 : ((sgV false == (1 : Int)) = true) := rfl
        have e2 : ¬ ((sgV false == (-1 : Int)) = true) := by decide
        rw [if_pos e1, if_neg e2]
        omega
      · have e1 : ¬ ((sgV true == (1 : Int)) = true) := by decide
        have e2 : ((sgV true == (-1 : Int)) = true) := rfl
        rw [if_neg e1, if_pos e2]
        omega
  rw [h2]
  rw [h2] at h1
  unfold mst at *
  split at h1 <;> rename_i c
  · rw [if_pos c]
    omega
  · rw [if_neg c]
    omega
/-- tuples of numbers at these places -/
def TupsAt (G : Hp) (ts : List Addr) (rs : List (List Nat)) : Prop := ts.length = rs.length ∧ ∀ (i : Nat) (r : List Nat), rs[i]? = some r → ∃ t : Addr, ts[i]? = some t ∧ G t = some (.tup (r.map fun j : Nat => V.int (j : Int)))
theorem TupsAt.same {G G' : Hp} {ts : List Addr} {rs : List (List Nat)} (h : TupsAt G ts rs) (s : Same G G') : TupsAt G' ts rs := ⟨h.1, fun i r e => let ⟨t, a, b⟩ := h.2 i r e; ⟨t, a, s _ _ b⟩⟩
theorem TupsAt.put {G : Hp} {ts : List Addr} {rs : List (List Nat)} (h : TupsAt G ts rs) {p : Addr} {ys : List V} (g : G p = some (.lst ys)) (o : HO) : TupsAt (upd G p o) ts rs := ⟨h.1, fun i r e => let ⟨t, a, b⟩ := h.2 i r e; ⟨t, a, by rw [upd_ne (fun z => by rw [z, g] at b; cases b)]; exact b⟩⟩
theorem TupsAt.snoc {G : Hp} {ts : List Addr} {rs : List (List Nat)} (h : TupsAt G ts rs) {t : Addr} {r : List Nat} (g : G t = some (.tup (r.map fun j : Nat => V.int (j : Int)))) : TupsAt G (ts ++ [t]) (rs ++ [r]) := by
  refine ⟨by simp [h.1], fun i r' e => ?_⟩
  by_cases c : i < rs.length
  · rw [List.getElem?_append_left c] at e
    obtain ⟨t', a, b⟩ := h.2 i r' e
    exact ⟨t', by rw [List.getElem?_append_left (by rw [h.1]; exact c)]; exact a, b⟩
  · have il : i < (rs ++ [r]).length := (List.getElem?_eq_some_iff.mp e).1
    rw [List.length_append, List.length_singleton] at il
    have ei : i = rs.length := by omega
    subst ei
    rw [List.getElem?_append_right (Nat.le_refl _), Nat.sub_self] at e
    cases e
    exact ⟨t, by rw [List.getElem?_append_right (by rw [h.1]; exact Nat.le_refl _), h.1, Nat.sub_self]; rfl, g⟩
def nvl (L : List Nat) : List V := L.map fun j : Nat => V.int (j : Int)
theorem nvl_snoc (L : List Nat) (j : Nat) : nvl (L ++ [j]) = nvl L ++ [V.int (j : Int)] := by unfold nvl; rw [List.map_append]; rfl
theorem flt_snoc (c : Nat → Bool) (i : Nat) : (List.range (i + 1)).filter c = if c i = true then (List.range i).filter c ++ [i] else (List.range i).filter c := by
  rw [List.range_succ, List.filter_append]
  by_cases h : c i = true
  · rw [if_pos h, List.filter_cons_of_pos h]; rfl
  · rw [if_neg h, List.filter_cons_of_neg h]; simp
theorem none_back {H G : Hp} (s : Same H G) {p : Addr} (h : G p = none) : H p = none := by
  cases e : H p with
  | none => rfl
  | some o => rw [s _ _ e] at h; cases h
theorem pow_neg1 : ∀ k : Nat, (-1 : Int) ^ k = if k % 2 = 1 then -1 else 1
  | 0 => rfl
  | k + 1 => by
    rw [Int.pow_succ, pow_neg1 k]
    by_cases c : k % 2 = 1
    · rw [if_pos c, if_neg (by omega)]; rfl
    · rw [if_neg c, if_pos (by omega)]; rfl
theorem pow_one1 : ∀ k : Nat, (1 : Int) ^ k = 1
  | 0 => rfl
  | k + 1 => by rw [Int.pow_succ, pow_one1 k]; rfl
theorem ps_never {X : Cx} {st : Stmt} : PS X st (fun _ _ _ => False) := ⟨fun _ _ _ _ _ _ h => h.elim⟩
abbrev sBy : Stmt := top 25
abbrev NBy : List Str := ["machine", "values", "length", "letters", "rows", "ends", "nowhere", "most", "order", "at", "step", "goals", "row", "found", "sums", "end", "place"]
theorem scBy : FnScope NBy ["machine", "values", "length"] (defScope sBy) := ⟨rfl, rfl, rfl, by decide +kernel, rfl, by decide +kernel, by decide +kernel⟩
def scGl : Scope := match (defBody sBy).getD 6 sBy with
  | .Assign _ (.ListComp _ _ sc _) _ => sc
  | _ => defScope sBy
def spBy : Sp := fun vs H Q _ => ∃ (p V0 : Addr) (l n L : Nat) (rows : Rows) (ends bs : List Bool), vs = [.ref p, .ref V0, .int L] ∧ MachAt H p l rows ends ∧ WF l n rows ends ∧ n ≤ 100 ∧ bs.length = l ∧ H V0 = some (.lst ((bs.map sgV).map V.int)) ∧ L ≤ 1000 ∧
  ∀ G, Same H G → Q (.int (cnt l rows ends bs L 0)) G
section
variable {P : Program} {w : World} {K : PySem.W.Frag} {mg : Str → Option Value} {base : Heap}
theorem ok_by {f D : Addr} {fd : FuncData} {xs : List (List Int × Addr × Addr)} {tF : Tok} (F : Fun K "by_steps" "by_steps" sBy f fd) (T : TxC mg) (mSt : mg "STEPS" = some (.ref D)) (mFew : mg "FEW" = some (.int 100 tF)) (SA : GSp.StepsAt K D xs)
    (hS : ∀ a b : Nat, b ≤ a → 1 ≤ a + b → a + b ≤ 4 → ∃ p f, ([(a : Int), (b : Int)], p, f) ∈ xs ∧ Held P w K mg base 1 f (spStep (sgOf a b))) : FnOk P w K mg base CX0 2 f fd ["machine", "values", "length"] spBy := by
  refine F.ok scBy (fun vs H Q E h => ?_) (fun cdv A outer s H vs Q E hr h => ?_)
  · obtain ⟨p, V0, l, n, L, rows, ends, bs, rfl, _⟩ := h
    rfl
  obtain ⟨p, V0, l, n, L, rows, ends, bs, rfl, M, W, n1, bl, gV, L1, q⟩ := h
  have hu1 : (A.deeper (PyProof.Rows.envOfC "by_steps" (defScope sBy) s.heap.objs.size f cdv)).units + 1 < cLine := by have := hr.un; omega
  subst bl
  have W' := W
  obtain ⟨pS, fS, hx, hHeld⟩ := hS _ _ (ord_le bs) (by rw [ord_len]; exact W.l1) (by rw [ord_len]; exact W.l4)
  have hA : ∀ g sp, (fun a : Addr => if a = fS then some (spStep (sgOf (ordA bs.length bs (mst bs.length bs)).length (ordB bs.length bs (mst bs.length bs)).length)) else none) g = some sp → Held P w K mg base 1 g sp := fun g sp e => by
    dsimp only at e
    split at e
    · rename_i h
      cases e
      rw [h]
      exact hHeld
    · cases e
  refine ⟨_, (pss_cons (ps_asg (pv 0) (pg_tup (by rfl) (pgs_cons (pg_name (i := 3) scBy.nd rfl (Or.inl rfl)) (pgs_cons (pg_name (i := 4) scBy.nd rfl (Or.inl rfl)) (pgs_cons (pg_name (i := 5) scBy.nd rfl (Or.inl rfl)) pgs_nil)))))
    (pss_cons (ps_set (i := 6) scBy.nd rfl (Or.inr rfl) (pe_callB call_lenS (by rfl) T.len PySem.boot_len (pa_cons (pv 4) pa_nil)))
    (pss_cons (ps_set (i := 7) scBy.nd rfl (Or.inr rfl) (pe_ifExp (pt_cmpR op_gt (pe_op op_mul pe_int (show PE _ _ (tBM K "list" _ _ _) from pe_bm PySem.F.plainAttrs_list PySem.F.slot_list_count PySem.F.type_list_count mt_lcount (pv 1) (pa_cons (pe_un un_neg pe_int) pa_nil))) (pv 3) (nomark _)) (pe_un un_neg pe_int) pe_int))
    (pss_cons (ps_set (i := 8) scBy.nd rfl (Or.inr rfl) (pe_lc (own := [("at", 9)]) (g := gName 9) rfl scBy.nd (pi_range1 (by rfl) T.range (pa_cons (pv 3) pa_nil)) (blkOk_by (own := [("at", 9)]) (N := NBy) (sc := defScope sBy) (by decide +kernel)) (fun _ _ _ _ _ => pg_name (i := 9) scBy.nd rfl (Or.inl rfl)) (fun _ _ _ _ _ => pts_one (pt_cmpR op_eq (show PE _ _ (tOp (rIxL K) _ _) from (pe_ix ix_list (pv 1) (pv 9) (fun _ _ => rfl))) (pv 7) (nomark _))) (fun _ _ _ _ _ => (pv 9))))
    (pss_cons (ps_set (i := 10) scBy.nd rfl (Or.inl rfl) (pe_ix (GSp.ix_steps (xs := xs) hu1) (pe_glob (v := .ref D) rfl mSt rfl) (pe_tup (pa_cons (pe_callB call_lenS (by rfl) T.len PySem.boot_len (pa_cons (pv 8) pa_nil)) (pa_cons (pe_op op_sub (pv 3) (pe_callB call_lenS (by rfl) T.len PySem.boot_len (pa_cons (pv 8) pa_nil))) pa_nil))) (fun _ _ => rfl)))
    (pss_cons (ps_aug (i := 8) scBy.nd rfl (Or.inr rfl) (pe_lc (own := [("at", 9)]) (g := gName 9) rfl scBy.nd (pi_range1 (by rfl) T.range (pa_cons (pv 3) pa_nil)) (blkOk_by (own := [("at", 9)]) (N := NBy) (sc := defScope sBy) (by decide +kernel)) (fun _ _ _ _ _ => pg_name (i := 9) scBy.nd rfl (Or.inl rfl)) (fun _ _ _ _ _ => pts_one (pt_cmpR op_ne (show PE _ _ (tOp (rIxL K) _ _) from (pe_ix ix_list (pv 1) (pv 9) (fun _ _ => rfl))) (pv 7) (nomark _))) (fun _ _ _ _ _ => (pv 9))) iop_ext)
    (pss_cons (ps_set (i := 11) scBy.nd rfl (Or.inr rfl) (pe_lc (own := [("row", 12)]) (g := gName 12) (tt := tYes) rfl scBy.nd (pi_tup (pv 4)) (blkOk_by (own := [("row", 12)]) (N := NBy) (sc := defScope sBy) (by decide +kernel)) (fun _ _ _ _ _ => pg_name (i := 12) scBy.nd rfl (Or.inr rfl)) (fun _ _ _ _ _ => pts_nil) (fun _ _ _ _ _ => (pe_callTy (show CallR _ _ (fun xs H Q => ∃ p ys, xs = [.ref p] ∧ ((SqL K H p ys ∧ ∀ l, H l = none → Q (.ref l) (upd H l (.tup ys))) ∨ (SqT K H p ys ∧ Q (.ref p) H))) from call_tuple_of) (by rfl) T.tuple (by decide +kernel) (pa_cons (pe_lc (own := [("at", 9)]) (g := gName 9) (tt := tYes) rfl scBy.nd (show PI _ _ _ (iList K _) from (pi_list (pv 8))) (blkOk_by (own := [("at", 9)]) (N := NBy) (sc := relS scGl (defScope sBy)) (by decide +kernel)) (fun _ _ _ _ _ => pg_name (i := 9) scBy.nd rfl (Or.inl rfl)) (fun _ _ _ _ _ => pts_nil) (fun _ _ _ _ _ => (pe_ifExp (pt_cmp (pc_isN (show PE _ _ (tOp (rIxT K) _ _) from (pe_ixT (pv 12) (pv 9) (fun _ _ => rfl))))) (pv 6) (show PE _ _ (tOp (rIxT K) _ _) from (pe_ixT (pv 12) (pv 9) (fun _ _ => rfl)))))) pa_nil)))))
    (pss_cons (ps_if (pt_cmpR op_gt (pv 6) (pe_glob (v := .int 100) rfl mFew ⟨_, rfl⟩) (nomark _))
      (pss_one ps_never)
      (pss_cons (ps_expr (pe_bm PySem.F.plainAttrs_list PySem.F.slot_list_append PySem.F.type_list_append mt_append (pv 11) (pa_cons (pe_op op_repJ (pe_tup (pa_cons (pv 6) pa_nil)) (pv 3)) pa_nil)))
      (pss_cons (ps_set (i := 14) scBy.nd rfl (Or.inl rfl) (pe_op op_cat (pe_lc (own := [("end", 15)]) (g := gName 15) (tt := tYes) rfl scBy.nd (pi_tup (pv 5)) (blkOk_by (own := [("end", 15)]) (N := NBy) (sc := defScope sBy) (by decide +kernel)) (fun _ _ _ _ _ => pg_name (i := 15) scBy.nd rfl (Or.inl rfl)) (fun _ _ _ _ _ => pts_nil) (fun _ _ _ _ _ => (pe_callTy call_int1 (by rfl) T.int (by decide +kernel) (pa_cons (pv 15) pa_nil)))) (pe_lst (pa_cons pe_int pa_nil))))
      (pss_cons (ps_for PassesOwn.never rfl (pi_range1 (by rfl) T.range (pa_cons (pv 2) pa_nil)) (pg_name (i := 16) scBy.nd rfl (Or.inl rfl))
        (pss_one (ps_set (i := 14) scBy.nd rfl (Or.inl rfl) (pe_callA (i := 10) hA (hr.mono (by decide)) rfl (Or.inl rfl) (pa_cons (pv 11) (pa_cons (pv 14) pa_nil))))))
      (pss_one (ps_set (i := 13) scBy.nd rfl (Or.inl rfl) (pe_ix ix_list (pv 14) pe_int (fun _ _ => rfl))))))))
    (pss_one (ps_ret (pe_ifExp (PW.pt (pw_and (pt_cmpR op_lt (pv 7) pe_int (nomark _)) (pw_and1 (pt_truth (pe_op op_and (pv 2) pe_int) (by intro _; rfl))))) (pe_un un_neg (pv 13)) (pv 13)))))))))))), ?_⟩
  obtain ⟨pr, pe, rvs, m1, m2, m3, m4, m5⟩ := M.ex
  have n4 := W.n4
  have l1 := W.l1
  have l4 := W.l4
  have wn1 := W.n1
  refine ⟨_, rfl, p, _, rfl, .inl (.inl m1), rfl, _, _, rfl, _, _, rfl, _, _, rfl, rfl, ?_⟩
  refine ⟨_, rfl, pr, rvs, rfl, .inr (.inl (.inl m2)), ?_⟩
  dsimp only [gName]
  rw [m4, W.rl]
  have hmo := mst_or bs.length bs
  have hm0 : mst bs.length bs = if 2 * ((bs.map sgV).count (-1) : Nat) > bs.length then -1 else 1 := rfl
  generalize mst bs.length bs = m at *
  have vat : ∀ j, j < bs.length → atI ((bs.map sgV).map V.int) ((0 : Int) + (j : Int)) = some (.int (sj bs j)) := fun j hj => by
    rw [Int.zero_add]
    refine atI_nat (j := j) ?_
    rw [List.getElem?_map, sj_at hj]
    rfl
  have nVl : ∀ (c : Nat → Bool) (i : Nat), i ≤ 4 → (nvl ((List.range i).filter c)).length ≤ 4 := fun c i hi => by
    unfold nvl
    rw [List.length_map]
    have := List.length_filter_le c (List.range i)
    rw [List.length_range] at this
    omega
  refine seq_cut (t := tAsg _ _) (fun σ G => G = H ∧ σ = [some (.ref p), some (.ref V0), some (.int L), some (.int (bs.length : Int)), some (.ref pr), some (.ref pe), some (.int (n : Int)), some (.int m), none, none, none, none, none, none, none, none, none]) ?_ ?_
  · intro Q' hq
    refine ⟨_, rfl, .inl ⟨rfl, _, .inl (.inl gV)⟩, 1, rfl, V0, _, _, rfl, rfl, .inl (.inl gV), _, _, rfl, rfl, .inl (by decide), _, rfl, _, _, rfl, rfl, _, rfl, ite2 (fun c => ?_) (fun c => ?_)⟩
    · have c := of_decide_eq_true c
      have e : m = -1 := by rw [hm0, if_pos (by omega)]
      refine ⟨1, rfl, hq _ _ ⟨rfl, ?_⟩⟩
      rw [e]
      rfl
    · have c : ¬ _ := fun z => c (decide_eq_true z)
      have e : m = 1 := by rw [hm0, if_neg (by omega)]
      refine hq _ _ ⟨rfl, ?_⟩
      rw [e]
      rfl
  rintro σ _ ⟨rfl, rfl⟩
  rename_i H
  refine seq_cut (t := tAsg _ _) (fun σ G' => ∃ LO : Addr, Same H G' ∧ H LO = none ∧ G' LO = some (.lst (nvl (ordA bs.length bs m))) ∧ σ = [some (.ref p), some (.ref V0), some (.int L), some (.int (bs.length : Int)), some (.ref pr), some (.ref pe), some (.int (n : Int)), some (.int m), some (.ref LO), none, none, none, none, none, none, none, none]) ?_ ?_
  · intro Q' hq
    refine ⟨_, rfl, _, rfl, by omega, by omega, fun LO nLO => lc_range (lo := 0) (n := bs.length) (fun i G' => Same H G' ∧ G' LO = some (.lst (nvl ((List.range i).filter fun j => decide (sj bs j = m))))) ⟨same_new nLO _, upd_same⟩ ?_ ?_⟩
    · rintro i G' hi ⟨sG, gL⟩
      refine ⟨rfl, _, rfl, _, rfl, V0, _, _, _, rfl, rfl, .inl (.inl (sG _ _ gV)), vat i hi, _, rfl, rfl, _, rfl, ite2 (fun c => ?_) (fun c => ?_)⟩
      · have c : sj bs i = m := V.int.inj (of_decide_eq_true c)
        refine ⟨_, rfl, _, gL, ?_, same_grow nLO sG _, ?_⟩
        · have := nVl (fun j => decide (sj bs j = m)) i (by omega)
          show _ < 2 ^ 24
          omega
        · rw [upd_same, flt_snoc, if_pos (decide_eq_true c), nvl_snoc, Int.zero_add]
      · have c : ¬ sj bs i = m := fun z => c (by rw [z]; exact decide_eq_true rfl)
        refine ⟨sG, ?_⟩
        rw [flt_snoc, if_neg (by rw [decide_eq_false c]; decide)]
        exact gL
    · rintro G' ⟨sG, gL⟩
      exact hq _ _ ⟨LO, sG, nLO, gL, rfl⟩
  rintro σ G1 ⟨LO, s1, nLO, gLO, rfl⟩
  have al4 : (ordA bs.length bs m).length ≤ 4 := by have := ord_len bs m; omega
  refine seq_cut (t := tAsg _ _) (fun σ G' => Same G1 G' ∧ σ = [some (.ref p), some (.ref V0), some (.int L), some (.int (bs.length : Int)), some (.ref pr), some (.ref pe), some (.int (n : Int)), some (.int m), some (.ref LO), none, some (.ref fS), none, none, none, none, none, none]) ?_ ?_
  · intro Q' hq
    refine ⟨_, rfl, LO, _, rfl, .inl (.inl (.inl gLO)), _, rfl, _, rfl, LO, _, rfl, .inl (.inl (.inl gLO)), _, _, rfl, rfl, by show 2 ≤ 2 ^ 24; decide, fun t nt => ?_⟩
    refine ⟨D, t, [((ordA bs.length bs m).length : Int), ((ordB bs.length bs m).length : Int)], pS, fS, rfl, rfl, SA, ?_, hx, hq _ _ ⟨same_new nt _, rfl⟩⟩
    rw [upd_same]
    have e1 : (nvl (ordA bs.length bs m)).length = (ordA bs.length bs m).length := List.length_map _
    have e2 : (bs.length : Int) - ((ordA bs.length bs m).length : Int) = ((ordB bs.length bs m).length : Int) := by have := ord_len bs m; omega
    show some (HO.tup [V.int ((nvl (ordA bs.length bs m)).length : Nat), V.int ((bs.length : Int) - ((nvl (ordA bs.length bs m)).length : Nat))]) = _
    rw [e1, e2]
    rfl
  rintro σ G2 ⟨s2, rfl⟩
  refine seq_cut (t := tAug _ _ _) (fun σ G' => ∃ v9, Same H G' ∧ G' LO = some (.lst (nvl (ordA bs.length bs m ++ ordB bs.length bs m))) ∧ σ = [some (.ref p), some (.ref V0), some (.int L), some (.int (bs.length : Int)), some (.ref pr), some (.ref pe), some (.int (n : Int)), some (.int m), some (.ref LO), v9, some (.ref fS), none, none, none, none, none, none]) ?_ ?_
  · intro Q' hq
    have gL2 := s2 _ _ gLO
    have gV2 := s2 _ _ (s1 _ _ gV)
    refine ⟨_, rfl, _, rfl, _, rfl, by omega, by omega, fun LB nLB => lc_range (lo := 0) (n := bs.length) (fun i G' => Same G2 G' ∧ G' LB = some (.lst (nvl ((List.range i).filter fun j => decide (sj bs j ≠ m))))) ⟨same_new nLB _, upd_same⟩ ?_ ?_⟩
    · rintro i G' hi ⟨sG, gL⟩
      refine ⟨rfl, _, rfl, _, rfl, V0, _, _, _, rfl, rfl, .inl (.inl (sG _ _ gV2)), vat i hi, _, rfl, rfl, _, rfl, ite2 (fun c => ?_) (fun c => ?_)⟩
      · have c : sj bs i ≠ m := fun z => by rw [z] at c; simp at c
        refine ⟨_, rfl, _, gL, ?_, same_grow nLB sG _, ?_⟩
        · have := nVl (fun j => decide (sj bs j ≠ m)) i (by omega)
          show _ < 2 ^ 24
          omega
        · rw [upd_same, flt_snoc, if_pos (decide_eq_true c), nvl_snoc, Int.zero_add]
      · have c : ¬ sj bs i ≠ m := fun z => c (by simp [z])
        refine ⟨sG, ?_⟩
        rw [flt_snoc, if_neg (by rw [decide_eq_false c]; decide)]
        exact gL
    · rintro G' ⟨sG, gL⟩
      refine ⟨LO, LB, _, _, rfl, rfl, sG _ _ gL2, gL, ?_, ?_⟩
      · have := nVl (fun j => decide (sj bs j = m)) bs.length l4
        have := nVl (fun j => decide (sj bs j ≠ m)) bs.length l4
        show (nvl ((List.range bs.length).filter fun j => decide (sj bs j = m))).length + _ ≤ 2 ^ 24
        omega
      · refine hq _ _ ⟨_, same_grow nLO (s1.trans (s2.trans sG)) _, ?_, rfl⟩
        rw [upd_same]
        unfold nvl
        rw [List.map_append]
        rfl
  rintro σ G3 ⟨v9, s3, gO, rfl⟩
  have ol : (ordA bs.length bs m ++ ordB bs.length bs m).length = bs.length := by rw [List.length_append]; exact ord_len bs m
  have oj : ∀ j ∈ ordA bs.length bs m ++ ordB bs.length bs m, j < bs.length := fun j hj => by
    rcases List.mem_append.mp hj with h | h
    · exact List.mem_range.mp (List.mem_filter.mp h).1
    · exact List.mem_range.mp (List.mem_filter.mp h).1
  have hgl : gls bs.length n bs m rows = (rows.map fun r => (ordA bs.length bs m ++ ordB bs.length bs m).map fun j => (r.getD j none).getD n) ++ [List.replicate bs.length n] := rfl
  have hnx := fun k => uk_next (m := m) (bs := bs) W hmo k
  have hA' := hA
  generalize hod : ordA bs.length bs m ++ ordB bs.length bs m = od at *
  refine seq_cut (t := tAsg _ _) (fun σ G' => ∃ v9 v12 LG ts, Same H G' ∧ H LG = none ∧ G' LG = some (.lst (ts.map V.ref)) ∧ TupsAt G' ts (rows.map fun r => od.map fun j => (r.getD j none).getD n) ∧ σ = [some (.ref p), some (.ref V0), some (.int L), some (.int (bs.length : Int)), some (.ref pr), some (.ref pe), some (.int (n : Int)), some (.int m), some (.ref LO), v9, some (.ref fS), some (.ref LG), v12, none, none, none, none]) ?_ ?_
  · intro Q' hq
    refine ⟨_, rfl, pr, rfl, ⟨_, .inl (.inl (s3 _ _ m2))⟩, fun LG nLG => lc_tup (K := K) (a := pr) (xs := rvs) (fun i G' => Same G3 G' ∧ ∃ ts, G' LG = some (.lst (ts.map V.ref)) ∧ TupsAt G' ts ((rows.take i).map fun r => od.map fun j => (r.getD j none).getD n)) ⟨same_new nLG _, [], upd_same, rfl, fun i r h => by cases h⟩ (fun i G' _ h => .inl (.inl (h.1 _ _ (s3 _ _ m2)))) ?_ ?_⟩
    · rintro i x G' hx ⟨sG, ts, gL, TA⟩
      have il : i < rows.length := by rw [← m4]; exact (List.getElem?_eq_some_iff.mp hx).1
      have er := List.getElem?_eq_getElem il
      obtain ⟨t, t1, t2⟩ := m5 i rows[i] er
      rw [hx] at t1
      cases t1
      have rl := (W.rw _ (List.mem_of_getElem? er)).1
      generalize hr0 : rows[i] = r at t2 rl
      have gt := sG _ _ (s3 _ _ t2)
      have gO' := sG _ _ gO
      refine ⟨rfl, _, rfl, LO, rfl, ⟨_, .inl (.inl gO')⟩, fun LT nLT => lc_list (K := K) (a := LO) (xs := nvl od) (fun j G2 => Same G' G2 ∧ G2 LT = some (.lst (nvl ((od.take j).map fun j => (r.getD j none).getD n)))) ⟨same_new nLT _, upd_same⟩ (fun j G2 _ h => .inl (.inl (h.1 _ _ gO'))) ?_ ?_⟩
      · rintro j y G5 hy ⟨s5, g5⟩
        unfold nvl at hy
        rw [List.getElem?_map] at hy
        obtain ⟨jj, ej, rfl⟩ := Option.map_eq_some_iff.mp hy
        have jl := oj jj (List.mem_of_getElem? ej)
        have jo : j < od.length := (List.getElem?_eq_some_iff.mp ej).1
        have ro : r[jj]? = some (r.getD jj none) := by
          rw [List.getD_eq_getElem?_getD, List.getElem?_eq_getElem (by rw [rl]; exact jl)]
          rfl
        have gt5 := s5 _ _ gt
        have at5 : atI (r.map oV) (jj : Int) = some (oV (r.getD jj none)) := atI_nat (by rw [List.getElem?_map, ro]; rfl)
        have sz : (nvl ((od.take j).map fun j => (r.getD j none).getD n)).length < 2 ^ 24 := by
          unfold nvl
          rw [List.length_map, List.length_map, List.length_take]
          omega
        have fin : (upd G5 LT (.lst (nvl ((od.take j).map fun j => (r.getD j none).getD n) ++ [V.int (((r.getD jj none).getD n : Nat) : Int)]))) LT = some (.lst (nvl ((od.take (j + 1)).map fun j => (r.getD j none).getD n))) := by
          rw [upd_same, List.take_add_one, ej, List.map_append, ← nvl_snoc]
          rfl
        refine ⟨rfl, _, rfl, _, rfl, t, _, _, _, rfl, rfl, .inl (.inl gt5), at5, _, rfl, ite2 (fun c => ?_) (fun c => ?_)⟩
        · have e : r.getD jj none = none := by cases eo : r.getD jj none with | none => rfl | some k => rw [eo] at c; exact absurd (of_decide_eq_true c) (fun z => nomatch z)
          rw [e] at fin
          exact ⟨_, rfl, _, g5, sz, same_grow nLT s5 _, fin⟩
        · cases eo : r.getD jj none with
          | none => rw [eo] at c; exact absurd (decide_eq_true rfl) c
          | some k =>
            rw [eo] at fin at5
            exact ⟨_, rfl, _, rfl, t, _, _, _, rfl, rfl, .inl (.inl gt5), at5, _, g5, sz, same_grow nLT s5 _, fin⟩
      · rintro G5 ⟨s5, g5⟩
        have eod : (nvl od).length = od.length := List.length_map _
        rw [eod, List.take_length] at g5
        refine ⟨LT, _, rfl, .inl ⟨.inl (.inl g5), fun t' nt' => ?_⟩⟩
        have s6 := same_new nt' (.tup (nvl (od.map fun j => (r.getD j none).getD n)))
        refine ⟨_, s6 _ _ (s5 _ _ gL), ?_, same_grow nLG (sG.trans (s5.trans s6)) _, ts ++ [t'], ?_, ?_⟩
        · rw [List.length_map, TA.1, List.length_map, List.length_take]
          have := W.rl
          show min i _ < 2 ^ 24
          omega
        · rw [upd_same, List.map_append]
          rfl
        · rw [List.take_add_one, er, List.map_append, hr0]
          exact TupsAt.snoc (((TA.same (s5.trans s6))).put (s6 _ _ (s5 _ _ gL)) _) (by rw [upd_ne (fun z => by rw [z] at nt'; rw [s5 _ _ gL] at nt'; cases nt'), upd_same]; rfl)
    · rintro G' ⟨sG, ts, gL, TA⟩
      rw [m4, List.take_length] at TA
      exact hq _ _ ⟨_, _, LG, ts, s3.trans sG, none_back s3 nLG, gL, TA, rfl⟩
  rintro σ G4 ⟨v9', v12, LG, ts, s4, nLG, gLG, TA, rfl⟩
  refine seq_cut (t := tIfS _ _ _) (fun σ G' => ∃ v13 k14 k15 k16, v13 = some (.int (m ^ L * cnt bs.length rows ends bs L 0)) ∧ Same H G' ∧ σ = [some (.ref p), some (.ref V0), some (.int L), some (.int (bs.length : Int)), some (.ref pr), some (.ref pe), some (.int (n : Int)), some (.int m), some (.ref LO), v9', some (.ref fS), some (.ref LG), v12, v13, k14, k15, k16]) ?_ ?_
  · intro Q' hq
    refine ⟨_, rfl, _, _, rfl, rfl, _, rfl, ite2 (fun c => ?_) (fun _ => ?_)⟩
    · have c := of_decide_eq_true c
      omega
    refine ⟨_, rfl, .inl ⟨rfl, _, .inl (.inl gLG)⟩, _, rfl, by show 1 ≤ 2 ^ 24; decide, fun t nt => ⟨_, rfl, ?_⟩⟩
    have w5 := same_new nt (.tup [V.int (n : Int)])
    have gt : upd G4 t (.tup [V.int (n : Int)]) t = _ := upd_same
    generalize upd G4 t (.tup [V.int (n : Int)]) = G5 at w5 gt
    refine ⟨t, bs.length, _, rfl, rfl, gt, by simp, by omega, by omega, by show 1 ≤ 1000; decide, fun t6 G6 s6 g6 => ?_⟩
    rw [rep_flat] at g6
    have gLG6 := s6 _ _ (w5 _ _ gLG)
    have tl : ts.length = rows.length := by rw [TA.1, List.length_map]
    refine ⟨LG, _, _, rfl, rfl, gLG6, by rw [List.length_map, tl, W.rl]; show _ < 2 ^ 24; omega, ?_⟩
    have s7 := same_grow nLG (s4.trans (w5.trans s6)) (.lst (ts.map V.ref ++ [V.ref t6]))
    have TA7 : TupsAt (upd G6 LG (.lst (ts.map V.ref ++ [V.ref t6]))) (ts ++ [t6]) (gls bs.length n bs m rows) := by
      rw [hgl]
      refine TupsAt.snoc ((TA.same (w5.trans s6)).put gLG6 _) ?_
      rw [upd_ne (fun z => by rw [z, gLG6] at g6; cases g6), g6, List.map_replicate]
    have gG7 : upd G6 LG (.lst (ts.map V.ref ++ [V.ref t6])) LG = some (.lst ((ts ++ [t6]).map V.ref)) := by rw [upd_same, List.map_append]; rfl
    generalize upd G6 LG (.lst (ts.map V.ref ++ [V.ref t6])) = G7 at s7 TA7 gG7
    clear gLG6 g6 gt w5 s6
    have gl := hnx
    dsimp only
    refine seq_cut (t := tAsg _ _) (fun σ G' => ∃ LS : Addr, Same G7 G' ∧ G' LS = some (.lst ((uk bs.length rows ends bs m n 0).map V.int)) ∧ σ = [some (.ref p), some (.ref V0), some (.int L), some (.int (bs.length : Int)), some (.ref pr), some (.ref pe), some (.int (n : Int)), some (.int m), some (.ref LO), v9', some (.ref fS), some (.ref LG), v12, none, some (.ref LS), none, none]) ?_ ?_
    · intro Q2 hq2
      have el := W.el
      refine ⟨_, rfl, pe, rfl, ⟨_, .inl (.inl (s7 _ _ m3))⟩, fun LE nLE => lc_tup (K := K) (a := pe) (xs := ends.map V.bl) (fun i G' => Same G7 G' ∧ G' LE = some (.lst ((ends.take i).map fun b : Bool => V.int (if b = true then 1 else 0)))) ⟨same_new nLE _, upd_same⟩ (fun i G' _ h => .inl (.inl (h.1 _ _ (s7 _ _ m3)))) ?_ ?_⟩
      · rintro i x G' hx ⟨sG, gL⟩
        rw [List.getElem?_map] at hx
        obtain ⟨b, eb, rfl⟩ := Option.map_eq_some_iff.mp hx
        refine ⟨rfl, _, rfl, .inr ⟨b, rfl, _, gL, ?_, same_grow nLE sG _, ?_⟩⟩
        · rw [List.length_map, List.length_take]
          show min i _ < 2 ^ 24
          omega
        · rw [upd_same, List.take_add_one, eb, List.map_append]
          rfl
      · rintro G' ⟨sG, gL⟩
        rw [List.length_map, List.take_length] at gL
        refine ⟨by show 1 ≤ 2 ^ 24; decide, fun L0 nL0 => ?_⟩
        have w8 := same_new nL0 (.lst [V.int 0])
        have g8 : upd G' L0 (.lst [V.int 0]) L0 = _ := upd_same
        generalize upd G' L0 (.lst [V.int 0]) = G8 at w8 g8
        refine ⟨LE, L0, _, _, rfl, rfl, w8 _ _ gL, g8, by rw [List.length_map, el]; show n + 1 ≤ 2 ^ 24; omega, fun LS nLS => hq2 _ _ ⟨LS, sG.trans (w8.trans (same_new nLS _)), ?_, rfl⟩⟩
        rw [upd_same, uk_zero W, List.map_append, List.map_map]
        rfl
    rintro σ G8 ⟨LS, s8, gLS, rfl⟩
    refine seq_cut (t := tFor _ _ _) (fun σ G' => ∃ LS k16, Same G8 G' ∧ G' LS = some (.lst ((uk bs.length rows ends bs m n L).map V.int)) ∧ σ = [some (.ref p), some (.ref V0), some (.int L), some (.int (bs.length : Int)), some (.ref pr), some (.ref pe), some (.int (n : Int)), some (.int m), some (.ref LO), v9', some (.ref fS), some (.ref LG), v12, none, some (.ref LS), none, k16]) ?_ ?_
    · intro Q2 hq2
      refine ⟨_, rfl, _, rfl, by omega, by omega, for_range (lo := 0) (n := L) (fun i σ G' => ∃ LS k16, Same G8 G' ∧ G' LS = some (.lst ((uk bs.length rows ends bs m n i).map V.int)) ∧ σ = [some (.ref p), some (.ref V0), some (.int L), some (.int (bs.length : Int)), some (.ref pr), some (.ref pe), some (.int (n : Int)), some (.int m), some (.ref LO), v9', some (.ref fS), some (.ref LG), v12, none, some (.ref LS), none, k16])
        ⟨LS, none, Same.refl _, gLS, rfl⟩ ?_ ?_⟩
      · rintro i σ G' hi ⟨LS, k16, sG, gS, rfl⟩
        have s89 := s8.trans sG
        refine ⟨fS, _, rfl, if_pos rfl, _, rfl, _, rfl, LG, LS, ts ++ [t6], gls bs.length n bs m rows, uk bs.length rows ends bs m n i, rfl, s89 _ _ gG7, TA7.1, fun k r e => ?_, fun r hr => ?_, ?_, ?_, gS, fun L9 G9 s9 g9 => ?_⟩
        · obtain ⟨t, a, b⟩ := TA7.2 k r e
          exact ⟨t, a, s89 _ _ b⟩
        · have sl : (sgOf (ordA bs.length bs m).length (ordB bs.length bs m).length).length = bs.length := by unfold sgOf; simp; exact ord_len bs m
          rw [sl, uk_len]
          rw [hgl] at hr
          rcases List.mem_append.mp hr with hr | hr
          · obtain ⟨r0, hr0, rfl⟩ := List.mem_map.mp hr
            refine ⟨by rw [List.length_map]; exact ol, fun j hj => ?_⟩
            obtain ⟨jj, hjj, rfl⟩ := List.mem_map.mp hj
            cases e : r0.getD jj none with
            | none => exact Nat.lt_succ_self n
            | some k =>
              have := (W.rw r0 hr0).2 k (by
                rw [List.getD_eq_getElem?_getD] at e
                cases e3 : r0[jj]? with
                | none => rw [e3] at e; cases e
                | some o => rw [e3] at e; cases e; exact List.mem_of_getElem? e3)
              exact Nat.lt_succ_of_lt this
          · rw [List.mem_singleton.mp hr]
            refine ⟨by rw [List.length_replicate], fun j hj => ?_⟩
            rw [(List.mem_replicate.mp hj).2]
            exact Nat.lt_succ_self n
        · rw [hgl, List.length_append, List.length_map, W.rl]
          show n + 1 ≤ 1000
          omega
        · rw [uk_len]
          omega
        · rw [hnx i] at g9
          exact ⟨L9, _, sG.trans s9, g9, rfl⟩
      · exact fun σ G' h => hq2 _ _ h
    rintro σ G9 ⟨LS, k16, s9, gS9, rfl⟩
    refine ⟨_, rfl, LS, _, 0, _, rfl, rfl, .inl (.inl gS9), atI_nat (j := 0) (v := .int (m ^ L * cnt bs.length rows ends bs L 0)) ?_, hq _ _ ⟨_, _, _, _, rfl, s7.trans (s8.trans s9), rfl⟩⟩
    have h0 := uk_at (l := bs.length) (rows := rows) (ends := ends) (bs := bs) (m := m) (k := L) (s := 0) (n := n) wn1
    rw [List.getElem?_map]
    rw [List.getD_eq_getElem?_getD] at h0
    rw [List.getElem?_eq_getElem (by rw [uk_len]; omega)] at h0 ⊢
    have h0 : (uk bs.length rows ends bs m n L)[0]'_ = _ := h0
    rw [Option.map_some, h0]
  rintro σ G9 ⟨v13, k14, k15, k16, rfl, s9, rfl⟩
  refine ⟨_, rfl, _, _, rfl, rfl, _, rfl, ite2 (fun c => ?_) (fun c => ?_)⟩
  · have c := of_decide_eq_true c
    have em : m = -1 := by omega
    refine ⟨_, rfl, _, _, rfl, rfl, _, rfl, ?_⟩
    rw [PyProof.Rows.bitAnd_m1]
    have k2 := q G9 s9
    rw [em, pow_neg1]
    cases e : (((L : Int) % 2) != 0) with
    | true =>
      have o : L % 2 = 1 := by
        have := bne_iff_ne.mp e
        omega
      rw [if_pos o]
      refine iteT ⟨_, rfl, _, rfl, ?_⟩
      show Q (V.int (-(-1 * cnt bs.length rows ends bs L 0))) G9
      rw [show (-(-1 * cnt bs.length rows ends bs L 0) : Int) = cnt bs.length rows ends bs L 0 by omega]
      exact k2
    | false =>
      have o : ¬ L % 2 = 1 := fun z => by
        have : ((L : Int) % 2 != 0) = true := bne_iff_ne.mpr (by omega)
        rw [e] at this
        cases this
      rw [if_neg o]
      refine iteF ⟨_, rfl, ?_⟩
      rw [Int.one_mul]
      exact k2
  · have c : ¬ m < 0 := fun z => c (decide_eq_true z)
    have em : m = 1 := by omega
    refine ⟨_, rfl, ?_⟩
    rw [em, pow_one1, Int.one_mul]
    exact q G9 s9
end
end S25
/-! Signed counts by squares of a table of ways. No row. -/
namespace KSQ
open KM
/-- sums over places -/
def sg (n : Nat) (f : Nat → Int) : Int := ((List.range n).map f).sum
theorem sg_zero (f : Nat → Int) : sg 0 f = 0 := rfl
theorem sg_succ (n : Nat) (f : Nat → Int) : sg (n + 1) f = sg n f + f n := by
  unfold sg
  rw [List.range_succ, List.map_append, sum_app]
  simp
theorem sg_congr {n : Nat} {f g : Nat → Int} (h : ∀ i, i < n → f i = g i) : sg n f = sg n g := by
  unfold sg
  congr 1
  exact List.map_congr_left fun i hi => h i (List.mem_range.mp hi)
theorem sg_add (f g : Nat → Int) : ∀ n, sg n (fun i => f i + g i) = sg n f + sg n g
  | 0 => rfl
  | n + 1 => by rw [sg_succ, sg_succ, sg_succ, sg_add f g n]; omega
theorem sg_mul (c : Int) (f : Nat → Int) : ∀ n, sg n (fun i => c * f i) = c * sg n f
  | 0 => by rw [sg_zero, sg_zero, Int.mul_zero]
  | n + 1 => by rw [sg_succ, sg_succ, sg_mul c f n, Int.mul_add]
theorem sg_none : ∀ n, sg n (fun _ => 0) = 0
  | 0 => rfl
  | n + 1 => by rw [sg_succ, sg_none n]; rfl
theorem sg_swap (f : Nat → Nat → Int) (m : Nat) : ∀ n, sg n (fun i => sg m fun j => f i j) = sg m fun j => sg n fun i => f i j
  | 0 => by rw [sg_zero]; exact (sg_none m).symm
  | n + 1 => by
    rw [sg_succ, sg_swap f m n, ← sg_add]
    exact sg_congr fun j _ => (sg_succ n fun i => f i j).symm
theorem sg_one {n : Nat} {k : Nat} (c : Int) (hk : k < n) : sg n (fun i => if i = k then c else 0) = c := by
  induction n with
  | zero => omega
  | succ n ih =>
    rw [sg_succ]
    by_cases e : n = k
    · subst e
      rw [if_pos rfl, sg_congr (g := fun _ => 0) fun i hi => if_neg (by omega), sg_none, Int.zero_add]
    · rw [if_neg e, ih (by omega), Int.add_zero]
theorem sg_abs {b : Nat} (f : Nat → Int) : ∀ n, (∀ i, i < n → (f i).natAbs ≤ b) → (sg n f).natAbs ≤ n * b
  | 0, _ => by rw [sg_zero]; exact Nat.zero_le _
  | n + 1, h => by
    rw [sg_succ, Nat.succ_mul]
    have h1 := sg_abs f n fun i hi => h i (by omega)
    have h2 := h n (by omega)
    have h3 := Int.natAbs_add_le (sg n f) (f n)
    omega
/-- one step, and many -/
def mv (n : Nat) (W : Nat → Nat → Int) (v : Nat → Int) : Nat → Int := fun i => sg n fun t => W i t * v t
def mm (n : Nat) (W : Nat → Nat → Int) : Nat → Nat → Int := fun i k => sg n fun t => W i t * W t k
def itv (n : Nat) (W : Nat → Nat → Int) : Nat → (Nat → Int) → Nat → Int
  | 0, v => v
  | k + 1, v => itv n W k (mv n W v)
theorem mv_congr {n : Nat} {W W' : Nat → Nat → Int} {v v' : Nat → Int} (hW : ∀ i t, i < n → t < n → W i t = W' i t) (hv : ∀ i, i < n → v i = v' i) {i : Nat} (hi : i < n) : mv n W v i = mv n W' v' i := sg_congr fun t ht => by rw [hW i t hi ht, hv t ht]
theorem itv_congr {n : Nat} {W W' : Nat → Nat → Int} (hW : ∀ i t, i < n → t < n → W i t = W' i t) : ∀ (k : Nat) {v v' : Nat → Int}, (∀ i, i < n → v i = v' i) → ∀ i, i < n → itv n W k v i = itv n W' k v' i
  | 0, _, _, hv, i, hi => hv i hi
  | k + 1, _, _, hv, i, hi => itv_congr hW k (fun _ hj => mv_congr hW hv hj) i hi
theorem mm_mv (n : Nat) (W : Nat → Nat → Int) (v : Nat → Int) (i : Nat) : mv n (mm n W) v i = mv n W (mv n W v) i := by
  unfold mv mm
  have e1 : (sg n fun t => (sg n fun s => W i s * W s t) * v t) = sg n fun t => sg n fun s => W i s * W s t * v t := sg_congr fun t _ => by
    rw [Int.mul_comm, ← sg_mul]
    exact sg_congr fun s _ => Int.mul_comm _ _
  rw [e1, sg_swap]
  refine sg_congr fun s _ => ?_
  rw [← sg_mul]
  exact sg_congr fun t _ => Int.mul_assoc _ _ _
theorem itv_mm (n : Nat) (W : Nat → Nat → Int) : ∀ (k : Nat) (v : Nat → Int) (i : Nat), i < n → itv n (mm n W) k v i = itv n W (2 * k) v i
  | 0, v, i, _ => rfl
  | k + 1, v, i, hi => by
    show itv n (mm n W) k (mv n (mm n W) v) i = itv n W (2 * k) (mv n W (mv n W v)) i
    rw [itv_mm n W k _ i hi]
    exact itv_congr (fun _ _ _ _ => rfl) (2 * k) (fun j _ => mm_mv n W v j) i hi
theorem itv_last (n : Nat) (W : Nat → Nat → Int) : ∀ (k : Nat) (v : Nat → Int), itv n W (k + 1) v = mv n W (itv n W k v)
  | 0, v => rfl
  | k + 1, v => itv_last n W k (mv n W v)
/-- the ways from a state to another by one letter, with their signs -/
def way (l : Nat) (rows : Rows) (bs : List Bool) (s g : Nat) : Int := sg l fun j => if stepM rows s j = some g then sj bs j else 0
theorem cnt_way {l n : Nat} {rows : Rows} {ends bs : List Bool} (W : WF l n rows ends) : ∀ (k s : Nat), s < n → cnt l rows ends bs k s = itv n (way l rows bs) k (fun s => if ends.getD s false then 1 else 0) s
  | 0, s, _ => rfl
  | k + 1, s, hs => by
    rw [itv_last]
    show ((List.range l).map fun j => match stepM rows s j with | none => 0 | some t => sj bs j * cnt l rows ends bs k t).sum = sg n fun t => way l rows bs s t * _
    have e1 : (sg n fun t => way l rows bs s t * itv n (way l rows bs) k (fun s => if ends.getD s false then 1 else 0) t) = sg n fun t => sg l fun j => (if stepM rows s j = some t then sj bs j else 0) * cnt l rows ends bs k t := sg_congr fun t ht => by
      rw [← cnt_way W k t ht]
      unfold way
      rw [Int.mul_comm, ← sg_mul]
      exact sg_congr fun j _ => Int.mul_comm _ _
    rw [e1, sg_swap]
    show sg l _ = _
    refine sg_congr fun j _ => ?_
    cases e : stepM rows s j with
    | none =>
      show (0 : Int) = _
      rw [sg_congr (g := fun _ => 0) fun t _ => by rw [if_neg (fun z => nomatch z), Int.zero_mul], sg_none]
    | some t =>
      have tn := W.step_lt hs e
      show sj bs j * cnt l rows ends bs k t = _
      rw [sg_congr (g := fun i => if i = t then sj bs j * cnt l rows ends bs k t else 0) fun i _ => ?_, sg_one _ tn]
      by_cases c : i = t
      · subst c
        rw [if_pos rfl, if_pos rfl]
      · rw [if_neg (fun z => c (Option.some.inj z).symm), if_neg c, Int.zero_mul]
theorem sj_abs (bs : List Bool) (j : Nat) : (sj bs j).natAbs ≤ 1 := by
  unfold sj
  split <;> decide
theorem way_abs (l : Nat) (rows : Rows) (bs : List Bool) (s g : Nat) : (way l rows bs s g).natAbs ≤ l := by
  have := sg_abs (b := 1) (fun j => if stepM rows s j = some g then sj bs j else 0) l fun j _ => by
    split
    · exact sj_abs bs j
    · decide
  rw [Nat.mul_one] at this
  exact this
/-- bounds by powers of two -/
theorem two_bound {n a b : Nat} (n8 : n ≤ 8) {f g : Nat → Int} (hf : ∀ t, t < n → (f t).natAbs < 2 ^ a) (hg : ∀ t, t < n → (g t).natAbs < 2 ^ b) : (sg n fun t => f t * g t).natAbs < 2 ^ (a + b + 4) := by
  have h := sg_abs (b := 2 ^ (a + b)) (fun t => f t * g t) n fun t ht => by
    rw [Int.natAbs_mul, Nat.pow_add]
    exact Nat.mul_le_mul (Nat.le_of_lt (hf t ht)) (Nat.le_of_lt (hg t ht))
  have h2 : n * 2 ^ (a + b) ≤ 8 * 2 ^ (a + b) := Nat.mul_le_mul_right _ n8
  have h3 : 2 ^ (a + b + 4) = 16 * 2 ^ (a + b) := by rw [Nat.pow_add, Nat.mul_comm]
  have h4 : 0 < 2 ^ (a + b) := Nat.two_pow_pos _
  omega
end KSQ
/-! xs[i] op= y; names op= by bits. No row. -/
namespace GGT
open PySem PySem.Spec L2 GL KC PyProof.Rows
/-- an item of a list, read ahead of its change in place -/
def rGet : V → V → Hp → VK → Prop := fun o i H Q => ∃ (p : Addr) (xs : List V) (j : Nat) (v : V), o = .ref p ∧ i = .int (j : Int) ∧ H p = some (.lst xs) ∧ xs[j]? = some v ∧ Q v H
theorem get_list {X : Cx} : PGet X rGet := by
  intro pins s σ H o i ov iv Q I ro ri h
  obtain ⟨p, xs, j, v, rfl, rfl, hp, hj, q⟩ := h
  cases ro
  obtain ⟨t, rfl⟩ := ri
  obtain ⟨its, r, pl, hz⟩ := I.list (.inl (.inl hp))
  obtain ⟨w, ew, rw'⟩ := r.get hj
  have hl := r.length
  have hn := line63
  have jl := (List.getElem?_eq_some_iff.mp hj).1
  refine getItem_listL (x := w) pl.isList (by omega) (by omega) (by rw [Int.toNat_natCast]; exact ew) ⟨v, H, I, rw', q⟩
theorem ip_and {X : Cx} : PIp X .BitAnd (rI0 fun i j => .int (Builtin.bitAnd i j)) := fun pins s σ H x y v u Q I r1 r2 h => iop_and pins s σ H x y v u Q I r1 r2 h
theorem ip_shr {X : Cx} : PIp X .RShift (rI (fun _ j => 0 ≤ j) fun i j => .int (i / 2 ^ j.toNat)) := fun pins s σ H x y v u Q I r1 r2 h => iop_shr pins s σ H x y v u Q I r1 r2 h
end GGT
/-! A walk of any body; a while whose measure stands in its invariant. No row. -/
namespace GW
open PySem PySem.Spec PyProof.Rows L2
theorem it_by {J : It} {n : Nat} {G : Hp → Prop} {Y : Nat → Hp → V → Hp → Prop} (w : Walk J n G Y) {Body : V → Hp → (Hp → Prop) → Prop} {Fin : Hp → Prop} (Pv : Nat → Hp → Prop) {H0 : Hp} (h0 : Pv 0 H0) (hG : ∀ i H, i ≤ n → Pv i H → G H)
    (hs : ∀ i x H H', i < n → Pv i H → Y i H x H' → Body x H' (Pv (i + 1))) (hd : ∀ H, Pv n H → Fin H) :
    ∃ W : Nat → Nat → Hp → Prop, (∃ m, W 0 m H0) ∧ ∀ i m H, W i m H → (J.stop i H ∧ Fin H) ∨ (J.go i H ∧ ∃ Nx : Hp → Prop, (∀ H', Nx H' → ∃ m', m' < m ∧ W (i + 1) m' H') ∧ ∀ x H', J.yld i H x H' → Body x H' Nx) := by
  refine ⟨fun i m H => m = n - i ∧ i ≤ n ∧ Pv i H, ⟨n, by simp, Nat.zero_le _, h0⟩, ?_⟩
  rintro i m H ⟨rfl, il, p⟩
  by_cases c : i < n
  · exact .inr ⟨w.goes i H c (hG i H il p), Pv (i + 1), fun H' p' => ⟨n - (i + 1), by omega, rfl, c, p'⟩, fun x H' y => hs i x H H' c p (w.yields i H x H' c (hG i H il p) y)⟩
  · have e : i = n := by omega
    subst e
    exact .inl ⟨w.stops H (hG i H il p), hd H p⟩
theorem while_m {c : TT} {tb : TS} {D : Ends} {σ : L2.St} {H : Hp} (Pv : Nat → L2.St → Hp → Prop) (m0 : Nat) (h0 : Pv m0 σ H)
    (hs : ∀ m σ H, Pv m σ H → c σ H fun b H1 => if b = true then tb { D with nx := fun σ' H' => ∃ m', m' < m ∧ Pv m' σ' H', ct := fun σ' H' => ∃ m', m' < m ∧ Pv m' σ' H', bk := D.nx } σ H1 else D.nx σ H1)
    (mono : ∀ σ H Q Q', (∀ b H1, Q b H1 → Q' b H1) → c σ H Q → c σ H Q') : tWhile c tb D σ H := by
  refine ⟨Pv, ⟨m0, h0⟩, fun m σ H p => mono σ H _ _ (fun b H1 q => ?_) (hs m σ H p)⟩
  cases b with
  | true => exact ⟨_, fun σ' H' z => z, q⟩
  | false => exact q
end GW
/-! product_sum, by_squares. -/
namespace S25
open PySem L2 GL KC GZ KW KM GRJ K25 KSQ GW
abbrev sPs : Stmt := top 23
abbrev NPs : List Str := ["one", "other", "first", "second"]
theorem scPs : FnScope NPs ["one", "other"] (defScope sPs) := ⟨rfl, rfl, rfl, by decide +kernel, rfl, by decide +kernel, by decide +kernel⟩
abbrev sSq : Stmt := top 24
abbrev NSq : List Str := ["machine", "values", "length", "ways", "row", "found", "goal", "value", "sums", "end", "columns", "at", "column"]
theorem scSq : FnScope NSq ["machine", "values", "length"] (defScope sSq) := ⟨rfl, rfl, rfl, by decide +kernel, rfl, by decide +kernel, by decide +kernel⟩
def scCo : Scope := match (defBody sSq).getD 3 sSq with
  | .While _ b _ _ => (match b.getD 2 sSq with
    | .If _ b2 _ _ => (match b2.getD 0 sSq with
      | .Assign _ (.ListComp _ _ sc _) _ => sc
      | _ => defScope sSq)
    | _ => defScope sSq)
  | _ => defScope sSq
def scWa : Scope := match (defBody sSq).getD 3 sSq with
  | .While _ b _ _ => (match b.getD 2 sSq with
    | .If _ b2 _ _ => (match b2.getD 1 sSq with
      | .Assign _ (.ListComp _ _ sc _) _ => sc
      | _ => defScope sSq)
    | _ => defScope sSq)
  | _ => defScope sSq
theorem walk2q {K : PySem.W.Frag} {k1 k2 : Kd} {v1 v2 : V} {xs ys : List V} : Walk (It2 K k1 v1 xs k2 v2 ys) (min xs.length ys.length) (fun H => Src K H k1 v1 xs ∧ Src K H k2 v2 ys) (fun i H v H' => ∃ T r, v = .ref T ∧ H T = none ∧ H' = upd H T (.tup r) ∧ row2 xs ys i = some r) := walk_N
/-- a list of numbers, by a function of the place -/
def vl (n : Nat) (f : Nat → Int) : List V := (List.range n).map fun i => V.int (f i)
theorem vl_len (n : Nat) (f : Nat → Int) : (vl n f).length = n := by unfold vl; simp
theorem vl_at {n i : Nat} (f : Nat → Int) (h : i < n) : (vl n f)[i]? = some (.int (f i)) := by unfold vl; rw [List.getElem?_map, List.getElem?_range h]; rfl
theorem vl_ints (n : Nat) (f : Nat → Int) : vl n f = ((List.range n).map f).map V.int := by unfold vl; rw [List.map_map]; rfl
theorem vl_take {n i : Nat} (f : Nat → Int) (h : i ≤ n) : (vl n f).take i = vl i f := by unfold vl; rw [← List.map_take, List.take_range, Nat.min_eq_left h]
theorem vl_snoc (i : Nat) (f : Nat → Int) : vl (i + 1) f = vl i f ++ [V.int (f i)] := by unfold vl; rw [List.range_succ, List.map_append]; rfl
theorem vl_set {n g : Nat} (f : Nat → Int) (x : Int) : (vl n f).set g (.int x) = vl n fun t => if t = g then x else f t := by
  refine List.ext_getElem? fun i => ?_
  rw [List.getElem?_set, vl_len]
  by_cases hi : i < n
  · rw [vl_at _ hi]
    by_cases e : g = i
    · subst e
      rw [if_pos rfl, if_pos hi, vl_at _ hi, if_pos rfl]
    · rw [if_neg e, vl_at _ hi, if_neg fun z => e z.symm]
  · rw [List.getElem?_eq_none (l := vl n f) (by rw [vl_len]; omega), List.getElem?_eq_none (l := vl n _) (by rw [vl_len]; omega)]
    split
    · split
      · omega
      · rfl
    · rfl
theorem vl_congr {n : Nat} {f g : Nat → Int} (h : ∀ i, i < n → f i = g i) : vl n f = vl n g := List.map_congr_left fun i hi => by rw [h i (List.mem_range.mp hi)]
/-- rows of numbers -/
def MatAt (G : Hp) (us : List Addr) (m n : Nat) (f : Nat → Nat → Int) : Prop := us.length = m ∧ ∀ s, s < m → ∃ u : Addr, us[s]? = some u ∧ G u = some (.lst (vl n (f s)))
theorem MatAt.same {G G' : Hp} {us : List Addr} {m n : Nat} {f : Nat → Nat → Int} (h : MatAt G us m n f) (s : Same G G') : MatAt G' us m n f := ⟨h.1, fun i hi => let ⟨u, a, b⟩ := h.2 i hi; ⟨u, a, s _ _ b⟩⟩
theorem MatAt.snoc {G : Hp} {us : List Addr} {m n : Nat} {f : Nat → Nat → Int} (h : MatAt G us m n f) {u : Addr} (g : G u = some (.lst (vl n (f m)))) : MatAt G (us ++ [u]) (m + 1) n f := by
  refine ⟨by rw [List.length_append, h.1]; rfl, fun s hs => ?_⟩
  by_cases e : s = m
  · subst e
    exact ⟨u, by rw [List.getElem?_append_right (by rw [h.1]; exact Nat.le_refl _), h.1, Nat.sub_self]; rfl, g⟩
  · obtain ⟨v, a, b⟩ := h.2 s (by omega)
    exact ⟨v, by rw [List.getElem?_append_left (by rw [h.1]; omega)]; exact a, b⟩
theorem MatAt.but {G G' : Hp} {us : List Addr} {m n : Nat} {f : Nat → Nat → Int} {p : Addr} (h : MatAt G us m n f) (b : ∀ b u, G b = some u → b ≠ p → G' b = some u) (np : ∀ u ∈ us, u ≠ p) : MatAt G' us m n f := ⟨h.1, fun i hi => let ⟨u, a, g⟩ := h.2 i hi; ⟨u, a, b _ _ g (np u (List.mem_of_getElem? a))⟩⟩
def spSq : Sp := fun vs H Q _ => ∃ (p V0 : Addr) (l n L : Nat) (rows : Rows) (ends bs : List Bool), vs = [.ref p, .ref V0, .int L] ∧ MachAt H p l rows ends ∧ WF l n rows ends ∧ n ≤ 8 ∧ bs.length = l ∧ H V0 = some (.lst ((bs.map sgV).map V.int)) ∧ L ≤ 1000 ∧
  ∀ G, Same H G → Q (.int (cnt l rows ends bs L 0)) G
def spPs : Sp := fun vs H Q _ => ∃ (a b : Addr) (n A B : Nat) (f g : Nat → Int), vs = [.ref a, .ref b] ∧ H a = some (.lst (vl n f)) ∧ H b = some (.lst (vl n g)) ∧ n ≤ 8 ∧ (∀ t, t < n → (f t).natAbs < 2 ^ A) ∧ (∀ t, t < n → (g t).natAbs < 2 ^ B) ∧ 0 < A ∧ 0 < B ∧ A + B ≤ 1000000 ∧
  ∀ G, Same H G → Q (.int (sg n fun t => f t * g t)) G
section
variable {P : Program} {w : World} {K : PySem.W.Frag} {mg : Str → Option Value} {base : Heap}
theorem ok_ps {f : Addr} {fd : FuncData} (F : Fun K "product_sum" "product_sum" sPs f fd) (msum : mg "sum" = none) (TZ : mg "zip" = none) : FnOk P w K mg base CX0 1 f fd ["one", "other"] spPs := by
  refine F.ok scPs (fun vs H Q E h => ?_) (fun cdv A0 outer s H vs Q E hr h => ?_)
  · obtain ⟨a, b, n, A, B, f, g, rfl, _⟩ := h
    rfl
  obtain ⟨a, b, n, A, B, f, g, rfl, ha, hb, n8, hf, hg, A0', B0, AB, q⟩ := h
  refine ⟨_, (pss_one (ps_ret (pe_callB (cr_sum (by rfl)) (by rfl) msum (by decide +kernel) (pa_cons (pe_lc (own := [("first", 2), ("second", 3)]) (g := gTup K 2 (gCons (gName 2) (gCons (gName 3) gNil))) (tt := tYes) rfl scPs.nd (pi_z2 rfl TZ (pa_cons (pv 0) (pa_cons (pv 1) pa_nil))) (blkOk_by (own := [("first", 2), ("second", 3)]) (N := NPs) (sc := defScope sPs) (by decide +kernel)) (fun _ _ _ _ _ => show PG _ _ (gTup K 2 (gCons (gName 2) (gCons (gName 3) gNil))) from pg_tup (by rfl) (pgs_cons (pg_name (i := 2) scPs.nd rfl (Or.inl rfl)) (pgs_cons (pg_name (i := 3) scPs.nd rfl (Or.inl rfl)) pgs_nil))) (fun _ _ _ _ _ => pts_nil) (fun _ _ _ _ _ => (pe_op op_mulW (pv 2) (pv 3)))) pa_nil)))), ?_⟩
  have mn : min (vl n f).length (vl n g).length = n := by rw [vl_len, vl_len]; exact Nat.min_self n
  refine ⟨_, rfl, _, rfl, .ref a, .ref b, .lst, .lst, vl n f, vl n g, rfl, ⟨_, rfl, .inl (.inl ha)⟩, ⟨_, rfl, .inl (.inl hb)⟩, fun L nL => lc_it walk2q (fun i G => Same H G ∧ G L = some (.lst (vl i fun t => f t * g t))) ⟨same_new nL _, upd_same⟩ ?_ ?_ ?_⟩
  · rintro i G _ ⟨sG, gL⟩
    exact ⟨⟨_, rfl, .inl (.inl (sG _ _ ha))⟩, ⟨_, rfl, .inl (.inl (sG _ _ hb))⟩⟩
  · rintro i x G G' il ⟨sG, gL⟩ ⟨T, r, rfl, nT, rfl, er⟩
    rw [mn] at il
    obtain ⟨x1, y1, h1, h2, rfl⟩ := row2_of er
    rw [vl_at f il] at h1
    rw [vl_at g il] at h2
    cases h1
    cases h2
    have s1 := same_new nT (.tup [V.int (f i), V.int (g i)])
    refine ⟨T, _, rfl, .inl (.inl upd_same), rfl, _, _, rfl, _, _, rfl, rfl, rfl, _, rfl, _, rfl, _, _, rfl, rfl, wide_mul (hf i il) (hg i il) A0' B0 AB, _, s1 _ _ gL, by rw [vl_len]; show i < 2 ^ 24; omega, same_grow nL (sG.trans s1) _, ?_⟩
    rw [upd_same, vl_snoc]
  · rintro G ⟨sG, gL⟩
    rw [mn] at gL
    rw [vl_ints] at gL
    exact ⟨L, _, rfl, .inl (.inl gL), q G sG⟩
theorem ok_sq {f fP : Addr} {fd fdP : FuncData} (F : Fun K "by_squares" "by_squares" sSq f fd) (T : TxC mg) (TZ : mg "zip" = none) (PS : Dfn P w K mg base "product_sum" 1 fP fdP ["one", "other"] spPs) : FnOk P w K mg base CX0 2 f fd ["machine", "values", "length"] spSq := by
  refine F.ok scSq (fun vs H Q E h => ?_) (fun cdv A outer s H vs Q E hr h => ?_)
  · obtain ⟨p, V0, l, n, L, rows, ends, bs, rfl, _⟩ := h
    rfl
  obtain ⟨p, V0, l, n, L, rows, ends, bs, rfl, M, W, n1, bl, gV, L1, q⟩ := h
  refine ⟨_, (pss_cons (ps_set (i := 3) scSq.nd rfl (Or.inr rfl) (pe_lst pa_nil))
    (pss_cons (ps_for PassesOwn.never rfl (pi_tup (pe_ixT (pv 0) pe_int (fun _ _ => rfl))) (pg_name (i := 4) scSq.nd rfl (Or.inl rfl))
      (pss_cons (ps_set (i := 5) scSq.nd rfl (Or.inl rfl) (pe_op op_rep (pe_lst (pa_cons pe_int pa_nil)) (pe_callB call_lenS (by rfl) T.len PySem.boot_len (pa_cons (pe_ixT (pv 0) pe_int (fun _ _ => rfl)) pa_nil))))
      (pss_cons (ps_for PassesOwn.never rfl (pi_z2 rfl TZ (pa_cons (pv 4) (pa_cons (pv 1) pa_nil))) (pg_tup (by rfl) (pgs_cons (pg_name (i := 6) scSq.nd rfl (Or.inl rfl)) (pgs_cons (pg_name (i := 7) scSq.nd rfl (Or.inl rfl)) pgs_nil)))
        (pss_one (ps_if (pt_cmp (pc_notN (pv 6)))
          (pss_one (ps_augS (pv 5) (pv 6) GGT.get_list (pv 7) ip_add set_list))
          pss_nil)))
      (pss_one (ps_expr (pe_bm PySem.F.plainAttrs_list PySem.F.slot_list_append PySem.F.type_list_append mt_append (pv 3) (pa_cons (pv 5) pa_nil)))))))
    (pss_cons (ps_set (i := 8) scSq.nd rfl (Or.inr rfl) (pe_lc (own := [("end", 9)]) (g := gName 9) (tt := tYes) rfl scSq.nd (pi_tup (pe_ixT (pv 0) pe_int (fun _ _ => rfl))) (blkOk_by (own := [("end", 9)]) (N := NSq) (sc := defScope sSq) (by decide +kernel)) (fun _ _ _ _ _ => pg_name (i := 9) scSq.nd rfl (Or.inl rfl)) (fun _ _ _ _ _ => pts_nil) (fun _ _ _ _ _ => (pe_callTy call_int1 (by rfl) T.int (by decide +kernel) (pa_cons (pv 9) pa_nil)))))
    (pss_cons (ps_while PassesOwn.never (pt_truth (pv 2) (by intro _; rfl))
      (pss_cons (ps_if (pt_truth (pe_op op_and (pv 2) pe_int) (by intro _; rfl))
        (pss_one (ps_set (i := 8) scSq.nd rfl (Or.inr rfl) (pe_lc (own := [("row", 4)]) (g := gName 4) (tt := tYes) rfl scSq.nd (pi_list (pv 3)) (blkOk_by (own := [("row", 4)]) (N := NSq) (sc := defScope sSq) (by decide +kernel)) (fun _ _ _ _ _ => pg_name (i := 4) scSq.nd rfl (Or.inl rfl)) (fun _ _ _ _ _ => pts_nil) (fun _ _ _ _ _ => (pe_call PS.ok hr rfl PS.m PS.kp PS.b .nil pass0 (pa_cons (pv 4) (pa_cons (pv 8) pa_nil)))))))
        pss_nil)
      (pss_cons (ps_aug (i := 2) scSq.nd rfl (Or.inl rfl) pe_int GGT.ip_shr)
      (pss_one (ps_if (pt_truth (pv 2) (by intro _; rfl))
        (pss_cons (ps_set (i := 10) scSq.nd rfl (Or.inr rfl) (pe_lc (own := [("at", 11)]) (g := gName 11) (tt := tYes) rfl scSq.nd (pi_range1 (by rfl) T.range (pa_cons (pe_callB call_lenS (by rfl) T.len PySem.boot_len (pa_cons (pv 3) pa_nil)) pa_nil)) (blkOk_by (own := [("at", 11)]) (N := NSq) (sc := defScope sSq) (by decide +kernel)) (fun _ _ _ _ _ => pg_name (i := 11) scSq.nd rfl (Or.inr rfl)) (fun _ _ _ _ _ => pts_nil) (fun _ _ _ _ _ => (pe_lc (own := [("row", 4)]) (g := gName 4) (tt := tYes) rfl scSq.nd (show PI _ _ _ (iList K _) from (pi_list (pv 3))) (blkOk_by (own := [("row", 4)]) (N := NSq) (sc := relS scCo (defScope sSq)) (by decide +kernel)) (fun _ _ _ _ _ => pg_name (i := 4) scSq.nd rfl (Or.inl rfl)) (fun _ _ _ _ _ => pts_nil) (fun _ _ _ _ _ => (show PE _ _ (tOp (rIxL K) _ _) from (pe_ix ix_list (pv 4) (pv 11) (fun _ _ => rfl))))))))
        (pss_one (ps_set (i := 3) scSq.nd rfl (Or.inr rfl) (pe_lc (own := [("row", 4)]) (g := gName 4) (tt := tYes) rfl scSq.nd (pi_list (pv 3)) (blkOk_by (own := [("row", 4)]) (N := NSq) (sc := defScope sSq) (by decide +kernel)) (fun _ _ _ _ _ => pg_name (i := 4) scSq.nd rfl (Or.inr rfl)) (fun _ _ _ _ _ => pts_nil) (fun _ _ _ _ _ => (pe_lc (own := [("column", 12)]) (g := gName 12) (tt := tYes) rfl scSq.nd (show PI _ _ _ (iList K _) from (pi_list (pv 10))) (blkOk_by (own := [("column", 12)]) (N := NSq) (sc := relS scWa (defScope sSq)) (by decide +kernel)) (fun _ _ _ _ _ => pg_name (i := 12) scSq.nd rfl (Or.inl rfl)) (fun _ _ _ _ _ => pts_nil) (fun _ _ _ _ _ => (pe_call PS.ok hr rfl PS.m PS.kp PS.b .nil pass0 (pa_cons (pv 4) (pa_cons (pv 12) pa_nil))))))))))
        pss_nil)))))
    (pss_one (ps_ret (pe_ix ix_list (pv 8) pe_int (fun _ _ => rfl)))))))), ?_⟩
  obtain ⟨pr, pe, rvs, m1, m2, m3, m4, m5⟩ := M.ex
  have l4 := W.l4
  have l1 := W.l1
  have wn1 := W.n1
  have rn : rvs.length = n := by rw [m4, W.rl]
  subst bl
  refine ⟨by show 0 ≤ 2 ^ 24; decide, fun Lw nLw => ?_⟩
  have s0 := same_new nLw (.lst [])
  have g0 : upd H Lw (.lst []) Lw = some (.lst []) := upd_same
  generalize upd H Lw (.lst []) = G0 at s0 g0
  dsimp only [gName]
  refine seq_cut (t := tFor _ _ _) (fun σ G => ∃ (k4 k5 k6 k7 : Option V) (us : List Addr), σ = [some (.ref p), some (.ref V0), some (.int L), some (.ref Lw), k4, k5, k6, k7, none, none, none, none, none] ∧ Same H G ∧ G Lw = some (.lst (us.map V.ref)) ∧ MatAt G us n n (way bs.length rows bs)) ?_ ?_
  · intro Q' hq
    refine ⟨_, rfl, p, _, 1, .ref pr, rfl, rfl, .inl (.inl (s0 _ _ m1)), rfl, pr, rfl, ⟨_, .inl (.inl (s0 _ _ m2))⟩, for_tup (K := K) (a := pr) (xs := rvs) (fun i σ G => ∃ (k4 k5 k6 k7 : Option V) (us : List Addr), σ = [some (.ref p), some (.ref V0), some (.int L), some (.ref Lw), k4, k5, k6, k7, none, none, none, none, none] ∧ Same H G ∧ G Lw = some (.lst (us.map V.ref)) ∧ (∀ u ∈ us, u ≠ Lw) ∧ MatAt G us i n (way bs.length rows bs))
      ⟨none, none, none, none, [], rfl, s0, g0, (fun u h => nomatch h), rfl, fun s h => absurd h (Nat.not_lt_zero _)⟩ (fun i σ G _ ⟨_, _, _, _, _, _, h, _⟩ => .inl (.inl (h _ _ m2))) ?_ ?_⟩
    · rintro i x σ G hx ⟨k4, k5, k6, k7, us, rfl, sG, gw, un, MA⟩
      have il : i < rows.length := by rw [← m4]; exact (List.getElem?_eq_some_iff.mp hx).1
      have inn : i < n := by rw [W.rl] at il; exact il
      have er := List.getElem?_eq_getElem il
      obtain ⟨t, t1, t2⟩ := m5 i rows[i] er
      rw [hx] at t1
      cases t1
      obtain ⟨rl, rk⟩ := W.rw _ (List.mem_of_getElem? er)
      have est : ∀ j, stepM rows i j = rows[i].getD j none := fun j => by
        unfold stepM
        rw [List.getD_eq_getElem?_getD (l := rows), er]
        rfl
      generalize rows[i] = r at t2 rl rk est
      refine ⟨by show 1 ≤ 2 ^ 24; decide, fun t3 nt3 => ?_⟩
      have w1 := same_new nt3 (.lst [V.int 0])
      have gt3 : upd G t3 (.lst [V.int 0]) t3 = _ := upd_same
      generalize upd G t3 (.lst [V.int 0]) = Ga at w1 gt3
      refine ⟨_, rfl, p, _, 1, .ref pr, rfl, rfl, .inl (.inl (w1 _ _ (sG _ _ m1))), rfl, pr, rvs, rfl, .inr (.inl (.inl (w1 _ _ (sG _ _ m2)))), t3, (n : Int), _, rfl, by rw [rn], gt3, by omega, by omega, by rw [Int.toNat_natCast]; show 1 * n ≤ 2 ^ 24; omega, fun Lf nLf => ?_⟩
      rw [Int.toNat_natCast, rep_flat]
      have w2 := same_new nLf (.lst (List.replicate n (V.int 0)))
      have e0 : List.replicate n (V.int 0) = vl n fun g => sg 0 fun j => if stepM rows i j = some g then sj bs j else 0 := by
        unfold vl
        refine List.ext_getElem? fun q => ?_
        rw [List.getElem?_map, List.getElem?_replicate]
        by_cases hq : q < n
        · rw [if_pos hq, List.getElem?_range hq]; rfl
        · rw [if_neg hq, List.getElem?_eq_none (by simpa using hq)]; rfl
      rw [e0]
      have gLf : upd Ga Lf (.lst (vl n fun g => sg 0 fun j => if stepM rows i j = some g then sj bs j else 0)) Lf = some (.lst (vl n fun g => sg 0 fun j => if stepM rows i j = some g then sj bs j else 0)) := upd_same
      rw [e0] at w2
      have nGLf : G Lf = none := none_back w1 nLf
      generalize upd Ga Lf (.lst (vl n fun g => sg 0 fun j => if stepM rows i j = some g then sj bs j else 0)) = Gb at w2 gLf
      have sGb := w1.trans w2
      dsimp only [gName]
      have gtb := sGb _ _ (sG _ _ t2)
      have gVb := sGb _ _ (sG _ _ gV)
      have gwb := sGb _ _ gw
      have nwf : Lw ≠ Lf := fun z => by rw [z, nGLf] at gw; cases gw
      have nvf : V0 ≠ Lf := fun z => by rw [z] at gV; rw [sG _ _ gV] at nGLf; cases nGLf
      have ntf : t ≠ Lf := fun z => by rw [z] at t2; rw [sG _ _ t2] at nGLf; cases nGLf
      have mn : min (r.map oV).length ((bs.map sgV).map V.int).length = bs.length := by rw [List.length_map, List.length_map, List.length_map, rl]; exact Nat.min_self _
      refine seq_cut (t := tFor _ _ _) (fun σ G' => ∃ (k6 k7 : Option V), σ = [some (.ref p), some (.ref V0), some (.int L), some (.ref Lw), some (.ref t), some (.ref Lf), k6, k7, none, none, none, none, none] ∧ (∀ b u, Gb b = some u → b ≠ Lf → G' b = some u) ∧ G' Lf = some (.lst (vl n fun g => sg bs.length fun j => if stepM rows i j = some g then sj bs j else 0))) ?_ ?_
      · intro Q2 hq2
        refine ⟨_, rfl, _, rfl, .ref t, .ref V0, .tup, .lst, r.map oV, (bs.map sgV).map V.int, rfl, ⟨_, rfl, .inl (.inl gtb)⟩, ⟨_, rfl, .inl (.inl gVb)⟩, for_it walk2q (fun j σ G' => ∃ (k6 k7 : Option V), σ = [some (.ref p), some (.ref V0), some (.int L), some (.ref Lw), some (.ref t), some (.ref Lf), k6, k7, none, none, none, none, none] ∧ (∀ b u, Gb b = some u → b ≠ Lf → G' b = some u) ∧ G' Lf = some (.lst (vl n fun g => sg j fun j => if stepM rows i j = some g then sj bs j else 0)))
          ⟨_, _, rfl, fun b u h _ => h, gLf⟩ ?_ ?_ ?_⟩
        · rintro j σ G' _ ⟨k6, k7, rfl, bG, gL⟩
          exact ⟨⟨_, rfl, .inl (.inl (bG _ _ gtb ntf))⟩, ⟨_, rfl, .inl (.inl (bG _ _ gVb nvf))⟩⟩
        · rintro j x σ G' G2 jl ⟨k6, k7, rfl, bG, gL⟩ ⟨Tt, rr, rfl, nT, rfl, erow⟩
          rw [mn] at jl
          obtain ⟨x1, y1, h1, h2, rfl⟩ := row2_of erow
          rw [List.getElem?_map, List.getElem?_eq_getElem (by rw [rl]; exact jl)] at h1
          rw [List.getElem?_map, sj_at jl] at h2
          cases h1
          cases h2
          have ej : r[j]'(by rw [rl]; exact jl) = stepM rows i j := by rw [est j, List.getD_eq_getElem?_getD, List.getElem?_eq_getElem (by rw [rl]; exact jl)]; rfl
          rw [ej]
          have w3 := same_new nT (.tup [oV (stepM rows i j), V.int (sj bs j)])
          have gLt : Tt ≠ Lf := fun z => by rw [z, gL] at nT; cases nT
          refine ⟨Tt, _, rfl, .inl (.inl upd_same), rfl, _, _, rfl, _, _, rfl, rfl, ?_⟩
          have gL3 := w3 _ _ gL
          have bG3 : ∀ b u, Gb b = some u → b ≠ Lf → upd G' Tt (.tup [oV (stepM rows i j), V.int (sj bs j)]) b = some u := fun b u h n => w3 _ _ (bG b u h n)
          generalize upd G' Tt (.tup [oV (stepM rows i j), V.int (sj bs j)]) = G3 at gL3 bG3
          refine ⟨_, rfl, _, rfl, ite2 (fun c => ?_) (fun c => ?_)⟩
          · cases eo : stepM rows i j with
            | none => rw [eo] at c; exact absurd c (by decide)
            | some k =>
              have kn : k < n := rk k (by rw [← eo, ← ej]; exact List.getElem_mem _)
              refine ⟨_, rfl, _, rfl, Lf, _, k, _, rfl, rfl, gL3, vl_at _ kn, _, rfl, _, _, rfl, rfl, Lf, _, (k : Int), k, rfl, rfl, gL3, ?_, _, _, rfl, fun b u h n => by rw [upd_ne n]; exact bG3 b u h n, ?_⟩
              · unfold ixN
                rw [vl_len, if_pos (by omega), if_pos (by omega), Int.toNat_natCast]
              · rw [upd_same, vl_set]
                congr 2
                refine vl_congr fun g hg => ?_
                rw [sg_succ]
                by_cases e : g = k
                · subst e
                  rw [if_pos rfl, if_pos eo]
                · rw [if_neg e, if_neg (fun z => e (by rw [eo] at z; exact (Option.some.inj z).symm)), Int.add_zero]
          · cases eo : stepM rows i j with
            | some k => rw [eo] at c; exact absurd rfl c
            | none =>
              refine ⟨_, _, rfl, bG3, ?_⟩
              rw [gL3]
              congr 2
              refine vl_congr fun g hg => ?_
              rw [sg_succ, if_neg (fun z => by rw [eo] at z; cases z), Int.add_zero]
        · rintro σ G' ⟨k6, k7, rfl, bG, gL⟩
          rw [mn] at gL
          exact hq2 _ _ ⟨k6, k7, rfl, bG, gL⟩
      rintro σ Gc ⟨k6, k7, rfl, bG, gL⟩
      have gwc := bG _ _ gwb nwf
      refine ⟨_, rfl, .inl ⟨rfl, _, .inl (.inl gwc)⟩, _, rfl, Lw, _, _, rfl, rfl, gwc, by rw [List.length_map, MA.1]; show i < 2 ^ 24; omega, ?_⟩
      have sHc : Same H Gc := fun b u h => by
        have h2 := sG _ _ h
        exact bG b u (sGb _ _ h2) (fun z => by rw [z, nGLf] at h2; cases h2)
      have MAc : MatAt Gc us i n (way bs.length rows bs) := ⟨MA.1, fun q hq => by
        obtain ⟨u, a, g⟩ := MA.2 q hq
        exact ⟨u, a, bG u _ (sGb _ _ g) (fun z => by rw [z, nGLf] at g; cases g)⟩⟩
      refine ⟨_, _, _, _, us ++ [Lf], rfl, same_grow nLw sHc _, by rw [upd_same, List.map_append]; rfl, fun u hu => ?_, ?_⟩
      · rcases List.mem_append.mp hu with h | h
        · exact un u h
        · rw [List.mem_singleton.mp h]
          exact fun z => nwf z.symm
      · refine MatAt.snoc (MatAt.but MAc (fun b u h n => by rw [upd_ne n]; exact h) un) ?_
        rw [upd_ne (fun z => nwf z.symm)]
        exact gL
    · rintro σ G ⟨k4, k5, k6, k7, us, rfl, sG, gw, un, MA⟩
      rw [rn] at MA
      exact hq _ _ ⟨k4, k5, k6, k7, us, rfl, sG, gw, MA⟩
  rintro σ G1 ⟨k4, k5, k6, k7, us, rfl, s1, gw, MA⟩
  refine seq_cut (t := tAsg _ _) (fun σ G => ∃ Ls : Addr, σ = [some (.ref p), some (.ref V0), some (.int L), some (.ref Lw), k4, k5, k6, k7, some (.ref Ls), none, none, none, none] ∧ Same G1 G ∧ G Ls = some (.lst (vl n fun s => if ends.getD s false then 1 else 0))) ?_ ?_
  · intro Q' hq
    have el := W.el
    refine ⟨_, rfl, p, _, 2, .ref pe, rfl, rfl, .inl (.inl (s1 _ _ m1)), rfl, pe, rfl, ⟨_, .inl (.inl (s1 _ _ m3))⟩, fun LE nLE => lc_tup (K := K) (a := pe) (xs := ends.map V.bl) (fun i G' => Same G1 G' ∧ G' LE = some (.lst (vl i fun s => if ends.getD s false then 1 else 0))) ⟨same_new nLE _, upd_same⟩ (fun i G' _ h => .inl (.inl (h.1 _ _ (s1 _ _ m3)))) ?_ ?_⟩
    · rintro i x G' hx ⟨sG, gL⟩
      rw [List.getElem?_map] at hx
      obtain ⟨b, eb, rfl⟩ := Option.map_eq_some_iff.mp hx
      have il : i < ends.length := (List.getElem?_eq_some_iff.mp eb).1
      refine ⟨rfl, _, rfl, .inr ⟨b, rfl, _, gL, by rw [vl_len]; show i < 2 ^ 24; omega, same_grow nLE sG _, ?_⟩⟩
      rw [upd_same, vl_snoc, List.getD_eq_getElem?_getD, eb]
      rfl
    · rintro G' ⟨sG, gL⟩
      rw [List.length_map, el] at gL
      exact hq _ _ ⟨LE, rfl, sG, gL⟩
  rintro σ G2 ⟨Ls, rfl, s2, gs⟩
  have MA2 := MA.same s2
  have gw2 := s2 _ _ gw
  have sH2 := s1.trans s2
  have hcnt : ∀ k, cnt bs.length rows ends bs k 0 = itv n (way bs.length rows bs) k (fun s => if ends.getD s false then 1 else 0) 0 := fun k => cnt_way W k 0 wn1
  refine seq_cut (t := tWhile _ _) (fun σ G => ∃ (Ls : Addr) (k2 k3 k4 k9 k10 k11 k12 : Option V) (vf : Nat → Int), σ = [some (.ref p), some (.ref V0), k2, k3, k4, k5, k6, k7, some (.ref Ls), k9, k10, k11, k12] ∧ Same G2 G ∧ G Ls = some (.lst (vl n vf)) ∧ vf 0 = cnt bs.length rows ends bs L 0) ?_ ?_
  · intro Q' hq
    refine while_m (fun m σ G => ∃ (Lw Ls : Addr) (us : List Addr) (Wf : Nat → Nat → Int) (vf : Nat → Int) (k4 k10 : Option V), σ = [some (.ref p), some (.ref V0), some (.int m), some (.ref Lw), k4, k5, k6, k7, some (.ref Ls), none, k10, none, none] ∧ Same G2 G ∧ G Lw = some (.lst (us.map V.ref)) ∧ MatAt G us n n Wf ∧ G Ls = some (.lst (vl n vf)) ∧
        (m ≠ 0 → ∃ e A B, 2 ^ e * m ≤ L ∧ A + 4 = 7 * 2 ^ e ∧ B ≤ 7 * 2 ^ e ∧ 0 < A ∧ 0 < B ∧ (∀ i t, i < n → t < n → (Wf i t).natAbs < 2 ^ A) ∧ (∀ t, t < n → (vf t).natAbs < 2 ^ B)) ∧ itv n Wf m vf 0 = cnt bs.length rows ends bs L 0) L
      ⟨Lw, Ls, us, _, _, k4, none, rfl, Same.refl _, gw2, MA2, gs, fun _ => ⟨0, 3, 1, by omega, rfl, by decide, by decide, by decide, fun i t _ _ => ?_, fun t _ => ?_⟩, (hcnt L).symm⟩ ?_ ?_
    · have := way_abs bs.length rows bs i t
      show _ < 8
      omega
    · show (if ends.getD t false = true then (1 : Int) else 0).natAbs < 2
      split <;> decide
    · rintro m σ G ⟨Lw, Ls, us, Wf, vf, k4, k10, rfl, sG, gw, MA, gs, hbd, hit⟩
      refine ⟨_, rfl, _, rfl, ?_⟩
      cases em : ((m : Int) != 0) with
      | false =>
        have m0 : m = 0 := by
          have : ¬ ((m : Int) != 0) = true := by rw [em]; decide
          rw [bne_iff_ne] at this
          omega
        subst m0
        exact iteF (hq _ _ ⟨Ls, _, _, _, _, _, _, _, vf, rfl, sG, gs, hit⟩)
      | true =>
        have m0 : m ≠ 0 := by
          have := bne_iff_ne.mp em
          omega
        refine iteT ?_
        obtain ⟨e, A, B, hle, hA, hB, A0, B0, bW, bV⟩ := hbd m0
        have e2 : 2 ^ e ≤ 1000 := by
          have := Nat.le_mul_of_pos_right (2 ^ e) (Nat.pos_of_ne_zero m0)
          omega
        have each : ∀ (i : Nat) (x : V), (us.map V.ref)[i]? = some x → ∃ u : Addr, x = .ref u ∧ i < n ∧ G u = some (.lst (vl n (Wf i))) := fun i x hx => by
          have il : i < (us.map V.ref).length := (List.getElem?_eq_some_iff.mp hx).1
          rw [List.length_map, MA.1] at il
          obtain ⟨u, a, g⟩ := MA.2 i il
          rw [List.getElem?_map, a] at hx
          cases hx
          exact ⟨u, rfl, il, g⟩
        have lu : (us.map V.ref).length = n := by rw [List.length_map, MA.1]
        refine seq_cut (t := tIfS _ _ _) (fun σ G' => ∃ (Ls : Addr) (vf : Nat → Int), σ = [some (.ref p), some (.ref V0), some (.int m), some (.ref Lw), k4, k5, k6, k7, some (.ref Ls), none, k10, none, none] ∧ Same G G' ∧ G' Ls = some (.lst (vl n vf)) ∧ itv n Wf (2 * (m / 2)) vf 0 = cnt bs.length rows ends bs L 0 ∧ ∃ B, B ≤ 7 * 2 ^ (e + 1) ∧ 0 < B ∧ ∀ t, t < n → (vf t).natAbs < 2 ^ B) ?_ ?_
        · intro Q2 hq2
          refine ⟨_, rfl, _, _, rfl, rfl, _, rfl, ?_⟩
          rw [PyProof.Rows.bitAnd_m1]
          cases eo : (((m : Int) % 2) != 0) with
          | true =>
            have od : m % 2 = 1 := by
              have := bne_iff_ne.mp eo
              omega
            refine iteT ?_
            refine ⟨_, rfl, Lw, rfl, ⟨_, .inl (.inl gw)⟩, fun Ln nLn => lc_list (K := K) (a := Lw) (xs := us.map V.ref) (fun i G' => Same G G' ∧ G' Ln = some (.lst (vl i (mv n Wf vf)))) ⟨same_new nLn _, upd_same⟩ (fun i G' _ h => .inl (.inl (h.1 _ _ gw))) ?_ ?_⟩
            · rintro i x G' hx ⟨s', g'⟩
              obtain ⟨u, rfl, il, gu⟩ := each i x hx
              refine ⟨rfl, _, rfl, _, rfl, u, Ls, n, A, B, Wf i, vf, rfl, s' _ _ gu, s' _ _ gs, n1, fun t ht => bW i t il ht, bV, A0, B0, by omega, fun G4 s4 => ?_⟩
              refine ⟨_, s4 _ _ g', by rw [vl_len]; show i < 2 ^ 24; omega, same_grow nLn (s'.trans s4) _, ?_⟩
              rw [upd_same, vl_snoc]
              rfl
            · rintro G' ⟨s', g'⟩
              rw [lu] at g'
              refine hq2 _ _ ⟨Ln, _, rfl, s', g', ?_, A + B + 4, ?_, by omega, fun t ht => two_bound n1 (fun q hq => bW t q ht hq) bV⟩
              · rw [← hit]
                have em2 : m = 2 * (m / 2) + 1 := by omega
                generalize m / 2 = h at em2
                subst em2
                rfl
              · rw [Nat.pow_succ]
                omega
          | false =>
            have od : m % 2 = 0 := by
              have : ¬ (((m : Int) % 2) != 0) = true := by rw [eo]; decide
              rw [bne_iff_ne] at this
              omega
            refine iteF (hq2 _ _ ⟨Ls, vf, rfl, Same.refl _, gs, ?_, B, ?_, B0, bV⟩)
            · rw [show 2 * (m / 2) = m by omega]
              exact hit
            · rw [Nat.pow_succ]
              omega
        rintro σ G4 ⟨Ls, vf, rfl, s4, gs, hit, B, hB, B0, bV⟩
        have MA4 := MA.same s4
        have gw4 := s4 _ _ gw
        refine ⟨_, rfl, _, _, rfl, rfl, (by decide : (0 : Int) ≤ 1), ?_⟩
        have eh : (m : Int) / 2 ^ (1 : Int).toNat = ((m / 2 : Nat) : Int) := by show (m : Int) / 2 = _; omega
        dsimp only
        rw [eh]
        refine ⟨_, rfl, _, rfl, ?_⟩
        cases ez : (((m / 2 : Nat) : Int) != 0) with
        | false =>
          have mz : m / 2 = 0 := by
            have : ¬ (((m / 2 : Nat) : Int) != 0) = true := by rw [ez]; decide
            rw [bne_iff_ne] at this
            omega
          refine iteF ⟨m / 2, by omega, Lw, Ls, us, Wf, vf, k4, k10, rfl, sG.trans s4, gw4, MA4, gs, fun z => absurd mz z, ?_⟩
          rw [mz] at hit ⊢
          exact hit
        | true =>
          refine iteT ?_
          have each4 : ∀ (i : Nat) (x : V), (us.map V.ref)[i]? = some x → ∃ u : Addr, x = .ref u ∧ i < n ∧ G4 u = some (.lst (vl n (Wf i))) := fun i x hx => let ⟨u, a, b, g⟩ := each i x hx; ⟨u, a, b, s4 _ _ g⟩
          refine seq_cut (t := tAsg _ _) (fun σ G' => ∃ (Lc : Addr) (cs : List Addr), σ = [some (.ref p), some (.ref V0), some (.int ((m / 2 : Nat) : Int)), some (.ref Lw), k4, k5, k6, k7, some (.ref Ls), none, some (.ref Lc), none, none] ∧ Same G4 G' ∧ G' Lc = some (.lst (cs.map V.ref)) ∧ MatAt G' cs n n (fun k s => Wf s k)) ?_ ?_
          · intro Q2 hq2
            refine ⟨_, rfl, Lw, _, rfl, .inl (.inl (.inl gw4)), (n : Int), by rw [lu], by omega, by omega, fun Lc nLc => lc_range (lo := 0) (n := n) (fun k G' => Same G4 G' ∧ ∃ cs : List Addr, G' Lc = some (.lst (cs.map V.ref)) ∧ (∀ u ∈ cs, u ≠ Lc) ∧ MatAt G' cs k n (fun k s => Wf s k)) ⟨same_new nLc _, [], upd_same, (fun u h => nomatch h), rfl, fun s h => absurd h (Nat.not_lt_zero _)⟩ ?_ ?_⟩
            · rintro k G' hk ⟨s', cs, gc, un, MC⟩
              refine ⟨rfl, _, rfl, Lw, rfl, ⟨_, .inl (.inl (s' _ _ gw4))⟩, fun Lr nLr => lc_list (K := K) (a := Lw) (xs := us.map V.ref) (fun i G5 => Same G' G5 ∧ G5 Lr = some (.lst (vl i fun s => Wf s k))) ⟨same_new nLr _, upd_same⟩ (fun i G5 _ h => .inl (.inl (h.1 _ _ (s' _ _ gw4)))) ?_ ?_⟩
              · rintro i x G5 hx ⟨s5, g5⟩
                obtain ⟨u, rfl, il, gu⟩ := each4 i x hx
                refine ⟨rfl, _, rfl, _, rfl, u, vl n (Wf i), (0 : Int) + (k : Int), .int (Wf i k), rfl, rfl, .inl (.inl (s5 _ _ (s' _ _ gu))), by rw [Int.zero_add]; exact atI_nat (vl_at _ hk), _, g5, by rw [vl_len]; show i < 2 ^ 24; omega, same_grow nLr s5 _, ?_⟩
                rw [upd_same, vl_snoc]
              · rintro G5 ⟨s5, g5⟩
                rw [lu] at g5
                have ncr : Lc ≠ Lr := fun z => by rw [z] at gc; rw [gc] at nLr; cases nLr
                refine ⟨_, s5 _ _ gc, by rw [List.length_map, MC.1]; show k < 2 ^ 24; omega, same_grow nLc (s'.trans s5) _, cs ++ [Lr], by rw [upd_same, List.map_append]; rfl, fun u hu => ?_, ?_⟩
                · rcases List.mem_append.mp hu with h | h
                  · exact un u h
                  · rw [List.mem_singleton.mp h]
                    exact fun z => ncr z.symm
                · refine MatAt.snoc (MatAt.but (MC.same s5) (fun b u h n => by rw [upd_ne n]; exact h) un) ?_
                  rw [upd_ne (fun z => ncr z.symm)]
                  exact g5
            · rintro G' ⟨s', cs, gc, un, MC⟩
              exact hq2 _ _ ⟨Lc, cs, rfl, s', gc, MC⟩
          rintro σ G5 ⟨Lc, cs, rfl, s5, gc, MC⟩
          have lcs : (cs.map V.ref).length = n := by rw [List.length_map, MC.1]
          have gw5 := s5 _ _ gw4
          have eachc : ∀ (i : Nat) (x : V), (cs.map V.ref)[i]? = some x → ∃ u : Addr, x = .ref u ∧ i < n ∧ G5 u = some (.lst (vl n fun s => Wf s i)) := fun i x hx => by
            have il : i < (cs.map V.ref).length := (List.getElem?_eq_some_iff.mp hx).1
            rw [lcs] at il
            obtain ⟨u, a, g⟩ := MC.2 i il
            rw [List.getElem?_map, a] at hx
            cases hx
            exact ⟨u, rfl, il, g⟩
          refine ⟨_, rfl, Lw, rfl, ⟨_, .inl (.inl gw5)⟩, fun Ln nLn => lc_list (K := K) (a := Lw) (xs := us.map V.ref) (fun i G' => Same G5 G' ∧ ∃ ns : List Addr, G' Ln = some (.lst (ns.map V.ref)) ∧ (∀ u ∈ ns, u ≠ Ln) ∧ MatAt G' ns i n (mm n Wf)) ⟨same_new nLn _, [], upd_same, (fun u h => nomatch h), rfl, fun s h => absurd h (Nat.not_lt_zero _)⟩ (fun i G' _ h => .inl (.inl (h.1 _ _ gw5))) ?_ ?_⟩
          · rintro i x G' hx ⟨s', ns, gn, un, MN⟩
            obtain ⟨u, rfl, il, gu⟩ := each4 i x hx
            have gu5 := s' _ _ (s5 _ _ gu)
            refine ⟨rfl, _, rfl, Lc, rfl, ⟨_, .inl (.inl (s' _ _ gc))⟩, fun Lr nLr => lc_list (K := K) (a := Lc) (xs := cs.map V.ref) (fun k G6 => Same G' G6 ∧ G6 Lr = some (.lst (vl k (mm n Wf i)))) ⟨same_new nLr _, upd_same⟩ (fun k G6 _ h => .inl (.inl (h.1 _ _ (s' _ _ gc)))) ?_ ?_⟩
            · rintro k x G6 hx ⟨s6, g6⟩
              obtain ⟨v, rfl, kl, gv⟩ := eachc k x hx
              refine ⟨rfl, _, rfl, _, rfl, u, v, n, A, A, Wf i, fun s => Wf s k, rfl, s6 _ _ gu5, s6 _ _ (s' _ _ gv), n1, fun t ht => bW i t il ht, fun t ht => bW t k ht kl, A0, A0, by omega, fun G7 s7 => ?_⟩
              refine ⟨_, s7 _ _ g6, by rw [vl_len]; show k < 2 ^ 24; omega, same_grow nLr (s6.trans s7) _, ?_⟩
              rw [upd_same, vl_snoc]
              rfl
            · rintro G6 ⟨s6, g6⟩
              rw [lcs] at g6
              have ncr : Ln ≠ Lr := fun z => by rw [z] at gn; rw [gn] at nLr; cases nLr
              refine ⟨_, s6 _ _ gn, by rw [List.length_map, MN.1]; show i < 2 ^ 24; omega, same_grow nLn (s'.trans s6) _, ns ++ [Lr], by rw [upd_same, List.map_append]; rfl, fun u hu => ?_, ?_⟩
              · rcases List.mem_append.mp hu with h | h
                · exact un u h
                · rw [List.mem_singleton.mp h]
                  exact fun z => ncr z.symm
              · refine MatAt.snoc (MatAt.but (MN.same s6) (fun b u h n => by rw [upd_ne n]; exact h) un) ?_
                rw [upd_ne (fun z => ncr z.symm)]
                exact g6
          · rintro G' ⟨s', ns, gn, un, MN⟩
            rw [lu] at MN
            have s5' := s5.trans s'
            refine ⟨m / 2, by omega, Ln, Ls, ns, mm n Wf, vf, k4, some (.ref Lc), rfl, sG.trans (s4.trans s5'), gn, MN, s5' _ _ gs, fun _ => ⟨e + 1, 2 * A + 4, B, ?_, ?_, hB, by omega, B0, fun i t hi ht => ?_, bV⟩, ?_⟩
            · rw [Nat.pow_succ, Nat.mul_assoc]
              exact Nat.le_trans (Nat.mul_le_mul_left _ (by omega)) hle
            · rw [Nat.pow_succ]
              omega
            · have h := two_bound (a := A) (b := A) n1 (fun q hq => bW i q hi hq) (fun q hq => bW q t hq ht)
              rw [show 2 * A + 4 = A + A + 4 by omega]
              exact h
            · rw [itv_mm n Wf (m / 2) vf 0 wn1]
              exact hit
    · rintro σ G Q1 Q2 hQ ⟨v, e1, k, e2, h⟩
      exact ⟨v, e1, k, e2, hQ _ _ h⟩
  rintro σ G3 ⟨Ls, k2, k3, k4, k9, k10, k11, k12, vf, rfl, s3, gs3, hv⟩
  refine ⟨_, rfl, Ls, _, 0, _, rfl, rfl, .inl (.inl gs3), atI_nat (j := 0) (vl_at vf wn1), ?_⟩
  rw [hv]
  exact q _ (sH2.trans s3)
end
end S25
/-! Sets of numbers as bits: and, or, exclusive or, the lowest one. No row. -/
namespace KB
open PySem
theorem and_nn (a b : Nat) : Builtin.bitAnd (a : Int) (b : Int) = ((a &&& b : Nat) : Int) := by
  unfold Builtin.bitAnd
  rw [decide_eq_true (Int.natCast_nonneg a), decide_eq_true (Int.natCast_nonneg b)]
  rfl
theorem not_n (a : Nat) : Builtin.bitNot (a : Int) = -(a : Int) - 1 := by
  unfold Builtin.bitNot
  omega
theorem or_nn (a b : Nat) : Builtin.bitOr (a : Int) (b : Int) = ((a ||| b : Nat) : Int) := by
  unfold Builtin.bitOr
  have h1 : ¬ (0 : Int) ≤ Builtin.bitNot (a : Int) := by rw [not_n]; omega
  have h2 : ¬ (0 : Int) ≤ Builtin.bitNot (b : Int) := by rw [not_n]; omega
  have e : ∀ x : Int, Builtin.bitNot (Builtin.bitNot x) = x := fun x => by unfold Builtin.bitNot; omega
  unfold Builtin.bitAnd
  rw [decide_eq_false h1, decide_eq_false h2]
  show Builtin.bitNot (Builtin.bitNot _) = _
  rw [e, e, e]
  rfl
theorem andnot_nn (a b : Nat) : Builtin.bitAnd (a : Int) (Builtin.bitNot (b : Int)) = ((a - (a &&& b) : Nat) : Int) := by
  have h2 : ¬ (0 : Int) ≤ Builtin.bitNot (b : Int) := by rw [not_n]; omega
  have e : ∀ x : Int, Builtin.bitNot (Builtin.bitNot x) = x := fun x => by unfold Builtin.bitNot; omega
  unfold Builtin.bitAnd
  rw [decide_eq_true (Int.natCast_nonneg a), decide_eq_false h2]
  show (a : Int) - (((a : Int).toNat &&& (Builtin.bitNot (Builtin.bitNot (b : Int))).toNat : Nat) : Int) = _
  rw [e]
  show (a : Int) - ((a &&& b : Nat) : Int) = _
  have : a &&& b ≤ a := Nat.and_le_left
  omega
theorem sub_bits : ∀ a c : Nat, (∀ i, c.testBit i = true → a.testBit i = true) → ∃ d, a = d + c ∧ ∀ i, d.testBit i = (a.testBit i && !c.testBit i) := by
  intro a
  induction a using Nat.strongRecOn with
  | _ a ih =>
  intro c h
  by_cases z : a = 0
  · subst z
    have c0 : c = 0 := by
      refine Classical.byContradiction fun n => ?_
      obtain ⟨i, hi⟩ := Nat.exists_testBit_of_ne_zero n
      have := h i hi
      rw [Nat.zero_testBit] at this
      cases this
    subst c0
    exact ⟨0, rfl, fun i => by rw [Nat.zero_testBit]; rfl⟩
  · obtain ⟨d, e, hd⟩ := ih (a / 2) (Nat.div_lt_self (Nat.pos_of_ne_zero z) (by decide)) (c / 2) (fun i hi => by
      rw [← Nat.testBit_succ] at hi ⊢
      exact h _ hi)
    have h0 := h 0
    rw [Nat.testBit_zero, Nat.testBit_zero] at h0
    have h1 : c % 2 = 1 → a % 2 = 1 := fun q => of_decide_eq_true (h0 (decide_eq_true q))
    have a2 := Nat.div_add_mod a 2
    have c2 := Nat.div_add_mod c 2
    have am := Nat.mod_lt a (show 0 < 2 by decide)
    have cm := Nat.mod_lt c (show 0 < 2 by decide)
    refine ⟨2 * d + (a % 2 - c % 2), by omega, fun i => ?_⟩
    cases i with
    | zero =>
      rw [Nat.testBit_zero, Nat.testBit_zero, Nat.testBit_zero]
      have q : (2 * d + (a % 2 - c % 2)) % 2 = a % 2 - c % 2 := by omega
      rw [q]
      by_cases x : c % 2 = 1
      · have y := h1 x
        rw [x, y]; rfl
      · have x' : c % 2 = 0 := by omega
        rw [x']
        by_cases y : a % 2 = 1
        · rw [y]; rfl
        · have y' : a % 2 = 0 := by omega
          rw [y']; rfl
    | succ i =>
      rw [Nat.testBit_succ, Nat.testBit_succ, Nat.testBit_succ]
      have q : (2 * d + (a % 2 - c % 2)) / 2 = d := by omega
      rw [q]
      exact hd i
theorem diff_bit (a b i : Nat) : (a - (a &&& b)).testBit i = (a.testBit i && !b.testBit i) := by
  obtain ⟨d, e, hd⟩ := sub_bits a (a &&& b) (fun i h => by
    rw [Nat.testBit_and, Bool.and_eq_true] at h
    exact h.1)
  have : a - (a &&& b) = d := by omega
  rw [this, hd, Nat.testBit_and]
  cases a.testBit i <;> cases b.testBit i <;> rfl
/-- one bit taken off -/
theorem off_bit {s k : Nat} (h : s.testBit k = true) (i : Nat) : (s - 2 ^ k).testBit i = (s.testBit i && !decide (k = i)) ∧ 2 ^ k ≤ s := by
  obtain ⟨d, e, hd⟩ := sub_bits s (2 ^ k) (fun i hi => by
    rw [Nat.testBit_two_pow] at hi
    rw [← of_decide_eq_true hi]
    exact h)
  have q : s - 2 ^ k = d := by omega
  exact ⟨by rw [q, hd, Nat.testBit_two_pow], by omega⟩
theorem low_form : ∀ s : Nat, 0 < s → ∃ k q, s = 2 ^ (k + 1) * q + 2 ^ k := by
  intro s
  induction s using Nat.strongRecOn with
  | _ s ih =>
  intro h
  by_cases o : s % 2 = 1
  · exact ⟨0, s / 2, by omega⟩
  · obtain ⟨k, q, e⟩ := ih (s / 2) (by omega) (by omega)
    refine ⟨k + 1, q, ?_⟩
    have e2 : s = 2 * (s / 2) := by omega
    rw [e2, e, Nat.pow_succ 2 (k + 1), Nat.pow_succ 2 k]
    rw [Nat.mul_add, ← Nat.mul_assoc, Nat.mul_comm 2 (2 ^ k * 2), Nat.mul_comm 2 (2 ^ k)]
theorem neg_n (s : Nat) (h : 0 < s) : -(s : Int) = Builtin.bitNot ((s - 1 : Nat) : Int) := by
  rw [not_n]
  omega
/-- s and -s: the lowest bit -/
theorem low_bit (s : Nat) (h : 0 < s) : ∃ k, Builtin.bitAnd (s : Int) (-(s : Int)) = ((2 ^ k : Nat) : Int) ∧ s.testBit k = true ∧ ∀ i, i < k → s.testBit i = false := by
  obtain ⟨k, q, e⟩ := low_form s h
  have lt1 : 2 ^ k < 2 ^ (k + 1) := Nat.pow_lt_pow_right (by decide) (Nat.lt_succ_self k)
  have pos : 0 < 2 ^ k := Nat.pow_pos (by decide)
  have b1 : ∀ i, s.testBit i = if i < k + 1 then decide (k = i) else q.testBit (i - (k + 1)) := fun i => by
    rw [e, Nat.testBit_two_pow_mul_add q lt1, Nat.testBit_two_pow]
  have e1 : s - 1 = 2 ^ (k + 1) * q + (2 ^ k - 1) := by omega
  have b2 : ∀ i, (s - 1).testBit i = if i < k + 1 then decide (i < k) else q.testBit (i - (k + 1)) := fun i => by
    rw [e1, Nat.testBit_two_pow_mul_add q (by omega), Nat.testBit_two_pow_sub_one]
  refine ⟨k, ?_, ?_, fun i hi => ?_⟩
  · rw [neg_n s h, andnot_nn]
    have key : s - (s &&& (s - 1)) = 2 ^ k := by
      refine Nat.eq_of_testBit_eq fun i => ?_
      rw [diff_bit, b1, b2, Nat.testBit_two_pow]
      by_cases c : i < k + 1
      · rw [if_pos c, if_pos c]
        by_cases c2 : k = i
        · rw [decide_eq_true c2, decide_eq_false (by omega)]; rfl
        · rw [decide_eq_false c2]; rfl
      · rw [if_neg c, if_neg c, decide_eq_false (show ¬ k = i by omega)]
        cases q.testBit (i - (k + 1)) <;> rfl
    rw [key]
  · rw [b1, if_pos (Nat.lt_succ_self k), decide_eq_true rfl]
  · rw [b1, if_pos (by omega), decide_eq_false (by omega)]
theorem xor_off {s k : Nat} (h : s.testBit k = true) : Builtin.bitXor (s : Int) ((2 ^ k : Nat) : Int) = ((s - 2 ^ k : Nat) : Int) := by
  have le := (off_bit h k).2
  have e : s &&& 2 ^ k = 2 ^ k := by
    refine Nat.eq_of_testBit_eq fun i => ?_
    rw [Nat.testBit_and, Nat.testBit_two_pow]
    by_cases c : k = i
    · rw [← c, h, decide_eq_true rfl]; rfl
    · rw [decide_eq_false c, Bool.and_false]
  rw [PyProof.Rows.bitXor_and, and_nn, e]
  omega
theorem bits_pow (k : Nat) : Builtin.Int.intBits ((2 ^ k : Nat) : Int) = k + 1 := by
  unfold Builtin.Int.intBits
  have pos : 0 < 2 ^ k := Nat.pow_pos (by decide)
  have ne : (((2 ^ k : Nat) : Int) == 0) = false := by
    rw [beq_eq_false_iff_ne]
    omega
  rw [ne]
  show ((2 ^ k : Nat) : Int).natAbs.log2 + 1 = _
  rw [Int.natAbs_natCast, Nat.log2_two_pow]
end KB
/-! Sets of states by the places of words: which states the beginnings of words of one length come to. No row. -/
namespace KM
open PySem PySem.Spec PyProof.Rows L2 GL KC KW
/-- some text of so many letters leads to the state -/
def Fwd (rows : Rows) (p s : Nat) : Prop := ∃ u : List Nat, u.length = p ∧ run rows 0 u = some s
/-- some text of so many letters leads from the state to an end -/
def Bck (rows : Rows) (ends : List Bool) (q s : Nat) : Prop := ∃ v : List Nat, v.length = q ∧ okF rows ends s v = true
theorem fwd_zero (rows : Rows) (s : Nat) : Fwd rows 0 s ↔ s = 0 := by
  constructor
  · rintro ⟨u, hu, h⟩
    rw [List.length_eq_zero_iff.mp hu] at h
    exact (Option.some.inj h).symm
  · rintro rfl
    exact ⟨[], rfl, rfl⟩
theorem run_one (rows : Rows) (s j : Nat) : run rows s [j] = stepM rows s j := by
  show (match stepM rows s j with | none => none | some t => run rows t []) = _
  cases stepM rows s j <;> rfl
theorem fwd_succ (rows : Rows) (p t : Nat) : Fwd rows (p + 1) t ↔ ∃ s j, Fwd rows p s ∧ stepM rows s j = some t := by
  constructor
  · rintro ⟨u, hu, h⟩
    have ne : u ≠ [] := fun e => by rw [e] at hu; exact absurd hu (by simp)
    have e := List.dropLast_concat_getLast ne
    rw [← e, run_append] at h
    cases q : run rows 0 u.dropLast with
    | none => rw [q] at h; exact absurd h (by simp)
    | some s =>
      rw [q] at h
      refine ⟨s, u.getLast ne, ⟨u.dropLast, by rw [List.length_dropLast, hu]; rfl, q⟩, ?_⟩
      rw [← run_one]
      exact h
  · rintro ⟨s, j, ⟨u, hu, h⟩, e⟩
    refine ⟨u ++ [j], by rw [List.length_append, hu]; rfl, ?_⟩
    rw [run_append, h]
    show run rows s [j] = some t
    rw [run_one, e]
theorem bck_zero (rows : Rows) (ends : List Bool) (s : Nat) : Bck rows ends 0 s ↔ ends.getD s false = true := by
  constructor
  · rintro ⟨v, hv, h⟩
    rw [List.length_eq_zero_iff.mp hv] at h
    exact h
  · intro h
    exact ⟨[], rfl, h⟩
theorem bck_succ (rows : Rows) (ends : List Bool) (q s : Nat) : Bck rows ends (q + 1) s ↔ ∃ j t, stepM rows s j = some t ∧ Bck rows ends q t := by
  constructor
  · rintro ⟨v, hv, h⟩
    match v, hv with
    | j :: v, hv =>
      rw [okF_cons] at h
      cases e : stepM rows s j with
      | none => rw [e] at h; exact absurd h Bool.false_ne_true
      | some t =>
        rw [e] at h
        exact ⟨j, t, e, v, by simpa using hv, h⟩
  · rintro ⟨j, t, e, v, hv, h⟩
    refine ⟨j :: v, by rw [List.length_cons, hv], ?_⟩
    rw [okF_cons, e]
    exact h
/-- the states that the first p letters of words of p + q letters lead to -/
def InL (rows : Rows) (ends : List Bool) (p q s : Nat) : Prop := Fwd rows p s ∧ Bck rows ends q s
theorem inl_zero (rows : Rows) (ends : List Bool) (p s : Nat) : InL rows ends p 0 s ↔ Fwd rows p s ∧ ends.getD s false = true := by
  unfold InL
  rw [bck_zero]
theorem inl_succ (rows : Rows) (ends : List Bool) (p q s : Nat) : InL rows ends p (q + 1) s ↔ Fwd rows p s ∧ ∃ j t, stepM rows s j = some t ∧ InL rows ends (p + 1) q t := by
  unfold InL
  rw [bck_succ]
  constructor
  · rintro ⟨h, j, t, e, b⟩
    exact ⟨h, j, t, e, (fwd_succ rows p t).mpr ⟨s, j, h, e⟩, b⟩
  · rintro ⟨h, j, t, e, _, b⟩
    exact ⟨h, j, t, e, b⟩
/-- the start stands in its layer just if there are words of this length -/
theorem inl_start (rows : Rows) (ends : List Bool) (q : Nat) : InL rows ends 0 q 0 ↔ ∃ v : List Nat, v.length = q ∧ isOf rows ends v = true := by
  unfold InL
  rw [fwd_zero]
  exact ⟨fun ⟨_, v, hv, h⟩ => ⟨v, hv, h⟩, fun ⟨v, hv, h⟩ => ⟨rfl, v, hv, h⟩⟩
/-- where no word leads on there is nothing to count -/
theorem cnt_none (l : Nat) (rows : Rows) (ends bs : List Bool) (q s : Nat) (h : ¬ Bck rows ends q s) : cnt l rows ends bs q s = 0 := by
  rw [cnt_texts]
  have z : ((texts l q).map fun w => if okF rows ends s w then sgn bs w else 0) = (texts l q).map fun _ => (0 : Int) := by
    refine List.map_congr_left fun u hu => ?_
    rw [if_neg]
    exact fun e => h ⟨u, (texts_ok l q u hu).1, e⟩
  rw [z, zero_sum]
/-- sums over the letters of what stands in the next layer are the counts -/
theorem cnt_layer (l : Nat) (rows : Rows) (ends bs : List Bool) (p q s : Nat) (f : Nat → Int) (hf : ∀ t, InL rows ends (p + 1) q t → f t = cnt l rows ends bs q t)
    (h0 : ∀ t, ¬ InL rows ends (p + 1) q t → f t = 0) (hs : Fwd rows p s) :
    ((List.range l).map fun j => match stepM rows s j with | none => (0 : Int) | some t => sj bs j * f t).sum = cnt l rows ends bs (q + 1) s := by
  show _ = ((List.range l).map _).sum
  congr 1
  refine List.map_congr_left fun j _ => ?_
  cases e : stepM rows s j with
  | none => rfl
  | some t =>
    show sj bs j * f t = sj bs j * cnt l rows ends bs q t
    by_cases c : InL rows ends (p + 1) q t
    · rw [hf t c]
    · rw [h0 t c, cnt_none l rows ends bs q t fun b => c ⟨(fwd_succ rows p t).mpr ⟨s, j, hs, e⟩, b⟩]
/-- a set of states, as the bits of a number -/
def Bits (x : Nat) (S : Nat → Prop) : Prop := ∀ s, x.testBit s = true ↔ S s
theorem Bits.zero {x : Nat} {S : Nat → Prop} (b : Bits x S) : x = 0 ↔ ∀ s, ¬ S s := by
  constructor
  · rintro rfl s h
    have := (b s).mpr h
    rw [Nat.zero_testBit] at this
    exact absurd this (by decide)
  · intro h
    refine Nat.eq_of_testBit_eq fun s => ?_
    rw [Nat.zero_testBit]
    cases e : x.testBit s with
    | false => rfl
    | true => exact absurd ((b s).mp e) (h s)
theorem Bits.one : Bits 1 fun s => s = 0 := fun s => by
  rw [Nat.testBit_one_eq_true_iff_self_eq_zero]
theorem Bits.and {x y : Nat} {S T : Nat → Prop} (a : Bits x S) (b : Bits y T) : Bits (x &&& y) fun s => S s ∧ T s := fun s => by
  rw [Nat.testBit_and, Bool.and_eq_true, a s, b s]
theorem Bits.or {x y : Nat} {S T : Nat → Prop} (a : Bits x S) (b : Bits y T) : Bits (x ||| y) fun s => S s ∨ T s := fun s => by
  rw [Nat.testBit_or, Bool.or_eq_true, a s, b s]
theorem Bits.lt {x n : Nat} {S : Nat → Prop} (b : Bits x S) (h : ∀ s, S s → s < n) : x < 2 ^ n := by
  refine Nat.lt_pow_two_of_testBit x fun i hi => ?_
  cases e : x.testBit i with
  | false => rfl
  | true => exact absurd (h i ((b i).mp e)) (by omega)
theorem Bits.congr {x : Nat} {S T : Nat → Prop} (b : Bits x S) (h : ∀ s, S s ↔ T s) : Bits x T := fun s => (b s).trans (h s)
end KM
namespace K25
open PySem L2 GL KC KB
abbrev sMembers : Stmt := top 4
abbrev sSetOf : Stmt := top 5
abbrev sTurned : Stmt := top 6
abbrev sLayers : Stmt := top 7
/-- the list of a set -/
def ListOf (s : Nat) (ms : List Nat) : Prop := ms.Pairwise (· < ·) ∧ ∀ i, i ∈ ms ↔ s.testBit i = true
theorem asc_len (B : Nat) : ∀ (ms : List Nat) (a : Nat), ms.Pairwise (· < ·) → (∀ i ∈ ms, a ≤ i ∧ i < B) → ms.length ≤ B - a
  | [], _, _, _ => Nat.zero_le _
  | x :: ms, a, h, hb => by
    obtain ⟨h1, h2⟩ := List.pairwise_cons.mp h
    have hx := hb x List.mem_cons_self
    have ih := asc_len B ms (x + 1) h2 fun i hi => ⟨h1 i hi, (hb i (List.mem_cons_of_mem _ hi)).2⟩
    rw [List.length_cons]
    omega
theorem bit_lt {n B i : Nat} (hn : n < 2 ^ B) (h : n.testBit i = true) : i < B := by
  refine Classical.byContradiction fun z => ?_
  have : n.testBit i = false := Nat.testBit_lt_two_pow (Nat.lt_of_lt_of_le hn (Nat.pow_le_pow_right (by decide) (by omega)))
  rw [this] at h
  cases h
def spMembers : Sp := fun vs H Q _ => ∃ s : Nat, vs = [.int s] ∧ s < 2 ^ 100000 ∧ ∀ L G ms, Same H G → ListOf s ms → G L = some (.lst (ms.map fun k : Nat => V.int (k : Int))) → Q (.ref L) G
section
variable {P : Program} {w : World} {K : PySem.W.Frag} {mg : Str → Option Value} {base : Heap}
theorem scMe : FnScope ["states", "found", "lowest"] ["states"] (defScope sMembers) := ⟨rfl, rfl, rfl, by decide +kernel, rfl, by decide +kernel, by decide +kernel⟩
theorem gname_i {i : Nat} {v : V} {σ : St} {H : Hp} {Q : St → Hp → Prop} (h : Q (σ.set i (some v)) H) : gName i v σ H Q := h
theorem seq_i {t u : TS} {D : Ends} {σ : St} {H : Hp} (h : t { D with nx := u D } σ H) : tSeq t u D σ H := h
theorem ok_members {f : Addr} {fd : FuncData} (F : Fun K "members" "members" sMembers f fd) : FnOk P w K mg base CX0 1 f fd ["states"] spMembers := by
  refine F.ok scMe (fun vs H Q E h => ?_) (fun cdv A outer s H vs Q E hr h => ?_)
  · obtain ⟨s, rfl, _⟩ := h
    rfl
  obtain ⟨n, rfl, hn, q⟩ := h
  refine ⟨_, pss_cons (ps_set (i := 1) scMe.nd rfl (Or.inl rfl) (pe_lst pa_nil))
    (pss_cons (ps_while PassesOwn.never (pt_truth (pv 0) (by intro _; rfl))
      (pss_cons (ps_set (i := 2) scMe.nd rfl (Or.inl rfl) (pe_op op_and (pv 0) (pe_un un_neg (pv 0))))
      (pss_cons (ps_expr (pe_bm PySem.F.plainAttrs_list PySem.F.slot_list_append PySem.F.type_list_append mt_append (pv 1) (pa_cons (pe_op op_sub (pe_bits (pv 2)) pe_int) pa_nil)))
      (pss_one (ps_aug (i := 0) scMe.nd rfl (Or.inl rfl) (pv 2) (fun pins s σ H x y v u Q I r1 r2 h => iop_xor pins s σ H x y v u Q I r1 r2 h))))))
    (pss_one (ps_ret (pv 1)))), ?_⟩
  refine ⟨by show 0 ≤ 2 ^ 24; decide, fun lf nlf => ?_⟩
  have s0 := same_new nlf (.lst ([] : List V))
  have g0 : upd H lf (.lst []) lf = some (.lst (([] : List Nat).map fun k : Nat => V.int (k : Int))) := upd_same
  generalize upd H lf (.lst []) = H0 at s0 g0
  dsimp only [gName]
  refine seq_i (t := tWhile _ _) (u := tRet _) ?_
  refine while_by (fun σ G => ∃ (r : Nat) (ms : List Nat) (k2 : Option V), σ = [some (.int r), some (.ref lf), k2] ∧ Same H G ∧ G lf = some (.lst (ms.map fun k : Nat => V.int (k : Int))) ∧ ms.Pairwise (· < ·) ∧
      (∀ i, n.testBit i = true ↔ i ∈ ms ∨ r.testBit i = true) ∧ (∀ i ∈ ms, ∀ j, r.testBit j = true → i < j)) (fun σ _ => match σ[0]? with | some (some (V.int i)) => i.toNat | _ => 0)
    ⟨n, [], none, rfl, s0, g0, List.Pairwise.nil, fun i => by simp, fun i h => nomatch h⟩ ?_ ?_
  · rintro σ G ⟨r, ms, k2, rfl, sG, gl, pw, bi, lo⟩
    refine ⟨_, rfl, _, rfl, ite2 (fun c => ?_) (fun c => ?_)⟩
    · have rp : 0 < r := by
        refine Nat.pos_of_ne_zero fun z => ?_
        subst z
        exact absurd c (by decide)
      obtain ⟨k, e1, e2, e3⟩ := low_bit r rp
      have ml : ms.length ≤ 100000 := asc_len 100000 ms 0 pw fun i hi => ⟨Nat.zero_le _, bit_lt hn ((bi i).mpr (.inl hi))⟩
      refine ⟨_, rfl, _, rfl, _, rfl, _, _, rfl, rfl, ?_⟩
      dsimp only [gName]
      rw [e1]
      refine ⟨_, rfl, .inl ⟨rfl, _, .inl (.inl gl)⟩, _, rfl, _, rfl, _, _, rfl, rfl, ?_⟩
      dsimp only
      rw [bits_pow k, show (((k + 1 : Nat)) : Int) - 1 = (k : Int) by omega]
      refine ⟨lf, _, _, rfl, rfl, gl, by rw [List.length_map]; show _ < 2 ^ 24; omega, ?_⟩
      refine ⟨_, rfl, _, rfl, _, _, rfl, rfl, ?_⟩
      dsimp only
      rw [xor_off e2]
      have ob := off_bit e2
      refine ⟨⟨r - 2 ^ k, ms ++ [k], _, rfl, same_grow nlf sG _, by rw [upd_same, List.map_append]; rfl, ?_, fun i => ?_, fun i hi j hj => ?_⟩, ?_⟩
      · rw [List.pairwise_append]
        refine ⟨pw, List.pairwise_singleton _ _, fun x hx y hy => ?_⟩
        rw [List.mem_singleton.mp hy]
        exact lo x hx k e2
      · rw [bi i, (ob i).1, List.mem_append, List.mem_singleton, Bool.and_eq_true]
        by_cases q : k = i
        · subst q
          simp [e2]
        · have q' : ¬ i = k := fun z => q z.symm
          simp [q, q']
      · rw [(ob j).1, Bool.and_eq_true] at hj
        have nj : ¬ k = j := by
          intro z
          rw [decide_eq_true z] at hj
          exact absurd hj.2 (by decide)
        rcases List.mem_append.mp hi with hi | hi
        · exact lo i hi j hj.1
        · rw [List.mem_singleton.mp hi]
          refine Classical.byContradiction fun z => ?_
          have := e3 j (by omega)
          rw [this] at hj
          exact absurd hj.1 (by decide)
      · show (((r - 2 ^ k : Nat) : Int)).toNat < ((r : Nat) : Int).toNat
        rw [Int.toNat_natCast, Int.toNat_natCast]
        have := (ob k).2
        have pos : 0 < 2 ^ k := Nat.pow_pos (by decide)
        omega
    · have rz : r = 0 := by
        refine Classical.byContradiction fun z => c ?_
        show ((r : Int) != 0) = true
        rw [bne_iff_ne]
        omega
      subst rz
      refine ⟨_, rfl, q lf G ms sG ⟨pw, fun i => ?_⟩ gl⟩
      rw [bi i, Nat.zero_testBit]
      simp
  · rintro σ G Q1 Q2 hq ⟨x, hx, k, hk, h⟩
    exact ⟨x, hx, k, hk, hq _ _ h⟩
end
end K25
namespace K25
open PySem L2 GL KC KB KM
/-- naturals as values -/
def nV (ms : List Nat) : List V := ms.map fun k : Nat => V.int (k : Int)
theorem nV_at {ms : List Nat} {i : Nat} {x : V} (h : (nV ms)[i]? = some x) : ∃ k : Nat, ms[i]? = some k ∧ x = .int (k : Int) := by
  unfold nV at h
  rw [List.getElem?_map] at h
  cases e : ms[i]? with
  | none => rw [e] at h; cases h
  | some k => rw [e] at h; exact ⟨k, rfl, (Option.some.inj h).symm⟩
theorem bits_add {x k : Nat} {S : Nat → Prop} (b : Bits x S) : Bits (x ||| 2 ^ k) fun s => S s ∨ s = k := fun s => by
  rw [Nat.testBit_or, Bool.or_eq_true, b s, Nat.testBit_two_pow]
  simp [eq_comm]
def spSetOf : Sp := fun vs H Q _ => ∃ (L : Addr) (ms : List Nat), vs = [.ref L] ∧ H L = some (.lst (nV ms)) ∧ (∀ m ∈ ms, m < 100000) ∧ ∀ G x, Same H G → Bits x (· ∈ ms) → Q (.int (x : Int)) G
section
variable {P : Program} {w : World} {K : PySem.W.Frag} {mg : Str → Option Value} {base : Heap}
theorem scSo : FnScope ["states", "found", "state"] ["states"] (defScope sSetOf) := ⟨rfl, rfl, rfl, by decide +kernel, rfl, by decide +kernel, by decide +kernel⟩
theorem ok_setof {f : Addr} {fd : FuncData} (F : Fun K "set_of" "set_of" sSetOf f fd) : FnOk P w K mg base CX0 1 f fd ["states"] spSetOf := by
  refine F.ok scSo (fun vs H Q E h => ?_) (fun cdv A outer s H vs Q E hr h => ?_)
  · obtain ⟨L, ms, rfl, _⟩ := h
    rfl
  obtain ⟨L, ms, rfl, hL, hb, q⟩ := h
  refine ⟨_, pss_cons (ps_set (i := 1) scSo.nd rfl (Or.inl rfl) pe_int)
    (pss_cons (ps_for PassesOwn.never rfl (pi_list (pv 0)) (pg_name (i := 2) scSo.nd rfl (Or.inl rfl))
      (pss_one (ps_aug (i := 1) scSo.nd rfl (Or.inl rfl) (pe_op op_oneShl pe_int (pv 2)) (fun pins s σ H x y v u Q I r1 r2 h => iop_or pins s σ H x y v u Q I r1 r2 h))))
    (pss_one (ps_ret (pv 1)))), ?_⟩
  refine ⟨_, rfl, L, rfl, ⟨_, .inl (.inl hL)⟩, for_it (walk_list (K := K) (a := L) (xs := nV ms)) (fun i σ G => ∃ (x : Nat) (k2 : Option V), σ = [some (.ref L), some (.int (x : Int)), k2] ∧ Same H G ∧ Bits x (· ∈ ms.take i))
    ⟨0, none, rfl, Same.refl H, fun s => by simp⟩ ?_ ?_ ?_⟩
  · rintro i σ G _ ⟨x, k2, rfl, sG, _⟩
    exact .inl (.inl (sG _ _ hL))
  · rintro i x σ G _ hi ⟨y, k2, rfl, sG, b⟩ ⟨rfl, hx⟩
    obtain ⟨k, hk, rfl⟩ := nV_at hx
    have kb := hb k (List.mem_of_getElem? hk)
    refine ⟨_, rfl, _, rfl, k, rfl, rfl, by omega, _, _, rfl, rfl, y ||| 2 ^ k, some (.int (k : Int)), ?_, sG, ?_⟩
    · show [some (V.ref L), some (V.int (Builtin.bitOr (y : Int) (2 ^ k))), some (V.int (k : Int))] = _
      rw [show ((2 : Int) ^ k) = ((2 ^ k : Nat) : Int) from by rw [Int.natCast_pow]; rfl, or_nn]
    · refine (bits_add b).congr fun s => ?_
      rw [List.take_add_one, hk, List.mem_append]
      simp
  · rintro σ G ⟨x, k2, rfl, sG, b⟩
    refine ⟨_, rfl, q G x sG ?_⟩
    rwa [show (nV ms).length = ms.length from List.length_map _, List.take_length] at b
end
end K25
namespace K25
open PySem L2 GL KC KB KM
/-- lists of naturals by their addresses -/
def ListsAt (H : Hp) (ds : List Addr) (F : Nat → List Nat) : Prop := ∀ t d, ds[t]? = some d → H d = some (.lst (nV (F t)))
def spTurned : Sp := fun vs H Q _ => ∃ (L : Addr) (rs : List Addr) (gl : List (List Nat)), vs = [.ref L] ∧ H L = some (.lst (rs.map V.ref)) ∧ ListsAt H rs (fun t => gl.getD t []) ∧ gl.length = rs.length ∧ gl.length ≤ 1000 ∧
  (∀ r ∈ gl, r.length ≤ 4 ∧ ∀ t ∈ r, t < gl.length) ∧
  ∀ S G ds F, Same H G → G S = some (.lst (ds.map V.ref)) → ds.length = gl.length → ListsAt G ds F → (∀ t s, s ∈ F t ↔ t ∈ gl.getD s []) → (∀ t, (F t).length ≤ 4 * gl.length) → Q (.ref S) G
/-- what is told behind i rows and p items of the next one -/
def Tm (H : Hp) (S : Addr) (ds : List Addr) (gl : List (List Nat)) (i p : Nat) (G : Hp) (F : Nat → List Nat) : Prop :=
  Same H G ∧ G S = some (.lst (ds.map V.ref)) ∧ ListsAt G ds F ∧ (∀ t s, s ∈ F t ↔ (s < i ∧ t ∈ gl.getD s []) ∨ (s = i ∧ t ∈ (gl.getD i []).take p)) ∧ ∀ t, (F t).length ≤ 4 * i + p
theorem Tm.mono {H : Hp} {S : Addr} {ds : List Addr} {gl : List (List Nat)} {i p : Nat} {G G' : Hp} {F : Nat → List Nat} (h : Tm H S ds gl i p G F) (e : Same G G') : Tm H S ds gl i p G' F :=
  ⟨h.1.trans e, e _ _ h.2.1, fun t d q => e _ _ (h.2.2.1 t d q), h.2.2.2⟩
theorem Tm.add {H : Hp} {S : Addr} {ds : List Addr} {gl : List (List Nat)} {i p : Nat} {G : Hp} {F : Nat → List Nat} (h : Tm H S ds gl i p G F) {t : Nat} {d : Addr} (nd : ds.Nodup) (h1 : H d = none) (h2 : d ≠ S) (dt : ds[t]? = some d) (ht : (gl.getD i [])[p]? = some t) :
    Tm H S ds gl i (p + 1) (upd G d (.lst (nV (F t) ++ [V.int (i : Nat)]))) (fun u => if u = t then F t ++ [i] else F u) := by
  refine ⟨same_grow h1 h.1 _, by rw [upd_ne (Ne.symm h2)]; exact h.2.1, fun u e ue => ?_, fun u s => ?_, fun u => ?_⟩
  · by_cases c : u = t
    · subst c
      rw [dt] at ue
      cases ue
      rw [upd_same]
      dsimp only
      rw [if_pos rfl]
      unfold nV
      rw [List.map_append]
      rfl
    · have ne : e ≠ d := by
        intro z
        subst z
        obtain ⟨a1, a2⟩ := List.getElem?_eq_some_iff.mp ue
        obtain ⟨b1, b2⟩ := List.getElem?_eq_some_iff.mp dt
        exact c ((List.getElem_inj nd).mp (a2.trans b2.symm))
      rw [upd_ne ne]
      dsimp only
      rw [if_neg c]
      exact h.2.2.1 u e ue
  · rw [List.take_add_one, ht, List.mem_append]
    by_cases c : u = t
    · subst c
      dsimp only
      rw [if_pos rfl, List.mem_append, h.2.2.2.1 u s]
      constructor
      · rintro ((a | ⟨a, b⟩) | a)
        · exact .inl a
        · exact .inr ⟨a, .inl b⟩
        · exact .inr ⟨List.mem_singleton.mp a, .inr (List.mem_singleton.mpr rfl)⟩
      · rintro (a | ⟨a, b | _⟩)
        · exact .inl (.inl a)
        · exact .inl (.inr ⟨a, b⟩)
        · exact .inr (List.mem_singleton.mpr a)
    · dsimp only
      rw [if_neg c, h.2.2.2.1 u s]
      constructor
      · rintro (a | ⟨a, b⟩)
        · exact .inl a
        · exact .inr ⟨a, .inl b⟩
      · rintro (a | ⟨a, b | b⟩)
        · exact .inl a
        · exact .inr ⟨a, b⟩
        · exact absurd (List.mem_singleton.mp b) c
  · have := h.2.2.2.2 u
    have := h.2.2.2.2 t
    show (if u = t then F t ++ [i] else F u).length ≤ _
    split
    · rw [List.length_append, List.length_singleton]
      omega
    · omega
section
variable {P : Program} {w : World} {K : PySem.W.Frag} {mg : Str → Option Value} {base : Heap}
theorem scTu : FnScope ["goals", "row", "sources", "state", "goal"] ["goals"] (defScope sTurned) := ⟨rfl, rfl, rfl, by decide +kernel, rfl, by decide +kernel, by decide +kernel⟩
theorem ok_turned {f : Addr} {fd : FuncData} (F : Fun K "turned" "turned" sTurned f fd) (T : mg "enumerate" = none) : FnOk P w K mg base CX0 1 f fd ["goals"] spTurned := by
  refine F.ok scTu (fun vs H Q E h => ?_) (fun cdv A outer s H vs Q E hr h => ?_)
  · obtain ⟨L, rs, gl, rfl, _⟩ := h
    rfl
  obtain ⟨L, rs, gl, rfl, hL, hR, hl, hn, hg, q⟩ := h
  refine ⟨_, pss_cons (ps_setLc (i := 2) (own := [("row", 1)]) (g := gName 1) (tt := tYes) rfl scTu.nd rfl rfl (sw_true rfl rfl rfl (by decide +kernel)) (pi_list (pv 0))
        (blkOk_by (own := [("row", 1)]) (N := ["goals", "row", "sources", "state", "goal"]) (sc := defScope sTurned) (by decide +kernel)) (fun _ _ _ _ _ => pg_name (i := 1) scTu.nd rfl (Or.inl rfl)) (fun _ _ _ _ _ => pts_nil)
        (fun _ _ _ _ _ => pe_lst pa_nil))
    (pss_cons (ps_for PassesOwn.never rfl (pi_enum rfl T (pa_cons (pv 0) pa_nil)) (pg_tup rfl (pgs_cons (pg_name (i := 3) scTu.nd rfl (Or.inl rfl)) (pgs_cons (pg_name (i := 1) scTu.nd rfl (Or.inl rfl)) pgs_nil)))
      (pss_one (ps_for PassesOwn.never rfl (pi_list (pv 1)) (pg_name (i := 4) scTu.nd rfl (Or.inl rfl))
        (pss_one (ps_expr (pe_bm PySem.F.plainAttrs_list PySem.F.slot_list_append PySem.F.type_list_append mt_append (pe_ix ix_list (pv 2) (pv 4) (fun _ _ => rfl)) (pa_cons (pv 3) pa_nil)))))))
    (pss_one (ps_ret (pv 2)))), ?_⟩
  refine ⟨_, rfl, L, rfl, ⟨_, .inl (.inl hL)⟩, fun S nS => lc_list (K := K) (a := L) (xs := rs.map V.ref) (fun k G => Same H G ∧ ∃ ds : List Addr, G S = some (.lst (ds.map V.ref)) ∧ ds.length = k ∧ ds.Nodup ∧ ∀ d ∈ ds, H d = none ∧ d ≠ S ∧ G d = some (.lst []))
    ⟨same_new nS _, [], upd_same, rfl, List.nodup_nil, fun d h => nomatch h⟩ (fun k G _ h => .inl (.inl (h.1 _ _ hL))) ?_ ?_⟩
  · rintro i x G hx ⟨sG, ds, gS, dl, nd, hd⟩
    have il : i < rs.length := by
      have := (List.getElem?_eq_some_iff.mp hx).1
      rwa [List.length_map] at this
    refine ⟨rfl, by show 0 ≤ 2 ^ 24; decide, fun d hdn => ?_⟩
    have dS : d ≠ S := fun e => by rw [e, gS] at hdn; cases hdn
    refine ⟨ds.map V.ref, by rw [upd_ne (Ne.symm dS)]; exact gS, by rw [List.length_map]; show _ < 2 ^ 24; omega, same_grow nS (sG.trans (same_new hdn _)) _, ds ++ [d], by rw [upd_same, List.map_append]; rfl, by rw [List.length_append, dl]; rfl, ?_, fun e he => ?_⟩
    · rw [List.nodup_append]
      refine ⟨nd, by simp, fun a ha b hb => ?_⟩
      rw [List.mem_singleton.mp hb]
      intro e
      have := (hd a ha).2.2
      rw [e, hdn] at this
      cases this
    · rcases List.mem_append.mp he with he | he
      · obtain ⟨h1, h2, h3⟩ := hd e he
        have ed : e ≠ d := fun z => by rw [z, hdn] at h3; cases h3
        exact ⟨h1, h2, by rw [upd_ne h2, upd_ne ed]; exact h3⟩
      · rw [List.mem_singleton.mp he]
        exact ⟨sG.free hdn, dS, by rw [upd_ne dS, upd_same]⟩
  · rintro G ⟨sG, ds, gS, dl, nd, hd⟩
    rw [List.length_map] at dl
    refine ⟨_, rfl, L, _, rfl, .inl (.inl (sG _ _ hL)), for_it (walk_enum (K := K) (a := L) (xs := rs.map V.ref)) (fun i σ G => ∃ (k1 k3 k4 : Option V) (F : Nat → List Nat), σ = [some (.ref L), k1, some (.ref S), k3, k4] ∧ Tm H S ds gl i 0 G F)
      ⟨none, none, none, fun _ => [], rfl, sG, gS, fun t d e => (hd d (List.mem_of_getElem? e)).2.2, fun t s => by simp, fun t => by simp⟩ ?_ ?_ ?_⟩
    · rintro i σ G _ ⟨k1, k3, k4, F, rfl, tm⟩
      exact .inl (.inl (tm.1 _ _ hL))
    · rintro i x σ G1 G2 hi ⟨k1, k3, k4, F, rfl, tm⟩ ⟨T, x1, y1, rfl, nT, rfl, e1, e2⟩
      cases e1
      rw [List.length_map] at hi
      dsimp only at e2
      rw [List.getElem?_map, List.getElem?_eq_getElem hi] at e2
      cases e2
      have tm' := tm.mono (same_new nT (.tup [.int (i : Nat), .ref rs[i]]))
      refine ⟨T, _, rfl, .inl (.inl upd_same), rfl, ?_⟩
      generalize upd G1 T (.tup [.int (i : Nat), .ref rs[i]]) = G2 at tm'
      have gr : H rs[i] = some (.lst (nV (gl.getD i []))) := hR i _ (List.getElem?_eq_getElem hi)
      have gi : gl[i]? = some (gl.getD i []) := by rw [List.getD_eq_getElem?_getD, List.getElem?_eq_getElem (by omega)]; rfl
      obtain ⟨rl, rb⟩ := hg _ (List.mem_of_getElem? gi)
      refine ⟨_, _, rfl, _, _, rfl, rfl, _, rfl, rs[i], rfl, ⟨_, .inl (.inl (tm'.1 _ _ gr))⟩, for_it (walk_list (K := K) (a := rs[i]) (xs := nV (gl.getD i []))) (fun p σ G => ∃ (k4 : Option V) (F : Nat → List Nat), σ = [some (.ref L), some (.ref rs[i]), some (.ref S), some (.int (i : Nat)), k4] ∧ Tm H S ds gl i p G F)
        ⟨k4, F, rfl, tm'⟩ ?_ ?_ ?_⟩
      · rintro p σ G _ ⟨k4, F, rfl, tm⟩
        exact .inl (.inl (tm.1 _ _ gr))
      · rintro p x σ G3 _ hp ⟨k4, F, rfl, tm⟩ ⟨rfl, hx⟩
        obtain ⟨t, ht, rfl⟩ := nV_at hx
        have tl := rb t (List.mem_of_getElem? ht)
        have td : t < ds.length := by omega
        have dt : ds[t]? = some ds[t] := List.getElem?_eq_getElem td
        have fl := tm.2.2.2.2 t
        have pl : p < 4 := by
          have := (List.getElem?_eq_some_iff.mp ht).1
          omega
        refine ⟨_, rfl, _, rfl, S, ds.map V.ref, (t : Int), .ref ds[t], rfl, rfl, .inl (.inl tm.2.1), atI_nat (by rw [List.getElem?_map, dt]; rfl), ?_⟩
        refine ⟨.inl ⟨rfl, _, .inl (.inl (tm.2.2.1 t _ dt))⟩, _, rfl, ds[t], nV (F t), .int (i : Nat), rfl, rfl, tm.2.2.1 t _ dt, by unfold nV; rw [List.length_map]; show _ < 2 ^ 24; omega, ?_⟩
        obtain ⟨h1, h2, _⟩ := hd ds[t] (List.mem_of_getElem? dt)
        exact ⟨some (.int t), fun u => if u = t then F t ++ [i] else F u, rfl, tm.add nd h1 h2 dt ht⟩
      · rintro σ G ⟨k4, F, rfl, tm⟩
        refine ⟨_, _, _, F, rfl, tm.1, tm.2.1, tm.2.2.1, fun t s => ?_, fun t => ?_⟩
        · rw [tm.2.2.2.1 t s, show (nV (gl.getD i [])).length = (gl.getD i []).length from List.length_map _, List.take_length, List.take_zero]
          constructor
          · rintro (⟨a, b⟩ | ⟨rfl, b⟩)
            · exact .inl ⟨by omega, b⟩
            · exact .inl ⟨by omega, b⟩
          · rintro (⟨a, b⟩ | ⟨_, b⟩)
            · by_cases e : s = i
              · subst e; exact .inr ⟨rfl, b⟩
              · exact .inl ⟨by omega, b⟩
            · cases b
        · have := tm.2.2.2.2 t
          rw [show (nV (gl.getD i [])).length = (gl.getD i []).length from List.length_map _] at this
          omega
    · rintro σ G ⟨k1, k3, k4, F, rfl, tm⟩
      rw [List.length_map] at tm
      refine ⟨_, rfl, q S G ds F tm.1 tm.2.1 (by omega) tm.2.2.1 (fun t s => ?_) (fun t => by have := tm.2.2.2.2 t; omega)⟩
      rw [tm.2.2.2.1 t s, List.take_zero]
      constructor
      · rintro (⟨_, b⟩ | ⟨_, b⟩)
        · exact b
        · cases b
      · intro b
        refine .inl ⟨Classical.byContradiction fun z => ?_, b⟩
        rw [List.getD_eq_getElem?_getD, List.getElem?_eq_none (by omega)] at b
        cases b
end
end K25
namespace K25
open PySem L2 GL KC KB KM
def cDefN (s : Stmt) (i : Nat) : Stmt := match s with
  | .ClassDef _ _ _ b _ _ _ _ _ _ _ => b.getD i s
  | s => s
abbrev sInit : Stmt := cDefN (top 3) 0
abbrev sReach : Stmt := cDefN (top 3) 1
abbrev sLook : Stmt := cDefN (top 3) 2
abbrev sGather : Stmt := cDefN (top 3) 3
structure Kl (K : PySem.W.Frag) (C : Addr) : Prop where
  c : Cls K C
  masks : NoAttr K C "masks"
  tables : NoAttr K C "tables"
  last : NoAttr K C "last"
  found : NoAttr K C "found"
/-- where one step leads from some states -/
def Img (masks : List Nat) (S : Nat → Prop) (t : Nat) : Prop := ∃ s k : Nat, S s ∧ masks[s]? = some k ∧ k.testBit t = true
def spGather (C : Addr) : Sp := fun vs H Q _ => ∃ (o dx m : Addr) (fs : List (Str × V)) (masks : List Nat) (first part : Nat), vs = [.ref o, .int (first : Int), .int (part : Int)] ∧ H o = some (.ins C dx fs) ∧ fs.lookup ("masks" : Str) = some (V.ref m) ∧ H m = some (.lst (nV masks)) ∧
  part < 2 ^ 100000 ∧ (∀ i, part.testBit i = true → first + i < masks.length) ∧ ∀ G x, Same H G → Bits x (Img masks fun s => ∃ i, s = first + i ∧ part.testBit i = true) → Q (.int (x : Int)) G
theorem bits_or {x y : Nat} {S T : Nat → Prop} (a : Bits x S) (b : Bits y T) : Bits (x ||| y) fun s => S s ∨ T s := a.or b
section
variable {P : Program} {w : World} {K : PySem.W.Frag} {mg : Str → Option Value} {base : Heap}
theorem scGa : FnScope ["self", "first", "part", "found", "state"] ["self", "first", "part"] (defScope sGather) := ⟨rfl, rfl, rfl, by decide +kernel, rfl, by decide +kernel, by decide +kernel⟩
theorem ok_gather {f fM C0 : Addr} {fd fdM : FuncData} (F : Fun K "gather" "Links.gather" sGather f fd) (kl : Kl K C0) (M : Dfn P w K mg base "members" 1 fM fdM ["states"] spMembers) : FnOk P w K mg base CX0 2 f fd ["self", "first", "part"] (spGather C0) := by
  refine F.ok scGa (fun vs H Q E h => ?_) (fun cdv A outer s H vs Q E hr h => ?_)
  · obtain ⟨o, dx, m, fs, masks, first, part, rfl, _⟩ := h
    rfl
  obtain ⟨o, dx, m, fs, masks, first, part, rfl, ho, lm, hm, hp, hb, q⟩ := h
  refine ⟨_, pss_cons (ps_set (i := 3) scGa.nd rfl (Or.inl rfl) pe_int)
    (pss_cons (ps_for PassesOwn.never rfl (pi_list (pe_call M.ok hr rfl M.m M.kp M.b .nil pass0 (pa_cons (pv 2) pa_nil))) (pg_name (i := 4) scGa.nd rfl (Or.inl rfl))
      (pss_one (ps_aug (i := 3) scGa.nd rfl (Or.inl rfl) (pe_ix ix_list (pe_fld (pv 0) rfl) (pe_op op_add (pv 1) (pv 4)) (fun _ _ => rfl)) (fun pins s σ H x y v u Q I r1 r2 h => iop_or pins s σ H x y v u Q I r1 r2 h))))
    (pss_one (ps_ret (pv 3)))), ?_⟩
  refine ⟨_, rfl, part, rfl, hp, fun L G ms sG lo gL => ⟨L, rfl, ⟨_, .inl (.inl gL)⟩, for_it (walk_list (K := K) (a := L) (xs := nV ms)) (fun i σ G2 => ∃ (x : Nat) (k4 : Option V), σ = [some (.ref o), some (.int (first : Int)), some (.int (part : Int)), some (.int (x : Int)), k4] ∧ Same G G2 ∧ Bits x (Img masks fun s => ∃ j ∈ ms.take i, s = first + j))
    ⟨0, none, rfl, Same.refl G, fun s => by simp [Img]⟩ ?_ ?_ ?_⟩⟩
  · rintro i σ G2 _ ⟨x, k4, rfl, sG2, _⟩
    exact .inl (.inl (sG2 _ _ gL))
  · rintro i x σ G2 _ hi ⟨y, k4, rfl, s2, b⟩ ⟨rfl, hx⟩
    obtain ⟨k, hk, rfl⟩ := nV_at hx
    have kb := hb k ((lo.2 k).mp (List.mem_of_getElem? hk))
    have mk : masks[first + k]? = some masks[first + k] := List.getElem?_eq_getElem kb
    have s3 := sG.trans s2
    refine ⟨_, rfl, _, rfl, o, C0, dx, fs, _, rfl, s3 _ _ ho, kl.c, kl.masks, lm, _, rfl, _, rfl, _, _, rfl, rfl, m, nV masks, ((first : Int) + (k : Int)), .int (masks[first + k] : Nat), rfl, rfl, .inl (.inl (s3 _ _ hm)), ?_, _, _, rfl, rfl, y ||| masks[first + k], some (.int (k : Int)), ?_, s2, ?_⟩
    · rw [show (first : Int) + (k : Int) = ((first + k : Nat) : Int) by omega]
      refine atI_nat ?_
      unfold nV
      rw [List.getElem?_map, mk]
      rfl
    · show [_, _, _, some (V.int (Builtin.bitOr (y : Int) (masks[first + k] : Nat))), some (V.int (k : Int))] = _
      rw [or_nn]
    · refine (b.or (fun t => Iff.rfl : Bits masks[first + k] fun t => (masks[first + k]).testBit t = true)).congr fun t => ?_
      rw [List.take_add_one, hk]
      constructor
      · rintro (⟨s, z, ⟨j, hj, rfl⟩, h2, h3⟩ | h)
        · exact ⟨_, z, ⟨j, List.mem_append.mpr (.inl hj), rfl⟩, h2, h3⟩
        · exact ⟨_, _, ⟨k, List.mem_append.mpr (.inr (by simp)), rfl⟩, mk, h⟩
      · rintro ⟨s, z, ⟨j, hj, rfl⟩, h2, h3⟩
        rcases List.mem_append.mp hj with hj | hj
        · exact .inl ⟨_, z, ⟨j, hj, rfl⟩, h2, h3⟩
        · have : j = k := by simpa using hj
          subst this
          rw [mk] at h2
          cases h2
          exact .inr h3
  · rintro σ G2 ⟨x, k4, rfl, s2, b⟩
    refine ⟨_, rfl, q G2 x (sG.trans s2) (b.congr fun t => ?_)⟩
    rw [show (nV ms).length = ms.length from List.length_map _, List.take_length]
    constructor
    · rintro ⟨s, z, ⟨j, hj, rfl⟩, h2, h3⟩
      exact ⟨_, z, ⟨j, rfl, (lo.2 j).mp hj⟩, h2, h3⟩
    · rintro ⟨s, z, ⟨j, rfl, hj⟩, h2, h3⟩
      exact ⟨_, z, ⟨j, (lo.2 j).mpr hj, rfl⟩, h2, h3⟩
end
end K25
namespace K25
open PySem L2 GL KC KB KM
theorem nodup_le : ∀ (B : Nat) (l : List Nat), l.Nodup → (∀ x ∈ l, x < B) → l.length ≤ B
  | 0, l, _, h => by
    cases l with
    | nil => exact Nat.zero_le _
    | cons x l => exact absurd (h x List.mem_cons_self) (Nat.not_lt_zero _)
  | B + 1, l, nd, h => by
    have ih := nodup_le B (l.erase B) (nd.erase B) fun x hx => by
      have hx' := (nd.mem_erase_iff).mp hx
      have := h x hx'.2
      have := hx'.1
      omega
    rw [List.length_erase] at ih
    split at ih <;> omega
/-- what a table of sets holds: for each set of eight states from 8 * c on where one step leads from it -/
def Tab (masks : List Nat) (c : Nat) (kvs : List (Key × V)) : Prop := (kvs.map (·.1)).Nodup ∧ ∀ kv ∈ kvs, ∃ p x : Nat, kv = (Sum.inl (p : Int), V.int (x : Int)) ∧ p < 256 ∧ Bits x (Img masks fun s => ∃ i, s = 8 * c + i ∧ p.testBit i = true)
def keyN : Key → Nat
  | .inl i => i.toNat
  | _ => 0
theorem Tab.len {masks : List Nat} {c : Nat} {kvs : List (Key × V)} (t : Tab masks c kvs) : kvs.length ≤ 256 := by
  have h : (kvs.map fun kv => keyN kv.1).Nodup := by
    have h1 := t.1
    unfold List.Nodup at h1 ⊢
    rw [List.pairwise_map] at h1 ⊢
    refine h1.imp_of_mem fun {a b} ha hb ne => ?_
    obtain ⟨p, x, rfl, _⟩ := t.2 a ha
    obtain ⟨p', x', rfl, _⟩ := t.2 b hb
    intro e
    have e' : p = p' := e
    exact ne (by rw [e'])
  have := nodup_le 256 _ h fun x hx => by
    obtain ⟨kv, hk, rfl⟩ := List.mem_map.mp hx
    obtain ⟨p, x, rfl, hp, _⟩ := t.2 kv hk
    exact hp
  rwa [List.length_map] at this
theorem val_mem {kvs : List (Key × V)} {k : Key} {v : V} (h : valV kvs k = some v) : (k, v) ∈ kvs := by
  unfold valV at h
  cases e : kvs.find? fun kv => decide (kv.1 = k) with
  | none => rw [e] at h; cases h
  | some kv =>
    rw [e] at h
    have h1 := List.find?_some e
    have h2 := List.mem_of_find?_eq_some e
    have h3 : kv.1 = k := of_decide_eq_true h1
    cases h
    rw [← h3]
    exact h2
theorem Tab.get {masks : List Nat} {c p : Nat} {kvs : List (Key × V)} {v : V} (t : Tab masks c kvs) (h : valV kvs (Sum.inl (p : Int)) = some v) : ∃ x : Nat, v = .int (x : Int) ∧ Bits x (Img masks fun s => ∃ i, s = 8 * c + i ∧ p.testBit i = true) := by
  obtain ⟨p', x, e, _, b⟩ := t.2 _ (val_mem h)
  injection e with e1 e2
  injection e1 with e1
  have : p = p' := by omega
  subst this
  exact ⟨x, e2, b⟩
theorem val_none {kvs : List (Key × V)} {k : Key} (h : valV kvs k = none) : (kvs.any fun kv => decide (kv.1 = k)) = false := by
  rw [valV_any, h]
  rfl
theorem Tab.put {masks : List Nat} {c p x : Nat} {kvs : List (Key × V)} (t : Tab masks c kvs) (h : valV kvs (Sum.inl (p : Int)) = none) (hp : p < 256) (b : Bits x (Img masks fun s => ∃ i, s = 8 * c + i ∧ p.testBit i = true)) :
    putK kvs (Sum.inl (p : Int)) (.int (x : Int)) = kvs ++ [(Sum.inl (p : Int), .int (x : Int))] ∧ Tab masks c (kvs ++ [(Sum.inl (p : Int), .int (x : Int))]) ∧ valV (kvs ++ [(Sum.inl (p : Int), .int (x : Int))]) (Sum.inl (p : Int)) = some (.int (x : Int)) := by
  have a := val_none h
  refine ⟨?_, ⟨?_, fun kv hk => ?_⟩, ?_⟩
  · unfold putK
    rw [a]
    rfl
  · rw [List.map_append]
    refine List.nodup_append.mpr ⟨t.1, by simp, fun k hk k' hk' => ?_⟩
    have e' : k' = Sum.inl (p : Int) := by simpa using hk'
    subst e'
    rintro rfl
    obtain ⟨kv, h1, h2⟩ := List.mem_map.mp hk
    have := List.any_eq_false.mp a kv h1
    rw [h2] at this
    simp at this
  · rcases List.mem_append.mp hk with hk | hk
    · exact t.2 kv hk
    · rw [List.mem_singleton.mp hk]
      exact ⟨p, x, rfl, hp, b⟩
  · rw [valV_snoc _ _ _ _ h, if_pos rfl]
theorem and255 (r i : Nat) : (r &&& 255).testBit i = true ↔ i < 8 ∧ r.testBit i = true := by
  rw [Nat.testBit_and, Bool.and_eq_true, show (255 : Nat) = 2 ^ 8 - 1 from rfl, Nat.testBit_two_pow_sub_one, decide_eq_true_eq]
  exact And.comm
theorem and255_lt (r : Nat) : r &&& 255 < 256 := Nat.lt_of_le_of_lt Nat.and_le_right (by decide)
/-- the rest of a set, moved down -/
def Rest (n c r : Nat) : Prop := ∀ i, r.testBit i = true ↔ n.testBit (8 * c + i) = true
theorem Rest.zero (n : Nat) : Rest n 0 n := fun i => by rw [Nat.mul_zero, Nat.zero_add]
theorem Rest.div {n c r : Nat} (h : Rest n c r) (k : Nat) : Rest n (c + k) (r / 2 ^ (8 * k)) := fun i => by
  rw [Nat.testBit_div_two_pow, show i + 8 * k = 8 * k + i from Nat.add_comm _ _] 
  rw [h, show 8 * c + (8 * k + i) = 8 * (c + k) + i by omega]
/-- what has been found: the image of the part below -/
def Found (masks : List Nat) (n c x : Nat) : Prop := Bits x (Img masks fun s => n.testBit s = true ∧ s < 8 * c)
theorem Found.skip {masks : List Nat} {n c x r k : Nat} (f : Found masks n c x) (h : Rest n c r) (z : ∀ i, i < 8 * k → r.testBit i = false) : Found masks n (c + k) x := by
  refine f.congr fun t => ?_
  constructor
  · rintro ⟨s, m, ⟨h1, h2⟩, h3⟩
    exact ⟨s, m, ⟨h1, by omega⟩, h3⟩
  · rintro ⟨s, m, ⟨h1, h2⟩, h3⟩
    refine ⟨s, m, ⟨h1, Classical.byContradiction fun g => ?_⟩, h3⟩
    have := (h (s - 8 * c)).mpr (by rw [show 8 * c + (s - 8 * c) = s by omega]; exact h1)
    rw [z _ (by omega)] at this
    cases this
theorem Found.step {masks : List Nat} {n c x r y : Nat} (f : Found masks n c x) (h : Rest n c r) (b : Bits y (Img masks fun s => ∃ i, s = 8 * c + i ∧ (r &&& 255).testBit i = true)) : Found masks n (c + 1) (x ||| y) := by
  refine (f.or b).congr fun t => ?_
  constructor
  · rintro (⟨s, m, ⟨h1, h2⟩, h3⟩ | ⟨s, m, ⟨i, rfl, h1⟩, h3⟩)
    · exact ⟨s, m, ⟨h1, by omega⟩, h3⟩
    · obtain ⟨h4, h5⟩ := (and255 r i).mp h1
      exact ⟨_, m, ⟨(h i).mp h5, by omega⟩, h3⟩
  · rintro ⟨s, m, ⟨h1, h2⟩, h3⟩
    by_cases g : s < 8 * c
    · exact .inl ⟨s, m, ⟨h1, g⟩, h3⟩
    · refine .inr ⟨s, m, ⟨s - 8 * c, by omega, (and255 r _).mpr ⟨by omega, (h _).mpr ?_⟩⟩, h3⟩
      rw [show 8 * c + (s - 8 * c) = s by omega]
      exact h1
theorem Found.done {masks : List Nat} {n c x : Nat} (f : Found masks n c x) (h : Rest n c 0) : Bits x (Img masks fun s => n.testBit s = true) := by
  refine f.congr fun t => ?_
  constructor
  · rintro ⟨s, m, ⟨h1, _⟩, h3⟩
    exact ⟨s, m, h1, h3⟩
  · rintro ⟨s, m, h1, h3⟩
    refine ⟨s, m, ⟨h1, Classical.byContradiction fun g => ?_⟩, h3⟩
    have := (h (s - 8 * c)).mpr (by rw [show 8 * c + (s - 8 * c) = s by omega]; exact h1)
    rw [Nat.zero_testBit] at this
    cases this
theorem low_zero {r k : Nat} (l : ∀ i, i < k → r.testBit i = false) : ∀ i, i < 8 * (k / 8) → r.testBit i = false := fun i hi => l i (by omega)
theorem seq_cut {t u : TS} {D : Ends} {σ : St} {H : Hp} (P : St → Hp → Prop) (h1 : ∀ Q : St → Hp → Prop, (∀ σ H, P σ H → Q σ H) → t { D with nx := Q } σ H) (h2 : ∀ σ H, P σ H → u D σ H) : tSeq t u D σ H := h1 _ h2
end K25
namespace K25
open PySem L2 GL KC KB KM
/-- all but the tables is as it was -/
def Oth (ts : List Addr) (H G : Hp) : Prop := ∀ b u, H b = some u → b ∉ ts → G b = some u
def Tabs (masks : List Nat) (ts : List Addr) (G : Hp) : Prop := ∀ c t, ts[c]? = some t → ∃ kvs, G t = some (.dK kvs) ∧ Tab masks c kvs
theorem Tabs.not {masks : List Nat} {ts : List Addr} {G : Hp} (T : Tabs masks ts G) {b : Addr} {u : HO} (h : G b = some u) (hu : ∀ kvs, u ≠ .dK kvs) : b ∉ ts := fun hb => by
  obtain ⟨c, hc, e⟩ := List.mem_iff_getElem.mp hb
  obtain ⟨kvs, h1, _⟩ := T c b (by rw [List.getElem?_eq_getElem hc, e])
  rw [h] at h1
  cases h1
  exact hu kvs rfl
structure LkAt (C : Addr) (H : Hp) (o : Addr) (masks : List Nat) (ts : List Addr) (dx m tb : Addr) (fs : List (Str × V)) : Prop where
  obj : H o = some (.ins C dx fs)
  lm : fs.lookup ("masks" : Str) = some (V.ref m)
  lt : fs.lookup ("tables" : Str) = some (V.ref tb)
  lg : fs.lookup ("gather" : Str) = none
  hm : H m = some (.lst (nV masks))
  ht : H tb = some (.lst (ts.map V.ref))
  nd : ts.Nodup
  len : masks.length ≤ 8 * ts.length
  big : masks.length ≤ 1000
theorem LkAt.oth {C : Addr} {H G : Hp} {o dx m tb : Addr} {masks : List Nat} {ts : List Addr} {fs : List (Str × V)} (L : LkAt C H o masks ts dx m tb fs) (T : Tabs masks ts H) (e : Oth ts H G) : LkAt C G o masks ts dx m tb fs :=
  ⟨e _ _ L.obj (T.not L.obj fun _ h => nomatch h), L.lm, L.lt, L.lg, e _ _ L.hm (T.not L.hm fun _ h => nomatch h), e _ _ L.ht (T.not L.ht fun _ h => nomatch h), L.nd, L.len, L.big⟩
def spLook (C : Addr) : Sp := fun vs H Q _ => ∃ (o dx m tb : Addr) (fs : List (Str × V)) (masks : List Nat) (ts : List Addr) (n : Nat), vs = [.ref o, .int (n : Int)] ∧ LkAt C H o masks ts dx m tb fs ∧ Tabs masks ts H ∧
  (∀ i, n.testBit i = true → i < masks.length) ∧ ∀ G x, Oth ts H G → Tabs masks ts G → Bits x (Img masks fun s => n.testBit s = true) → Q (.int (x : Int)) G
theorem Oth.refl (ts : List Addr) (H : Hp) : Oth ts H H := fun _ _ h _ => h
theorem Oth.same {ts : List Addr} {H G G' : Hp} (a : Oth ts H G) (b : Same G G') : Oth ts H G' := fun x u h n => b _ _ (a x u h n)
theorem Tabs.same {masks : List Nat} {ts : List Addr} {G G' : Hp} (T : Tabs masks ts G) (b : Same G G') : Tabs masks ts G' := fun c t h => by
  obtain ⟨kvs, h1, h2⟩ := T c t h
  exact ⟨kvs, b _ _ h1, h2⟩
theorem Oth.put {ts : List Addr} {H G : Hp} (a : Oth ts H G) {t : Addr} (h : t ∈ ts) (u : HO) : Oth ts H (upd G t u) := fun x v hx n => by
  rw [upd_ne (fun e => n (by rw [e]; exact h))]
  exact a x v hx n
theorem Tabs.put {masks : List Nat} {ts : List Addr} {G : Hp} (T : Tabs masks ts G) (nd : ts.Nodup) {c : Nat} {t : Addr} (h : ts[c]? = some t) {kvs : List (Key × V)} (b : Tab masks c kvs) : Tabs masks ts (upd G t (.dK kvs)) := fun d u hd => by
  by_cases e : u = t
  · subst e
    obtain ⟨a1, a2⟩ := List.getElem?_eq_some_iff.mp h
    obtain ⟨b1, b2⟩ := List.getElem?_eq_some_iff.mp hd
    have : c = d := (List.getElem_inj nd).mp (a2.trans b2.symm)
    subst this
    exact ⟨kvs, upd_same, b⟩
  · obtain ⟨k2, h1, h2⟩ := T d u hd
    exact ⟨k2, by rw [upd_ne e]; exact h1, h2⟩
theorem shr_nat (r k : Nat) : (r : Int) / 2 ^ ((k : Int) * 8).toNat = ((r / 2 ^ (8 * k) : Nat) : Int) := by
  rw [show ((k : Int) * 8).toNat = 8 * k by omega, Int.natCast_ediv, Int.natCast_pow]
  rfl
theorem shr8_nat (r : Nat) : (r : Int) / 2 ^ (8 : Int).toNat = ((r / 2 ^ (8 * 1) : Nat) : Int) := by
  rw [show (8 : Int).toNat = 8 * 1 from rfl, Int.natCast_ediv, Int.natCast_pow]
  rfl
theorem and255_nn (r : Nat) : Builtin.bitAnd (r : Int) 255 = ((r &&& 255 : Nat) : Int) := and_nn r 255
section
variable {P : Program} {w : World} {K : PySem.W.Frag} {mg : Str → Option Value} {base : Heap}
theorem scLu : FnScope ["self", "states", "found", "chunk", "part", "skipped", "table"] ["self", "states"] (defScope sLook) := ⟨rfl, rfl, rfl, by decide +kernel, rfl, by decide +kernel, by decide +kernel⟩
theorem ok_look {u8 u255 : Value} {f fG C : Addr} {fd fdG : FuncData} (F : Fun K "look_up" "Links.look_up" sLook f fd) (kl : Kl K C) (mG : Meth K C "gather" fG) (oG : FnOk P w K mg base CX0 2 fG fdG ["self", "first", "part"] (spGather C)) (bG : L2.Binds K fdG ["self", "first", "part"] [])
    (m8 : mg "CHUNK" = some u8) (r8 : RelV (.int 8) u8) (m255 : mg "FULL" = some u255) (r255 : RelV (.int 255) u255) : FnOk P w K mg base CX0 3 f fd ["self", "states"] (spLook C) := by
  refine F.ok scLu (fun vs H Q E h => ?_) (fun cdv A outer s H vs Q E hr h => ?_)
  · obtain ⟨o, dx, m, tb, fs, masks, ts, n, rfl, _⟩ := h
    rfl
  obtain ⟨o, dx, m, tb, fs, masks, ts, n, rfl, L, T, hn, q⟩ := h
  have hu2 := Nat.lt_of_le_of_lt (Nat.add_le_add_left (by decide : 1 ≤ 64) _) hr.units
  refine ⟨_, pss_cons (ps_asg (pe_tup (pa_cons pe_int (pa_cons pe_int pa_nil))) (pg_tup rfl (pgs_cons (pg_name (i := 2) scLu.nd rfl (Or.inl rfl)) (pgs_cons (pg_name (i := 3) scLu.nd rfl (Or.inl rfl)) pgs_nil))))
    (pss_cons (ps_while PassesOwn.never (pt_truth (pv 1) (by intro _; rfl))
      (pss_cons (ps_set (i := 4) scLu.nd rfl (Or.inl rfl) (pe_op op_and (pv 1) (pe_glob (v := .int 255) rfl m255 r255)))
      (pss_cons (ps_if (pt_cmp (pc_eqI (pv 4) pe_int))
        (pss_cons (ps_set (i := 5) scLu.nd rfl (Or.inl rfl) (pe_op op_fdiv (pe_op op_sub (pe_bits (pe_op op_and (pv 1) (pe_un un_neg (pv 1)))) pe_int) (pe_glob (v := .int 8) rfl m8 r8)))
        (pss_cons (ps_aug (i := 1) scLu.nd rfl (Or.inl rfl) (pe_op op_mul (pv 5) (pe_glob (v := .int 8) rfl m8 r8)) (fun pins s σ H x y v u Q I r1 r2 h => iop_shr pins s σ H x y v u Q I r1 r2 h))
        (pss_cons (ps_aug (i := 3) scLu.nd rfl (Or.inl rfl) (pv 5) (fun pins s σ H x y v u Q I r1 r2 h => iop_add pins s σ H x y v u Q I r1 r2 h))
        (pss_one (ps_set (i := 4) scLu.nd rfl (Or.inl rfl) (pe_op op_and (pv 1) (pe_glob (v := .int 255) rfl m255 r255))))))) pss_nil)
      (pss_cons (ps_set (i := 6) scLu.nd rfl (Or.inl rfl) (pe_ix ix_list (pe_fld (pv 0) rfl) (pv 3) (fun _ _ => rfl)))
      (pss_cons (ps_if (pt_cmp (pc_dnotin hu2 (pv 4) (pv 6)))
        (pss_one (ps_dput hu2 (pv 6) (pv 4) (pe_meth (pv 0) kl.c mG oG hr bG .nil pass0 (pa_cons (pe_op op_mul (pv 3) (pe_glob (v := .int 8) rfl m8 r8)) (pa_cons (pv 4) pa_nil))) rfl)) pss_nil)
      (pss_cons (ps_aug (i := 2) scLu.nd rfl (Or.inl rfl) (pe_dget hu2 (pv 6) (pv 4) (fun _ _ => rfl)) (fun pins s σ H x y v u Q I r1 r2 h => iop_or pins s σ H x y v u Q I r1 r2 h))
      (pss_cons (ps_aug (i := 1) scLu.nd rfl (Or.inl rfl) (pe_glob (v := .int 8) rfl m8 r8) (fun pins s σ H x y v u Q I r1 r2 h => iop_shr pins s σ H x y v u Q I r1 r2 h))
      (pss_one (ps_aug (i := 3) scLu.nd rfl (Or.inl rfl) pe_int (fun pins s σ H x y v u Q I r1 r2 h => iop_add pins s σ H x y v u Q I r1 r2 h))))))))))
    (pss_one (ps_ret (pv 2)))), ?_⟩
  refine ⟨by show 2 ≤ 2 ^ 24; decide, fun p np => ⟨p, _, rfl, .inl (.inl upd_same), rfl, _, _, rfl, _, _, rfl, rfl, ?_⟩⟩
  have O1 := (Oth.refl ts H).same (same_new np (.tup [.int 0, .int 0]))
  have T1 := T.same (same_new np (.tup [.int 0, .int 0]))
  generalize upd H p (.tup [.int 0, .int 0]) = G1 at O1 T1
  dsimp only
  refine seq_i (t := tWhile _ _) (u := tRet _) ?_
  refine while_by (fun σ G => ∃ (r c x : Nat) (k4 k5 k6 : Option V), σ = [some (.ref o), some (.int (r : Int)), some (.int (x : Int)), some (.int (c : Int)), k4, k5, k6] ∧ Oth ts H G ∧ Tabs masks ts G ∧ Rest n c r ∧ Found masks n c x) (fun σ _ => match σ[1]? with | some (some (V.int i)) => i.toNat | _ => 0)
    ⟨n, 0, 0, none, none, none, rfl, O1, T1, Rest.zero n, fun t => by simp [Img]⟩ ?_ ?_
  · rintro σ G ⟨r, c, x, k4, k5, k6, rfl, OG, TG, R, Fd⟩
    refine ⟨_, rfl, _, rfl, ite2 (fun c1 => ?_) (fun c1 => ?_)⟩
    · have rp : 0 < r := by
        refine Nat.pos_of_ne_zero fun z => ?_
        subst z
        exact absurd c1 (by decide)
      refine ⟨_, rfl, _, _, rfl, rfl, ?_⟩
      dsimp only [gName]
      rw [and255_nn r]
      refine seq_cut (t := tIfS _ _ _) (fun σ G' => ∃ (r' c' : Nat) (k5' : Option V), σ = [some (.ref o), some (.int (r' : Int)), some (.int (x : Int)), some (.int (c' : Int)), some (.int ((r' &&& 255 : Nat) : Int)), k5', k6] ∧ G' = G ∧ Rest n c' r' ∧ Found masks n c' x ∧ 0 < r' ∧ r' ≤ r) ?_ ?_
      · intro Q hq
        refine ⟨_, rfl, _, _, rfl, rfl, _, rfl, ite2 (fun e => ?_) (fun e => ?_)⟩
        · obtain ⟨k, e1, e2, e3⟩ := low_bit r rp
          refine ⟨_, rfl, _, rfl, _, rfl, _, _, rfl, rfl, ?_⟩
          dsimp only
          rw [e1]
          refine ⟨_, rfl, _, _, rfl, rfl, ?_⟩
          dsimp only
          rw [bits_pow k, show (((k + 1 : Nat)) : Int) - 1 = (k : Int) by omega]
          refine ⟨_, _, rfl, rfl, ⟨by decide, by decide⟩, ?_⟩
          dsimp only [gName]
          rw [show (k : Int) / 8 = ((k / 8 : Nat) : Int) by omega]
          refine ⟨_, rfl, _, rfl, _, _, rfl, rfl, .inr ⟨by decide, by decide⟩, _, _, rfl, rfl, by omega, ?_⟩
          dsimp only
          rw [shr_nat]
          refine ⟨_, rfl, _, rfl, _, _, rfl, rfl, ?_⟩
          dsimp only
          rw [show (c : Int) + ((k / 8 : Nat) : Int) = ((c + k / 8 : Nat) : Int) by omega]
          refine ⟨_, rfl, _, _, rfl, rfl, ?_⟩
          dsimp only [gName]
          rw [and255_nn]
          refine hq _ _ ⟨r / 2 ^ (8 * (k / 8)), c + k / 8, some (.int ((k / 8 : Nat) : Int)), rfl, rfl, R.div _, Fd.skip R (low_zero e3), ?_, Nat.div_le_self _ _⟩
          refine Nat.pos_of_ne_zero fun z => ?_
          have b : (r / 2 ^ (8 * (k / 8))).testBit (k - 8 * (k / 8)) = true := by
            rw [Nat.testBit_div_two_pow, show k - 8 * (k / 8) + 8 * (k / 8) = k by omega]
            exact e2
          rw [z, Nat.zero_testBit] at b
          cases b
        · exact hq _ _ ⟨r, c, k5, rfl, rfl, R, Fd, rp, Nat.le_refl r⟩
      · rintro σ G' ⟨r', c', k5', rfl, rfl, R', F', rp', rl⟩
        have LG := L.oth T OG
        have cl : c' < ts.length := by
          obtain ⟨k, _, e2, _⟩ := low_bit r' rp'
          have := hn _ ((R' k).mp e2)
          have := L.len
          omega
        have ct : ts[c']? = some ts[c'] := List.getElem?_eq_getElem cl
        refine ⟨_, rfl, o, C, dx, fs, _, rfl, LG.obj, kl.c, kl.tables, LG.lt, _, rfl, tb, ts.map V.ref, (c' : Int), .ref ts[c'], rfl, rfl, .inl (.inl LG.ht), atI_nat (by rw [List.getElem?_map, ct]; rfl), ?_⟩
        dsimp only [gName]
        obtain ⟨kvs, hk, tab⟩ := TG c' _ ct
        have pb := and255 r'
        have pl := and255_lt r'
        generalize hp : r' &&& 255 = p at pb pl
        refine seq_cut (t := tIfS _ _ _) (fun σ G2 => ∃ (kvs' : List (Key × V)) (y : Nat), σ = [some (.ref o), some (.int (r' : Int)), some (.int (x : Int)), some (.int (c' : Int)), some (.int (p : Int)), k5', some (.ref ts[c'])] ∧ Oth ts H G2 ∧ Tabs masks ts G2 ∧ G2 ts[c'] = some (.dK kvs') ∧
          valV kvs' (Sum.inl (p : Int)) = some (.int (y : Int)) ∧ Bits y (Img masks fun s => ∃ i, s = 8 * c' + i ∧ p.testBit i = true)) ?_ ?_
        · intro Q hq
          refine ⟨_, rfl, _, rfl, ts[c'], _, rfl, DGet.k (k := Sum.inl (p : Int)) hk, _, rfl, ite2 (fun e => ?_) (fun e => ?_)⟩
          · have vn : valV kvs (Sum.inl (p : Int)) = none := by
              cases z : valV kvs (Sum.inl (p : Int)) with
              | none => rfl
              | some v => rw [z] at e; exact absurd e Bool.false_ne_true
            refine ⟨_, rfl, o, dx, fs, rfl, LG.obj, LG.lg, _, rfl, _, _, rfl, rfl, .inr ⟨by decide, by decide⟩, _, rfl, ?_⟩
            refine ⟨o, dx, m, fs, masks, 8 * c', p, ?_, LG.obj, LG.lm, LG.hm, Nat.lt_of_lt_of_le pl (Nat.pow_le_pow_right (by decide : 0 < 2) (by decide : 8 ≤ 100000)), fun i hi => hn _ ((R' i).mp ((pb i).mp hi).2), fun G2 y s2 b => ?_⟩
            · show [V.ref o, V.int ((c' : Int) * 8), V.int (p : Int)] = _
              rw [show (c' : Int) * 8 = ((8 * c' : Nat) : Int) by omega]
            · obtain ⟨t1, t2, t3⟩ := tab.put vn pl b
              refine ⟨_, rfl, _, rfl, ts[c'], _, rfl, DPut.k (k := Sum.inl (p : Int)) (s2 _ _ hk) (by show _ < 2 ^ 24; have := tab.len; omega), ?_⟩
              rw [t1]
              exact hq _ _ ⟨_, y, rfl, (OG.same s2).put (List.mem_of_getElem? ct) _, (TG.same s2).put L.nd ct t2, upd_same, t3, b⟩
          · cases z : valV kvs (Sum.inl (p : Int)) with
            | none => rw [z] at e; exact absurd rfl e
            | some v =>
              obtain ⟨y, rfl, b⟩ := tab.get z
              exact hq _ _ ⟨kvs, y, rfl, OG, TG, hk, z, b⟩
        · rintro σ G2 ⟨kvs', y, rfl, O2, T2, hk2, hv, b⟩
          have dg := DGet.k (k := Sum.inl (p : Int)) hk2
          rw [hv] at dg
          refine ⟨_, rfl, _, rfl, _, rfl, ts[c'], _, rfl, dg, _, _, rfl, rfl, ?_⟩
          dsimp only
          rw [or_nn]
          refine ⟨_, rfl, _, _, rfl, rfl, by show (0 : Int) ≤ 8; decide, ?_⟩
          dsimp only
          rw [shr8_nat]
          refine ⟨_, rfl, _, _, rfl, rfl, ?_⟩
          subst hp
          refine ⟨⟨r' / 2 ^ (8 * 1), c' + 1, x ||| y, some (.int ((r' &&& 255 : Nat) : Int)), k5', some (.ref ts[c']), rfl, O2, T2, R'.div 1, F'.step R' b⟩, ?_⟩
          show (((r' / 2 ^ (8 * 1) : Nat) : Int)).toNat < ((r : Nat) : Int).toNat
          rw [Int.toNat_natCast, Int.toNat_natCast]
          have : r' / 2 ^ (8 * 1) < r' := Nat.div_lt_self rp' (by decide)
          omega
    · have rz : r = 0 := by
        refine Classical.byContradiction fun z => c1 ?_
        show ((r : Int) != 0) = true
        rw [bne_iff_ne]
        omega
      subst rz
      exact ⟨_, rfl, q G x OG TG (Fd.done R)⟩
  · rintro σ G Q1 Q2 hq ⟨x, hx, k, hk, h⟩
    exact ⟨x, hx, k, hk, hq _ _ h⟩
end
end K25
namespace K25
open PySem L2 GL KC KB KM PyProof.Rows
/-- e.f as one of several targets -/
def gFld (K : PySem.W.Frag) (to : TE) (f : Str) : TG := fun v σ H Q => to σ H fun x H1 => ∃ a C dx fs, x = .ref a ∧ H1 a = some (.ins C dx fs) ∧ Cls K C ∧ NoAttr K C f ∧ fs.length < 1000 ∧ Q σ (upd H1 a (.ins C dx (putF f v fs)))
theorem pg_fld {X : Cx} {o : Expr} {to : TE} {f : Str} {pos : Pos} (ho : PE X o to) : PG X (.Attribute o f pos) (gFld X.K to f) := by
  refine ⟨fun pins s σ H v u Q I r h => ?_⟩
  rw [arm_assign_Attribute]
  refine wpAny_bind (wpAny_holding (thn (ho.run pins s σ H _ I h) fun ov s1 ⟨x, H1, I1, r1, a, C, dx, fs, ex, ea, c, n, l, q1⟩ => ?_))
  subst ex
  obtain rfl : ov = Value.ref a := r1
  refine wpAny_bind (wpAny_standAt (wpAny_bind (wpAny_holding (setattr_ok I1 ea c n l r fun s3 I3 => ?_))))
  exact wpAny_release ⟨σ, _, I3, q1⟩
def fsL (m tb : Addr) (last fnd : Nat) : List (Str × V) := [("masks", .ref m), ("tables", .ref tb), ("last", .int (last : Int)), ("found", .int (fnd : Int))]
/-- an object of Links -/
structure RAt (C : Addr) (H : Hp) (o : Addr) (masks : List Nat) (ts : List Addr) (dx m tb : Addr) (last fnd : Nat) : Prop where
  lk : LkAt C H o masks ts dx m tb (fsL m tb last fnd)
  tabs : Tabs masks ts H
  fnd : Bits fnd (Img masks fun s => last.testBit s = true)
theorem RAt.ot {C : Addr} {H : Hp} {o : Addr} {masks : List Nat} {ts : List Addr} {dx m tb : Addr} {last fnd : Nat} (R : RAt C H o masks ts dx m tb last fnd) : o ∉ ts := R.tabs.not R.lk.obj fun _ h => nomatch h
theorem upd_upd {H : Hp} {a : Addr} {x y : HO} : upd (upd H a x) a y = upd H a y := funext fun b => by
  by_cases e : b = a
  · subst e; rw [upd_same, upd_same]
  · rw [upd_ne e, upd_ne e, upd_ne e]
/-- other numbers in it -/
theorem RAt.put {C : Addr} {H : Hp} {o : Addr} {masks : List Nat} {ts : List Addr} {dx m tb : Addr} {last fnd l' f' : Nat} (R : RAt C H o masks ts dx m tb last fnd) (b : Bits f' (Img masks fun s => l'.testBit s = true)) :
    RAt C (upd H o (.ins C dx (fsL m tb l' f'))) o masks ts dx m tb l' f' := by
  have k := R.lk
  have mo : m ≠ o := fun e => by have := k.hm; rw [e, k.obj] at this; cases this
  have to : tb ≠ o := fun e => by have := k.ht; rw [e, k.obj] at this; cases this
  refine ⟨⟨upd_same, rfl, rfl, rfl, by rw [upd_ne mo]; exact k.hm, by rw [upd_ne to]; exact k.ht, k.nd, k.len, k.big⟩, fun c t h => ?_, b⟩
  obtain ⟨kvs, h1, h2⟩ := R.tabs c t h
  have ne : t ≠ o := fun e => by rw [e, k.obj] at h1; cases h1
  exact ⟨kvs, by rw [upd_ne ne]; exact h1, h2⟩
theorem RAt.oth {C : Addr} {H G : Hp} {o : Addr} {masks : List Nat} {ts : List Addr} {dx m tb : Addr} {last fnd : Nat} (R : RAt C H o masks ts dx m tb last fnd) (e : Oth ts H G) (T : Tabs masks ts G) : RAt C G o masks ts dx m tb last fnd :=
  ⟨R.lk.oth R.tabs e, T, R.fnd⟩
theorem Oth.obj {ts : List Addr} {H G : Hp} {o : Addr} (a : Oth (o :: ts) H G) (u : HO) : Oth (o :: ts) H (upd G o u) := a.put List.mem_cons_self u
theorem Oth.cons {ts : List Addr} {H G G' : Hp} {o : Addr} (a : Oth (o :: ts) H G) (b : Oth ts G G') : Oth (o :: ts) H G' := fun x u h n => b _ _ (a x u h n) fun z => n (List.mem_cons_of_mem _ z)
def spReach (C : Addr) : Sp := fun vs H Q _ => ∃ (o dx m tb : Addr) (masks : List Nat) (ts : List Addr) (last fnd n : Nat), vs = [.ref o, .int (n : Int)] ∧ RAt C H o masks ts dx m tb last fnd ∧ (∀ i, n.testBit i = true → i < masks.length) ∧
  ∀ G x, Oth (o :: ts) H G → RAt C G o masks ts dx m tb n x → Q (.int (x : Int)) G
theorem in_or {X : Cx} : InOp X .BitOr (rI0 fun i j => .int (Builtin.bitOr i j)) := fun pins s σ H x y u v Q I rx ry h => iop_or pins s σ H x y u v Q I rx ry h
section
variable {P : Program} {w : World} {K : PySem.W.Frag} {mg : Str → Option Value} {base : Heap}
theorem scRe : FnScope ["self", "states"] ["self", "states"] (defScope sReach) := ⟨rfl, rfl, rfl, by decide +kernel, rfl, by decide +kernel, by decide +kernel⟩
theorem ok_reach {f fL C : Addr} {fd fdL : FuncData} (F : Fun K "reach" "Links.reach" sReach f fd) (kl : Kl K C) (mL : Meth K C "look_up" fL) (oL : FnOk P w K mg base CX0 3 fL fdL ["self", "states"] (spLook C)) (bL : L2.Binds K fdL ["self", "states"] []) :
    FnOk P w K mg base CX0 4 f fd ["self", "states"] (spReach C) := by
  refine F.ok scRe (fun vs H Q E h => ?_) (fun cdv A outer s H vs Q E hr h => ?_)
  · obtain ⟨o, dx, m, tb, masks, ts, last, fnd, n, rfl, _⟩ := h
    rfl
  obtain ⟨o, dx, m, tb, masks, ts, last, fnd, n, rfl, R, hn, q⟩ := h
  refine ⟨_, pss_cons (ps_if (pt_truth (pe_op op_and (pe_fld (pv 0) rfl) (pe_un un_inv (pv 1))) (by intro _; rfl)) (pss_one (ps_asg2 pe_int (pg_fld (pv 0)) (pg_fld (pv 0)))) pss_nil)
    (pss_cons (ps_fldaug (pv 0) (pe_meth (pv 0) kl.c mL oL hr bL .nil pass0 (pa_cons (pe_op op_and (pv 1) (pe_un un_inv (pe_fld (pv 0) rfl))) pa_nil)) in_or)
    (pss_cons (ps_fld (pv 0) (pv 1) rfl)
    (pss_one (ps_ret (pe_fld (pv 0) rfl))))), ?_⟩
  refine seq_cut (t := tIfS _ _ _) (fun σ G => σ = [some (.ref o), some (.int (n : Int))] ∧ ∃ l fn, RAt C G o masks ts dx m tb l fn ∧ (∀ i, l.testBit i = true → n.testBit i = true) ∧ Oth (o :: ts) H G) ?_ ?_
  · intro Q hq
    refine ⟨_, rfl, o, C, dx, _, _, rfl, R.lk.obj, kl.c, kl.last, rfl, _, rfl, _, rfl, _, _, rfl, rfl, _, rfl, ite2 (fun e => ?_) (fun e => ?_)⟩
    · refine ⟨_, rfl, o, C, dx, _, rfl, R.lk.obj, kl.c, kl.last, by show 4 < 1000; decide, _, rfl, o, C, dx, _, rfl, upd_same, kl.c, kl.found, by show 4 < 1000; decide, ?_⟩
      rw [upd_upd]
      have R0 : RAt C (upd H o (.ins C dx (fsL m tb 0 0))) o masks ts dx m tb 0 0 := R.put fun t => by simp [Img]
      have z0 : ∀ i, (0 : Nat).testBit i = true → n.testBit i = true := fun i h => by rw [Nat.zero_testBit] at h; cases h
      exact hq _ _ ⟨rfl, 0, 0, R0, z0, (Oth.refl _ H).obj _⟩
    · refine hq _ _ ⟨rfl, last, fnd, R, fun i h => ?_, Oth.refl _ H⟩
      have z : last - (last &&& n) = 0 := by
        refine Classical.byContradiction fun z => e ?_
        show (Builtin.bitAnd (last : Int) (Builtin.bitNot (n : Int)) != 0) = true
        rw [andnot_nn, bne_iff_ne]
        omega
      have := diff_bit last n i
      rw [z, Nat.zero_testBit, h] at this
      cases g : n.testBit i with
      | true => rfl
      | false => rw [g] at this; cases this
  · rintro σ G ⟨rfl, l, fn, R1, sub, O1⟩
    refine ⟨_, rfl, o, C, dx, _, _, rfl, R1.lk.obj, kl.c, kl.found, rfl, _, rfl, o, dx, _, rfl, R1.lk.obj, rfl, _, rfl, _, rfl, o, C, dx, _, _, rfl, R1.lk.obj, kl.c, kl.last, rfl, _, rfl, _, _, rfl, rfl, ?_⟩
    refine ⟨o, dx, m, tb, fsL m tb l fn, masks, ts, n - (n &&& l), ?_, R1.lk, R1.tabs, fun i h => ?_, fun G2 x O2 T2 b => ?_⟩
    · show [V.ref o, V.int (Builtin.bitAnd (n : Int) (Builtin.bitNot (l : Int)))] = _
      rw [andnot_nn]
    · rw [diff_bit, Bool.and_eq_true] at h
      exact hn i h.1
    · have R2 := R1.oth O2 T2
      refine ⟨_, _, rfl, rfl, dx, _, R2.lk.obj, by show 4 < 1000; decide, ?_⟩
      dsimp only
      rw [or_nn]
      refine ⟨_, rfl, _, rfl, o, C, dx, _, rfl, upd_same, kl.c, kl.last, by show 4 < 1000; decide, ?_⟩
      rw [upd_upd]
      have bb : Bits (fn ||| x) (Img masks fun s => n.testBit s = true) := by
        refine (R1.fnd.or b).congr fun t => ?_
        constructor
        · rintro (⟨s, k, h1, h2⟩ | ⟨s, k, h1, h2⟩)
          · exact ⟨s, k, sub s h1, h2⟩
          · rw [diff_bit, Bool.and_eq_true] at h1
            exact ⟨s, k, h1.1, h2⟩
        · rintro ⟨s, k, h1, h2⟩
          by_cases g : l.testBit s = true
          · exact .inl ⟨s, k, g, h2⟩
          · refine .inr ⟨s, k, ?_, h2⟩
            show (n - (n &&& l)).testBit s = true
            rw [diff_bit, h1, Bool.true_and]
            cases z : l.testBit s with
            | true => exact absurd z g
            | false => rfl
      have R3 := R2.put bb
      exact ⟨_, rfl, o, C, dx, _, _, rfl, upd_same, kl.c, kl.found, rfl, q _ _ ((O1.cons O2).obj _) R3⟩
end
end K25
namespace K25
open PySem L2 GL KC KB KM PyProof.Rows
def f1 (m : Addr) : List (Str × V) := [(("masks" : Str), V.ref m)]
theorem rgc8 (n : Nat) (h : n ≤ 1000) : RgC 0 (n : Int) 8 ((n + 7) / 8) := by
  have e : Builtin.Range.rangeSize 0 (n : Int) 8 = (((n + 7) / 8 : Nat) : Int) := by
    rw [rangeSize_pos (by decide) (by omega)]
    omega
  refine ⟨by decide, by decide, ?_, e⟩
  have b1 : (0 : Int) ≤ (((n + 7) / 8 : Nat) : Int) ∧ (((n + 7) / 8 : Nat) : Int) ≤ 2000 := by omega
  have b2 : (0 : Int) ≤ (n : Int) ∧ (n : Int) ≤ 1000 := by omega
  generalize (((n + 7) / 8 : Nat) : Int) = k at e b1
  generalize (n : Int) = i at e b2
  unfold Builtin.Range.small
  rw [e]
  simp only [Builtin.Range.rangeFitsLong, Bool.and_eq_true, Bool.or_eq_true, decide_eq_true_eq, beq_iff_eq, show (8 : Int) > 0 by decide, if_true]
  omega
def spMkL (C : Addr) : Sp := fun vs H Q _ => ∃ (o dx m : Addr) (masks : List Nat), vs = [.ref o, .ref m] ∧ H o = some (.ins C dx []) ∧ H m = some (.lst (nV masks)) ∧ masks.length ≤ 1000 ∧
  ∀ G tb ts, RAt C G o masks ts dx m tb 0 0 → Oth [o] H G → (∀ t ∈ ts, H t = none) → Q .non G
section
variable {P : Program} {w : World} {K : PySem.W.Frag} {mg : Str → Option Value} {base : Heap}
theorem scIn : FnScope ["self", "masks", "first"] ["self", "masks"] (defScope sInit) := ⟨rfl, rfl, rfl, by decide +kernel, rfl, by decide +kernel, by decide +kernel⟩
theorem ok_linit {u8 : Value} {f C : Addr} {fd : FuncData} (F : Fun K "__init__" "Links.__init__" sInit f fd) (kl : Kl K C) (m8 : mg "CHUNK" = some u8) (r8 : RelV (.int 8) u8) (TR : mg "range" = none) (TL : mg "len" = none) :
    FnOk P w K mg base CX0 1 f fd ["self", "masks"] (spMkL C) := by
  refine F.ok scIn (fun vs H Q E h => ?_) (fun cdv A outer s H vs Q E hr h => ?_)
  · obtain ⟨o, dx, m, masks, rfl, _⟩ := h
    rfl
  obtain ⟨o, dx, m, masks, rfl, ho, hm, hl, q⟩ := h
  refine ⟨_, pss_cons (ps_fld (pv 0) (pv 1) rfl)
    (pss_cons (ps_fld (pv 0) (pe_lc (own := [("first", 2)]) (g := gName 2) (tt := tYes) rfl scIn.nd (pi_range3 rfl TR (pa_cons pe_int (pa_cons (pe_callB call_lenS (by rfl) TL PySem.boot_len (pa_cons (pv 1) pa_nil)) (pa_cons (pe_glob (v := .int 8) rfl m8 r8) pa_nil))))
        (blkOk_by (own := [("first", 2)]) (N := ["self", "masks", "first"]) (sc := defScope sInit) (by decide +kernel)) (fun _ _ _ _ _ => pg_name (i := 2) scIn.nd rfl (Or.inl rfl)) (fun _ _ _ _ _ => pts_nil)
        (fun _ _ _ _ _ => pe_dnewK)) rfl)
    (pss_cons (ps_fld (pv 0) pe_int rfl)
    (pss_one (ps_fld (pv 0) pe_int rfl)))), ?_⟩
  have mo : m ≠ o := fun e => by rw [e, ho] at hm; cases hm
  refine ⟨_, rfl, _, rfl, o, C, dx, _, rfl, ho, kl.c, kl.masks, by show 0 < 1000; decide, ?_⟩
  have h1o : upd H o (.ins C dx (f1 m)) o = some (.ins C dx (f1 m)) := upd_same
  have h1m : upd H o (.ins C dx (f1 m)) m = some (.lst (nV masks)) := by rw [upd_ne mo]; exact hm
  have O1 : Oth [o] H (upd H o (.ins C dx (f1 m))) := (Oth.refl _ H).obj _
  have n1 : ∀ t, upd H o (.ins C dx (f1 m)) t = none → H t = none := fun t e => by
    by_cases c : t = o
    · rw [c, upd_same] at e; cases e
    · rwa [upd_ne c] at e
  have hh : putF ("masks" : Str) (V.ref m) [] = f1 m := rfl
  rw [hh]
  generalize upd H o (.ins C dx (f1 m)) = H1 at h1o h1m O1 n1
  refine ⟨_, rfl, m, nV masks, rfl, .inl (.inl (.inl h1m)), 0, masks.length, 8, (masks.length + 7) / 8, by rw [show (nV masks).length = masks.length from List.length_map _], rgc8 _ hl, fun D nD => lc_it walk_rangeC
    (fun k G => Same H1 G ∧ ∃ ts : List Addr, G D = some (.lst (ts.map V.ref)) ∧ ts.length = k ∧ ts.Nodup ∧ ∀ t ∈ ts, H1 t = none ∧ t ≠ D ∧ G t = some (.dK []))
    ⟨same_new nD _, [], upd_same, rfl, List.nodup_nil, fun d h => nomatch h⟩ (fun _ _ _ _ => True.intro) ?_ ?_⟩
  · rintro i x G _ il ⟨sG, ts, gS, dl, nd, hd⟩ ⟨rfl, rfl⟩
    refine ⟨rfl, fun d hdn => ?_⟩
    have dS : d ≠ D := fun e => by rw [e, gS] at hdn; cases hdn
    refine ⟨ts.map V.ref, by rw [upd_ne (Ne.symm dS)]; exact gS, by rw [List.length_map]; show _ < 2 ^ 24; omega, same_grow nD (sG.trans (same_new hdn _)) _, ts ++ [d], by rw [upd_same, List.map_append]; rfl, by rw [List.length_append, dl]; rfl, ?_, fun e he => ?_⟩
    · rw [List.nodup_append]
      refine ⟨nd, by simp, fun a ha b hb => ?_⟩
      rw [List.mem_singleton.mp hb]
      intro e
      have := (hd a ha).2.2
      rw [e, hdn] at this
      cases this
    · rcases List.mem_append.mp he with he | he
      · obtain ⟨h1, h2, h3⟩ := hd e he
        have ed : e ≠ d := fun z => by rw [z, hdn] at h3; cases h3
        exact ⟨h1, h2, by rw [upd_ne h2, upd_ne ed]; exact h3⟩
      · rw [List.mem_singleton.mp he]
        exact ⟨sG.free hdn, dS, by rw [upd_ne dS, upd_same]⟩
  · rintro G ⟨sG, ts, gS, dl, nd, hd⟩
    refine ⟨_, rfl, o, C, dx, _, rfl, sG _ _ h1o, kl.c, kl.tables, by show 1 < 1000; decide, ?_⟩
    refine ⟨_, rfl, o, C, dx, _, rfl, upd_same, kl.c, kl.last, by show 2 < 1000; decide, ?_⟩
    rw [upd_upd]
    refine ⟨_, rfl, o, C, dx, _, rfl, upd_same, kl.c, kl.found, by show 3 < 1000; decide, ?_⟩
    rw [upd_upd]
    have Do : D ≠ o := fun e => by rw [e, h1o] at nD; cases nD
    have R : RAt C (upd G o (.ins C dx (fsL m D 0 0))) o masks ts dx m D 0 0 := by
      refine ⟨⟨upd_same, rfl, rfl, rfl, by rw [upd_ne mo]; exact sG _ _ h1m, by rw [upd_ne Do]; exact gS, nd, by omega, hl⟩, fun c t h => ?_, fun t => by simp [Img]⟩
      obtain ⟨h1, _, h3⟩ := hd t (List.mem_of_getElem? h)
      have ne : t ≠ o := fun e => by rw [e, h1o] at h1; cases h1
      exact ⟨[], by rw [upd_ne ne]; exact h3, List.nodup_nil, fun _ h => nomatch h⟩
    exact q _ D ts R ((O1.same sG).obj _) fun t ht => n1 t (hd t ht).1
end
end K25
namespace K25
open PySem L2 GL KC KB KM GZ PyProof.Rows
/-- xs[i], read ahead of xs[i] op= .. -/
def rGet : V → V → Hp → VK → Prop := fun o i H Q => ∃ (p : Addr) (xs : List V) (j : Nat) (v : V), o = .ref p ∧ i = .int (j : Int) ∧ H p = some (.lst xs) ∧ xs[j]? = some v ∧ Q v H
theorem get_list {X : Cx} : PGet X rGet := by
  intro pins s σ H o i ov iv Q I ro ri h
  obtain ⟨p, xs, j, v, rfl, rfl, hp, hj, q⟩ := h
  cases ro
  obtain ⟨t, rfl⟩ := ri
  obtain ⟨its, r, pl, hz⟩ := I.list (.inl (.inl hp))
  obtain ⟨w, ew, rw'⟩ := r.get hj
  have hl := r.length
  have hn := line63
  have jl := (List.getElem?_eq_some_iff.mp hj).1
  refine getItem_listL (x := w) pl.isList (by omega) (by omega) (by rw [Int.toNat_natCast]; exact ew) ⟨v, H, I, rw', q⟩
theorem ip_and {X : Cx} : PIp X .BitAnd (rI0 fun i j => .int (Builtin.bitAnd i j)) := fun pins s σ H x y v u Q I r1 r2 h => iop_and pins s σ H x y v u Q I r1 r2 h
def NLy : List Str := ["goals", "ends", "length", "ahead", "layers", "place", "back", "row", "state", "end"]
/-- goals that belong to rows -/
def Goals (rows : Rows) (gl : List (List Nat)) : Prop := ∀ s t, t ∈ gl.getD s [] ↔ ∃ j, stepM rows s j = some t
def spLayers (K : PySem.W.Frag) : Sp := fun vs H Q _ => ∃ (Lg pe : Addr) (k1 : Kd) (rs : List Addr) (gl : List (List Nat)) (rows : Rows) (ends : List Bool) (len : Nat), vs = [.ref Lg, .ref pe, .int (len : Int)] ∧ H Lg = some (.lst (rs.map V.ref)) ∧ ListsAt H rs (fun t => gl.getD t []) ∧ gl.length = rs.length ∧ gl.length ≤ 1000 ∧
  (∀ r ∈ gl, r.length ≤ 4 ∧ ∀ t ∈ r, t < gl.length) ∧ 0 < gl.length ∧ (∀ G, Same H G → Src K G k1 (.ref pe) (ends.map V.bl)) ∧ ends.length = gl.length ∧ Goals rows gl ∧ len ≤ 100000 ∧
  ∀ L G ls, Same H G → G L = some (.lst (nV ls)) → ls.length = len + 1 → (∀ p x, ls[p]? = some x → Bits x (InL rows ends p (len - p)) ∧ ∀ s, x.testBit s = true → s < gl.length) → Q (.ref L) G
theorem ixN_n {n j : Nat} (h : j < n) : ixN n (j : Int) = some j := by
  unfold ixN
  rw [if_pos (by omega), if_pos (by omega), Int.toNat_natCast]
theorem nV_set (ls : List Nat) (j z : Nat) : (nV ls).set j (V.int (z : Int)) = nV (ls.set j z) := by
  unfold nV
  rw [List.map_set]
theorem nV_get {ls : List Nat} {j x : Nat} (h : ls[j]? = some x) : (nV ls)[j]? = some (V.int (x : Int)) := by
  unfold nV
  rw [List.getElem?_map, h]
  rfl
/-- the layers behind i turns from the end -/
def Lay (rows : Rows) (ends : List Bool) (len i p : Nat) (s : Nat) : Prop := if p < len - i then Fwd rows p s else InL rows ends p (len - p) s
theorem Lay.fwd {rows : Rows} {ends : List Bool} {len i p s : Nat} (h : Lay rows ends len i p s) : Fwd rows p s := by
  unfold Lay at h
  split at h
  · exact h
  · exact h.1
theorem set_get {ls : List Nat} {j z p x : Nat} (h : (ls.set j z)[p]? = some x) : (p = j ∧ x = z) ∨ (p ≠ j ∧ ls[p]? = some x) := by
  by_cases e : j = p
  · subst e
    have hl := (List.getElem?_eq_some_iff.mp h).1
    rw [List.length_set] at hl
    rw [List.getElem?_set_self hl] at h
    cases h
    exact .inl ⟨rfl, rfl⟩
  · rw [List.getElem?_set_ne e] at h
    exact .inr ⟨fun z => e z.symm, h⟩
theorem img_fwd {rows : Rows} {gl : List (List Nat)} (hG : Goals rows gl) {ms : List Nat} (hm : ∀ s k, ms[s]? = some k → Bits k (· ∈ gl.getD s [])) (hl : gl.length ≤ ms.length) {p x : Nat} (b : Bits x (Fwd rows p)) :
    ∀ t, Img ms (fun s => x.testBit s = true) t ↔ Fwd rows (p + 1) t := fun t => by
  rw [fwd_succ]
  constructor
  · rintro ⟨s, k, h1, h2, h3⟩
    obtain ⟨j, hj⟩ := (hG s t).mp ((hm s k h2 t).mp h3)
    exact ⟨s, j, (b s).mp h1, hj⟩
  · rintro ⟨s, j, h1, h2⟩
    have ht := (hG s t).mpr ⟨j, h2⟩
    have sl : s < gl.length := Classical.byContradiction fun z => by
      rw [List.getD_eq_getElem?_getD, List.getElem?_eq_none (by omega)] at ht
      cases ht
    have e : ms[s]? = some ms[s] := List.getElem?_eq_getElem (by omega)
    exact ⟨s, _, (b s).mpr h1, e, (hm s _ e t).mpr ht⟩
theorem goals_lt {gl : List (List Nat)} (hg : ∀ r ∈ gl, r.length ≤ 4 ∧ ∀ t ∈ r, t < gl.length) {s t : Nat} (h : t ∈ gl.getD s []) : t < gl.length ∧ s < gl.length := by
  have sl : s < gl.length := Classical.byContradiction fun z => by
    rw [List.getD_eq_getElem?_getD, List.getElem?_eq_none (by omega)] at h
    cases h
  rw [List.getD_eq_getElem?_getD, List.getElem?_eq_getElem sl] at h
  exact ⟨(hg _ (List.getElem_mem sl)).2 t h, sl⟩
theorem fwd_lt {rows : Rows} {gl : List (List Nat)} (hG : Goals rows gl) (hg : ∀ r ∈ gl, r.length ≤ 4 ∧ ∀ t ∈ r, t < gl.length) (gp : 0 < gl.length) : ∀ p s, Fwd rows p s → s < gl.length
  | 0, s, h => by rw [(fwd_zero rows s).mp h]; exact gp
  | p + 1, s, h => by
    obtain ⟨s', j, _, h2⟩ := (fwd_succ rows p s).mp h
    exact (goals_lt hg ((hG s' s).mpr ⟨j, h2⟩)).1
theorem made_same {G G2 : Hp} {o dx : Addr} {u v : HO} (no : G o = none) (nd : G dx = none) (O1 : Oth [o] (upd (upd G dx u) o v) G2) : Same G G2 := fun b w h => by
  have bo : b ≠ o := fun e => by rw [e, no] at h; cases h
  have bd : b ≠ dx := fun e => by rw [e, nd] at h; cases h
  exact O1 b w (by rw [upd_ne bo, upd_ne bd]; exact h) fun z => bo (List.mem_singleton.mp z)
theorem made_none {G : Hp} {o dx t : Addr} {u v : HO} (h : upd (upd G dx u) o v t = none) : G t = none := by
  by_cases e : t = o
  · rw [e, upd_same] at h; cases h
  · rw [upd_ne e] at h
    by_cases e2 : t = dx
    · rw [e2, upd_same] at h; cases h
    · rwa [upd_ne e2] at h
theorem RAt.same {C : Addr} {H G : Hp} {o : Addr} {masks : List Nat} {ts : List Addr} {dx m tb : Addr} {last fnd : Nat} (R : RAt C H o masks ts dx m tb last fnd) (e : Same H G) : RAt C G o masks ts dx m tb last fnd :=
  R.oth ((Oth.refl ts H).same e) (R.tabs.same e)
/-- a list that is none of its parts -/
def Apart (L o m tb : Addr) (ts : List Addr) : Prop := L ≠ o ∧ L ≠ m ∧ L ≠ tb ∧ L ∉ ts
theorem RAt.apart {C : Addr} {H : Hp} {o L : Addr} {masks : List Nat} {ts : List Addr} {dx m tb : Addr} {last fnd : Nat} (R : RAt C H o masks ts dx m tb last fnd) (n : H L = none) : Apart L o m tb ts := by
  refine ⟨fun e => ?_, fun e => ?_, fun e => ?_, fun h => ?_⟩
  · rw [e, R.lk.obj] at n; cases n
  · rw [e, R.lk.hm] at n; cases n
  · rw [e, R.lk.ht] at n; cases n
  · obtain ⟨c, hc, e⟩ := List.mem_iff_getElem.mp h
    obtain ⟨kvs, h1, _⟩ := R.tabs c L (by rw [List.getElem?_eq_getElem hc, e])
    rw [n] at h1
    cases h1
theorem RAt.upd {C : Addr} {H : Hp} {o L : Addr} {masks : List Nat} {ts : List Addr} {dx m tb : Addr} {last fnd : Nat} (R : RAt C H o masks ts dx m tb last fnd) (a : Apart L o m tb ts) (u : HO) : RAt C (upd H L u) o masks ts dx m tb last fnd := by
  obtain ⟨a1, a2, a3, a4⟩ := a
  have k := R.lk
  refine ⟨⟨by rw [upd_ne (Ne.symm a1)]; exact k.obj, k.lm, k.lt, k.lg, by rw [upd_ne (Ne.symm a2)]; exact k.hm, by rw [upd_ne (Ne.symm a3)]; exact k.ht, k.nd, k.len, k.big⟩, fun c t h => ?_, R.fnd⟩
  obtain ⟨kvs, h1, h2⟩ := R.tabs c t h
  exact ⟨kvs, by rw [upd_ne fun e => a4 (by rw [← e]; exact List.mem_of_getElem? h)]; exact h1, h2⟩
/-- what stood before the object and its tables were made stands still -/
theorem same_oth {H G G2 : Hp} {o : Addr} {ts : List Addr} (no : H o = none) (nt : ∀ t ∈ ts, H t = none) (s : Same H G) (O : Oth (o :: ts) G G2) : Same H G2 := fun b u h => by
  refine O b u (s b u h) fun hb => ?_
  rcases List.mem_cons.mp hb with e | e
  · rw [e, no] at h; cases h
  · rw [nt b e] at h; cases h
section
variable {P : Program} {w : World} {K : PySem.W.Frag} {mg : Str → Option Value} {base : Heap}
theorem scLy : FnScope NLy ["goals", "ends", "length"] (defScope sLayers) := ⟨rfl, rfl, rfl, by decide +kernel, rfl, by decide +kernel, by decide +kernel⟩
theorem ok_layers {f fI fR fS fT C : Addr} {fd fdI fdR fdS fdT : FuncData} (F : Fun K "word_layers" "word_layers" sLayers f fd) (kl : Kl K C)
    (mk : Mk K C fI) (oI : FnOk P w K mg base CX0 1 fI fdI ["self", "masks"] (spMkL C)) (bI : L2.Binds K fdI ["self", "masks"] []) (mC : mg "Links" = some (.ref C))
    (mR : Meth K C "reach" fR) (oR : FnOk P w K mg base CX0 4 fR fdR ["self", "states"] (spReach C)) (bR : L2.Binds K fdR ["self", "states"] [])
    (SO : Dfn P w K mg base "set_of" 1 fS fdS ["states"] spSetOf) (TU : Dfn P w K mg base "turned" 1 fT fdT ["goals"] spTurned)
    (TE : mg "enumerate" = none) (TR : mg "range" = none) (TV : mg "reversed" = none) : FnOk P w K mg base CX0 5 f fd ["goals", "ends", "length"] (spLayers K) := by
  refine F.ok scLy (fun vs H Q E h => ?_) (fun cdv A outer s H vs Q E hr h => ?_)
  · obtain ⟨Lg, pe, k1, rs, gl, rows, ends, len, rfl, _⟩ := h
    rfl
  obtain ⟨Lg, pe, k1, rs, gl, rows, ends, len, rfl, hL, hR, hl, hn, hg, gp, hsrc, he, hG, hlen, q⟩ := h
  have hr1 := hr.mono (j := 1) (by decide)
  have hr2 := hr.mono (j := 1 + 1) (by decide)
  refine ⟨_, pss_cons (ps_set (i := 3) scLy.nd rfl (Or.inl rfl) (pe_make mk oI hr2 rfl mC bI .nil pass0 (pa_cons (pe_lc (own := [("row", 7)]) (g := gName 7) (tt := tYes) rfl scLy.nd (pi_list (pv 0))
        (blkOk_by (own := [("row", 7)]) (N := NLy) (sc := defScope sLayers) (by decide +kernel)) (fun _ _ _ _ _ => pg_name (i := 7) scLy.nd rfl (Or.inl rfl)) (fun _ _ _ _ _ => pts_nil)
        (fun _ _ _ _ _ => pe_call SO.ok hr1 rfl SO.m SO.kp SO.b .nil pass0 (pa_cons (pv 7) pa_nil))) pa_nil)))
    (pss_cons (ps_set (i := 4) scLy.nd rfl (Or.inl rfl) (pe_lst (pa_cons pe_int pa_nil)))
    (pss_cons (ps_for PassesOwn.never rfl (pi_range1 rfl TR (pa_cons (pv 2) pa_nil)) (pg_name (i := 5) scLy.nd rfl (Or.inl rfl))
      (pss_one (ps_expr (pe_bm PySem.F.plainAttrs_list PySem.F.slot_list_append PySem.F.type_list_append mt_append (pv 4) (pa_cons (pe_meth (pv 3) kl.c mR oR (hr.mono (by decide)) bR .nil pass0 (pa_cons (pe_ix ix_list (pv 4) (pv 5) (fun _ _ => rfl)) pa_nil)) pa_nil)))))
    (pss_cons (ps_set (i := 6) scLy.nd rfl (Or.inl rfl) (pe_make mk oI hr2 rfl mC bI .nil pass0 (pa_cons (pe_lc (own := [("row", 7)]) (g := gName 7) (tt := tYes) rfl scLy.nd (pi_list (pe_call TU.ok hr1 rfl TU.m TU.kp TU.b .nil pass0 (pa_cons (pv 0) pa_nil)))
        (blkOk_by (own := [("row", 7)]) (N := NLy) (sc := defScope sLayers) (by decide +kernel)) (fun _ _ _ _ _ => pg_name (i := 7) scLy.nd rfl (Or.inl rfl)) (fun _ _ _ _ _ => pts_nil)
        (fun _ _ _ _ _ => pe_call SO.ok hr1 rfl SO.m SO.kp SO.b .nil pass0 (pa_cons (pv 7) pa_nil))) pa_nil)))
    (pss_cons (ps_augS (pv 4) (pv 2) get_list (pe_call SO.ok hr1 rfl SO.m SO.kp SO.b .nil pass0 (pa_cons (pe_lc (own := [("state", 8), ("end", 9)]) (g := gTup K 2 (gCons (gName 8) (gCons (gName 9) gNil))) rfl scLy.nd (pi_e rfl TE (pa_cons (pv 1) pa_nil))
        (blkOk_by (own := [("state", 8), ("end", 9)]) (N := NLy) (sc := defScope sLayers) (by decide +kernel)) (fun _ _ _ _ _ => show PG _ _ (gTup K 2 _) from pg_tup rfl (pgs_cons (pg_name (i := 8) scLy.nd rfl (Or.inl rfl)) (pgs_cons (pg_name (i := 9) scLy.nd rfl (Or.inl rfl)) pgs_nil))) (fun _ _ _ _ _ => pts_one (pt_val (pv 9)))
        (fun _ _ _ _ _ => pv 8)) pa_nil)) ip_and set_list)
    (pss_cons (ps_for PassesOwn.never rfl (pi_revR rfl TV (prg_1 rfl TR (pv 2))) (pg_name (i := 5) scLy.nd rfl (Or.inl rfl))
      (pss_one (ps_augS (pv 4) (pv 5) get_list (pe_meth (pv 6) kl.c mR oR (hr.mono (by decide)) bR .nil pass0 (pa_cons (pe_ix ix_list (pv 4) (pe_op op_add (pv 5) pe_int) (fun _ _ => rfl)) pa_nil)) ip_and set_list)))
    (pss_one (ps_ret (pv 4)))))))), ?_⟩
  refine ⟨_, rfl, Lg, rfl, ⟨_, .inl (.inl hL)⟩, fun D nD => lc_list (K := K) (a := Lg) (xs := rs.map V.ref) (fun k G => Same H G ∧ ∃ ms : List Nat, G D = some (.lst (nV ms)) ∧ ms.length = k ∧ ∀ s x, ms[s]? = some x → Bits x (· ∈ gl.getD s []))
    ⟨same_new nD _, [], upd_same, rfl, fun s x h => by simp at h⟩ (fun k G _ h => .inl (.inl (h.1 _ _ hL))) ?_ ?_⟩
  · rintro i x G hx ⟨sG, ms, gD, dl, hb⟩
    rw [List.getElem?_map] at hx
    cases er : rs[i]? with
    | none => rw [er] at hx; cases hx
    | some r =>
      rw [er] at hx
      cases hx
      have il : i < rs.length := (List.getElem?_eq_some_iff.mp er).1
      refine ⟨rfl, _, rfl, r, gl.getD i [], rfl, sG _ _ (hR i r er), fun t ht => by have := (goals_lt hg ht).1; omega, fun G2 y s2 b => ?_⟩
      refine ⟨nV ms, s2 _ _ gD, by unfold nV; rw [List.length_map]; show _ < 2 ^ 24; omega, same_grow nD (sG.trans s2) _, ms ++ [y], by rw [upd_same]; unfold nV; rw [List.map_append]; rfl, by rw [List.length_append, dl]; rfl, fun s x h => ?_⟩
      rcases Nat.lt_or_ge s ms.length with c | c
      · rw [List.getElem?_append_left c] at h
        exact hb s x h
      · rw [List.getElem?_append_right c] at h
        have e0 : s - ms.length = 0 := by
          have := (List.getElem?_eq_some_iff.mp h).1
          simp at this
          omega
        rw [e0] at h
        cases h
        rwa [show s = i by omega]
  rintro G ⟨sG, ms, gD, dl, hb⟩
  rw [List.length_map] at dl
  refine fun o dx no nd ne => ⟨o, dx, D, ms, rfl, upd_same, ?_, by omega, fun G2 tb ts R1 O1 nt => ⟨rfl, ?_⟩⟩
  · rw [upd_ne (fun e => by rw [e, no] at gD; cases gD), upd_ne (fun e => by rw [e, nd] at gD; cases gD)]
    exact gD
  have s2 := sG.trans (made_same no nd O1)
  have no' := sG.free no
  have nt' : ∀ t ∈ ts, H t = none := fun t ht => sG.free (made_none (nt t ht))
  dsimp only [gName]
  refine ⟨by show 1 ≤ 2 ^ 24; decide, fun L nL => ?_⟩
  have ap := R1.apart nL
  have nL' := s2.free nL
  have R2 := R1.same (same_new nL (.lst [V.int 1]))
  have s3 := s2.trans (same_new nL (.lst [V.int 1]))
  have gL : upd G2 L (.lst [V.int 1]) L = some (.lst (nV [1])) := upd_same
  dsimp only [gName]
  generalize upd G2 L (.lst [V.int 1]) = G3 at R2 s3 gL
  refine ⟨_, rfl, len, rfl, by omega, by omega, for_range (lo := 0) (n := len) (fun i σ G => ∃ (ls : List Nat) (l f : Nat) (k5 : Option V), σ = [some (.ref Lg), some (.ref pe), some (.int (len : Int)), some (.ref o), some (.ref L), k5, none, none, none, none] ∧ Same H G ∧ RAt C G o ms ts dx D tb l f ∧
      G L = some (.lst (nV ls)) ∧ ls.length = i + 1 ∧ ∀ p x, ls[p]? = some x → Bits x (Fwd rows p)) ⟨[1], 0, 0, none, rfl, s3, R2, gL, rfl, fun p x h => ?_⟩ ?_ ?_⟩
  · cases p with
    | zero => cases h; exact Bits.one.congr fun s => (fwd_zero rows s).symm
    | succ p => simp at h
  · rintro i σ G il ⟨ls, l, f, k5, rfl, sG, R, gL, ll, hb2⟩
    have ei : ls[i]? = some ls[i] := List.getElem?_eq_getElem (by omega)
    have bi := hb2 i _ ei
    refine ⟨_, rfl, .inl ⟨rfl, _, .inl (.inl gL)⟩, _, rfl, o, dx, _, rfl, R.lk.obj, rfl, _, rfl, _, rfl, L, nV ls, (0 + (i : Int)), .int (ls[i] : Nat), rfl, rfl, .inl (.inl gL), ?_, ?_⟩
    · rw [Int.zero_add]
      refine atI_nat ?_
      unfold nV
      rw [List.getElem?_map, ei]
      rfl
    refine ⟨o, dx, D, tb, ms, ts, l, f, ls[i], rfl, R, fun s h => by rw [dl, ← hl]; exact fwd_lt hG hg gp i s ((bi s).mp h), fun G4 y O4 R4 => ?_⟩
    have gL4 : G4 L = some (.lst (nV ls)) := O4 L _ gL fun h => by
      rcases List.mem_cons.mp h with e | e
      · exact ap.1 e
      · exact ap.2.2.2 e
    refine ⟨L, nV ls, .int (y : Int), rfl, rfl, gL4, by unfold nV; rw [List.length_map]; show _ < 2 ^ 24; omega, ls ++ [y], ls[i], y, _, rfl, same_grow nL' (same_oth no' nt' sG O4) _, R4.upd ap _, by rw [upd_same]; unfold nV; rw [List.map_append]; rfl, by rw [List.length_append, ll]; rfl, fun p x h => ?_⟩
    rcases Nat.lt_or_ge p ls.length with c | c
    · rw [List.getElem?_append_left c] at h
      exact hb2 p x h
    · rw [List.getElem?_append_right c] at h
      have e0 : p - ls.length = 0 := by
        have := (List.getElem?_eq_some_iff.mp h).1
        simp at this
        omega
      rw [e0] at h
      cases h
      rw [show p = i + 1 by omega]
      exact R4.fnd.congr (img_fwd hG hb (by omega) bi)
  rintro σ G ⟨ls, l, f, k5, rfl, sG, R, gL, ll, hb2⟩
  refine ⟨_, rfl, Lg, rs, gl, rfl, sG _ _ hL, fun t d h => sG _ _ (hR t d h), hl, hn, hg, fun S G5 ds F' s5 gS dsl hF hmem _ => ⟨S, rfl, ⟨_, .inl (.inl gS)⟩, fun D2 nD2 => lc_list (K := K) (a := S) (xs := ds.map V.ref) (fun k G => Same G5 G ∧ ∃ ms : List Nat, G D2 = some (.lst (nV ms)) ∧ ms.length = k ∧ ∀ s x, ms[s]? = some x → Bits x (· ∈ F' s))
    ⟨same_new nD2 _, [], upd_same, rfl, fun s x h => by simp at h⟩ (fun k G _ h => .inl (.inl (h.1 _ _ gS))) ?_ ?_⟩⟩
  · rintro i x G hx ⟨sG, ms, gD, dl, hb⟩
    rw [List.getElem?_map] at hx
    cases er : ds[i]? with
    | none => rw [er] at hx; cases hx
    | some r =>
      rw [er] at hx
      cases hx
      have il : i < ds.length := (List.getElem?_eq_some_iff.mp er).1
      refine ⟨rfl, _, rfl, r, F' i, rfl, sG _ _ (hF i r er), fun t ht => by have := (goals_lt hg ((hmem i t).mp ht)).2; omega, fun G2 y s2 b => ?_⟩
      refine ⟨nV ms, s2 _ _ gD, by unfold nV; rw [List.length_map]; show _ < 2 ^ 24; omega, same_grow nD2 (sG.trans s2) _, ms ++ [y], by rw [upd_same]; unfold nV; rw [List.map_append]; rfl, by rw [List.length_append, dl]; rfl, fun s x h => ?_⟩
      rcases Nat.lt_or_ge s ms.length with c | c
      · rw [List.getElem?_append_left c] at h
        exact hb s x h
      · rw [List.getElem?_append_right c] at h
        have e0 : s - ms.length = 0 := by
          have := (List.getElem?_eq_some_iff.mp h).1
          simp at this
          omega
        rw [e0] at h
        cases h
        rwa [show s = i by omega]
  rintro G6 ⟨s6, mb, gD2, dl2, hbb⟩
  rw [List.length_map] at dl2
  refine fun o2 dx2 no2 nd2 ne2 => ⟨o2, dx2, D2, mb, rfl, upd_same, ?_, by omega, fun G7 tb2 ts2 R7 O7 nt7 => ⟨rfl, ?_⟩⟩
  · rw [upd_ne (fun e => by rw [e, no2] at gD2; cases gD2), upd_ne (fun e => by rw [e, nd2] at gD2; cases gD2)]
    exact gD2
  have s7 := (s5.trans s6).trans (made_same no2 nd2 O7)
  have nr : o2 ≠ L ∧ L ∉ ts2 := by
    refine ⟨fun e => ?_, fun h => ?_⟩
    · have := (s5.trans s6) _ _ gL
      rw [← e, no2] at this
      cases this
    · have := made_none (nt7 L h)
      rw [(s5.trans s6) _ _ gL] at this
      cases this
  have ap2 : Apart L o2 D2 tb2 ts2 := by
    refine ⟨Ne.symm nr.1, fun e => ?_, fun e => ?_, nr.2⟩
    · have := s5 _ _ gL
      rw [e, nD2] at this
      cases this
    · have := s7 _ _ gL
      rw [e, R7.lk.ht] at this
      have h2 : ts2.map V.ref = nV ls := by injection this with h; injection h
      match ls, ll, h2 with
      | a :: r, _, h2 =>
        match ts2, h2 with
        | [], h2 => cases h2
        | t :: u, h2 => injection h2 with h3 _; cases h3
  have gL7 := s7 _ _ gL
  have sH7 := sG.trans s7
  have no2' : H o2 = none := (sG.trans (s5.trans s6)).free no2
  have nt2' : ∀ t ∈ ts2, H t = none := fun t ht => (sG.trans (s5.trans s6)).free (made_none (nt7 t ht))
  dsimp only [gName]
  have el : ls[len]? = some ls[len] := List.getElem?_eq_getElem (by omega)
  have bl := hb2 len _ el
  refine ⟨_, rfl, _, rfl, L, nV ls, len, .int (ls[len] : Nat), rfl, rfl, gL7, by unfold nV; rw [List.getElem?_map, el]; rfl, ?_⟩
  refine ⟨_, rfl, .ref pe, k1, ends.map V.bl, rfl, hsrc _ sH7, fun E1 nE => lc_it walk_N (fun k G => Same G7 G ∧ ∃ es : List Nat, G E1 = some (.lst (nV es)) ∧ es.length ≤ k ∧ ∀ s, s ∈ es ↔ s < k ∧ ends.getD s false = true)
    ⟨same_new nE _, [], upd_same, Nat.le_refl _, fun s => by simp⟩ (fun k G _ h => hsrc _ (sH7.trans h.1)) ?_ ?_⟩
  · rintro i x G8 G9 il ⟨s8, es, gE, elen, hes⟩ ⟨T, r, rfl, nT, rfl, er⟩
    obtain ⟨y, hy, rfl⟩ := rowE_of er
    rw [List.getElem?_map] at hy
    cases eb : ends[i]? with
    | none => rw [eb] at hy; cases hy
    | some b =>
      rw [eb] at hy
      cases hy
      have s9 := s8.trans (same_new nT (.tup [.int (i : Nat), .bl b]))
      have gE9 := same_new nT (.tup [.int (i : Nat), .bl b]) _ _ gE
      refine ⟨T, _, rfl, .inl (.inl upd_same), rfl, ?_⟩
      generalize upd G8 T (.tup [.int (i : Nat), .bl b]) = G9 at s9 gE9
      have bd : ends.getD i false = b := by rw [List.getD_eq_getElem?_getD, eb]; rfl
      have il' : i < 1000 := by
        have := (List.getElem?_eq_some_iff.mp eb).1
        omega
      refine ⟨_, _, rfl, _, _, rfl, rfl, rfl, _, rfl, b, rfl, ?_⟩
      cases b with
      | true =>
        refine ⟨_, rfl, nV es, gE9, by unfold nV; rw [List.length_map]; show _ < 2 ^ 24; omega, same_grow nE s9 _, es ++ [i], by rw [upd_same]; unfold nV; rw [List.map_append]; rfl, by rw [List.length_append, List.length_singleton]; omega, fun s => ?_⟩
        rw [List.mem_append, hes, List.mem_singleton]
        constructor
        · rintro (⟨a, c⟩ | rfl)
          · exact ⟨by omega, c⟩
          · exact ⟨by omega, bd⟩
        · rintro ⟨a, c⟩
          rcases Nat.lt_or_ge s i with z | z
          · exact .inl ⟨z, c⟩
          · exact .inr (by omega)
      | false =>
        refine ⟨s9, es, gE9, by omega, fun s => ?_⟩
        rw [hes]
        constructor
        · rintro ⟨a, c⟩
          exact ⟨by omega, c⟩
        · rintro ⟨a, c⟩
          refine ⟨Classical.byContradiction fun z => ?_, c⟩
          rw [show s = i by omega, bd] at c
          cases c
  rintro G8 ⟨s8, es, gE, elen, hes⟩
  rw [List.length_map] at elen hes
  refine ⟨E1, es, rfl, gE, fun t ht => by have := ((hes t).mp ht).1; omega, fun G9 y s9 by9 => ?_⟩
  have s89 := s8.trans s9
  have gL9 := s89 _ _ gL7
  refine ⟨_, _, rfl, rfl, L, nV ls, (len : Int), len, rfl, rfl, gL9, ixN_n (by unfold nV; rw [List.length_map]; omega), ?_⟩
  dsimp only
  rw [and_nn]
  rw [nV_set]
  have R9 := (R7.same s89).upd ap2 (.lst (nV (ls.set len (ls[len] &&& y))))
  have s10 : Same H (upd G9 L (.lst (nV (ls.set len (ls[len] &&& y))))) := same_grow nL' (sH7.trans s89) _
  have gL10 : upd G9 L (.lst (nV (ls.set len (ls[len] &&& y)))) L = some (.lst (nV (ls.set len (ls[len] &&& y)))) := upd_same
  generalize upd G9 L (.lst (nV (ls.set len (ls[len] &&& y)))) = G10 at R9 s10 gL10
  have l10 : (ls.set len (ls[len] &&& y)).length = len + 1 := by rw [List.length_set, ll]
  have b10 : ∀ p x, (ls.set len (ls[len] &&& y))[p]? = some x → Bits x (Lay rows ends len 0 p) := fun p x h => by
    rcases set_get h with ⟨rfl, rfl⟩ | ⟨np, h⟩
    · refine (bl.and by9).congr fun s => ?_
      unfold Lay
      rw [if_neg (by omega), Nat.sub_self, inl_zero, hes]
      constructor
      · rintro ⟨a, _, c⟩
        exact ⟨a, c⟩
      · rintro ⟨a, c⟩
        exact ⟨a, by have := fwd_lt hG hg gp _ s a; omega, c⟩
    · have pl := (List.getElem?_eq_some_iff.mp h).1
      refine (hb2 p x h).congr fun s => ?_
      unfold Lay
      rw [if_pos (by omega)]
  generalize ls.set len (ls[len] &&& y) = ls1 at gL10 l10 b10
  refine ⟨_, rfl, len, rfl, by omega, by omega, by omega, by omega, ?_⟩
  rw [show ((len : Int) - 0).toNat = len by omega]
  refine for_rangeC (n := len) (fun i σ G => ∃ (ls : List Nat) (l f : Nat) (k5 : Option V), σ = [some (.ref Lg), some (.ref pe), some (.int (len : Int)), some (.ref o), some (.ref L), k5, some (.ref o2), none, none, none] ∧ Same H G ∧ RAt C G o2 mb ts2 dx2 D2 tb2 l f ∧
      G L = some (.lst (nV ls)) ∧ ls.length = len + 1 ∧ ∀ p x, ls[p]? = some x → Bits x (Lay rows ends len i p)) ⟨ls1, 0, 0, k5, rfl, s10, R9, gL10, l10, b10⟩ ?_ ?_
  · rintro i σ G il ⟨ls, l, f, k5, rfl, sG, R, gL, ll, hb2⟩
    rw [show (0 : Int) + (len : Int) - 1 + (i : Nat) * -1 = ((len - 1 - i : Nat) : Int) by omega]
    obtain ⟨j, hj⟩ : ∃ j, len - 1 - i = j := ⟨_, rfl⟩
    rw [hj]
    have ej : ls[j]? = some ls[j] := List.getElem?_eq_getElem (by omega)
    have ej1 : ls[j + 1]? = some ls[j + 1] := List.getElem?_eq_getElem (by omega)
    have bj : Bits ls[j] (Fwd rows j) := (hb2 j _ ej).congr fun s => by unfold Lay; rw [if_pos (by omega)]
    have bj1 : Bits ls[j + 1] (InL rows ends (j + 1) (len - (j + 1))) := (hb2 (j + 1) _ ej1).congr fun s => by unfold Lay; rw [if_neg (by omega)]
    refine ⟨_, rfl, _, rfl, L, nV ls, j, .int (ls[j] : Nat), rfl, rfl, gL, nV_get ej, ?_⟩
    refine ⟨_, rfl, o2, dx2, _, rfl, R.lk.obj, rfl, _, rfl, _, rfl, _, _, rfl, rfl, L, nV ls, (j : Int) + 1, .int (ls[j + 1] : Nat), rfl, rfl, .inl (.inl gL), ?_, ?_⟩
    · rw [show (j : Int) + 1 = ((j + 1 : Nat) : Int) by omega]
      exact atI_nat (nV_get ej1)
    refine ⟨o2, dx2, D2, tb2, mb, ts2, l, f, ls[j + 1], rfl, R, fun s h => by rw [dl2, dsl]; exact fwd_lt hG hg gp _ s ((bj1 s).mp h).1, fun G4 y O4 R4 => ?_⟩
    have gL4 : G4 L = some (.lst (nV ls)) := O4 L _ gL fun h => by
      rcases List.mem_cons.mp h with e | e
      · exact ap2.1 e
      · exact ap2.2.2.2 e
    refine ⟨_, _, rfl, rfl, L, nV ls, (j : Int), j, rfl, rfl, gL4, ixN_n (by unfold nV; rw [List.length_map]; omega), ?_⟩
    dsimp only
    rw [and_nn, nV_set]
    refine ⟨ls.set j (ls[j] &&& y), ls[j + 1], y, _, rfl, same_grow nL' (same_oth no2' nt2' sG O4) _, R4.upd ap2 _, upd_same, by rw [List.length_set, ll], fun p x h => ?_⟩
    rcases set_get h with ⟨rfl, rfl⟩ | ⟨np, h⟩
    · refine (bj.and R4.fnd).congr fun s => ?_
      unfold Lay
      rw [if_neg (by omega), show len - p = (len - (p + 1)) + 1 by omega, inl_succ]
      constructor
      · rintro ⟨a, t, k, h1, h2, h3⟩
        obtain ⟨jj, hjj⟩ := (hG s t).mp ((hmem t s).mp ((hbb t k h2 s).mp h3))
        exact ⟨a, jj, t, hjj, (bj1 t).mp h1⟩
      · rintro ⟨a, jj, t, h1, h2⟩
        have ht := (hG s t).mpr ⟨jj, h1⟩
        have tl := (goals_lt hg ht).1
        have et : mb[t]? = some mb[t] := List.getElem?_eq_getElem (by omega)
        exact ⟨a, t, _, (bj1 t).mpr h2, et, (hbb t _ et s).mpr ((hmem t s).mpr ht)⟩
    · refine (hb2 p x h).congr fun s => ?_
      unfold Lay
      by_cases c : p < len - i
      · rw [if_pos c, if_pos (by omega)]
      · rw [if_neg c, if_neg (by omega)]
  · rintro σ G ⟨ls, l, f, k5, rfl, sG, R, gL, ll, hb2⟩
    refine ⟨_, rfl, q L G ls sG gL ll fun p x h => ⟨(hb2 p x h).congr fun s => ?_, fun s hs => fwd_lt hG hg gp p s ((hb2 p x h s).mp hs).fwd⟩⟩
    unfold Lay
    rw [if_neg (by omega)]
end
end K25
/-! A lambda as a value: made in one def, handed to another one, called there. No row. -/
namespace GCL
open PySem PySem.Spec PyProof.Rows L2 NdefX
/-! ### the lambda as an object -/
/-- its words, the cells that it took along, its code object -/
structure LF where
  qual : Str
  params : Arguments
  body : Expr
  scope : Scope
  cl : List (Str × Addr)
  c : Addr
/-- as a nested def, but for the body -/
abbrev LF.nf (F : LF) : NF := ⟨"<lambda>", F.qual, F.params, [], F.scope, F.cl, F.c⟩
def LamO (f : Addr) (F : LF) : HO := .ext fun h => ∃ pm ctv : Value, h.get? f = some (W.kla_obj "<lambda>" F.qual F.params F.body F.scope F.cl pm F.c ctv)
theorem lamO_ne {f : Addr} {F : LF} (ps : Array Value) : LamO f F ≠ .tbl ps := fun z => by
  unfold LamO at z
  cases z
theorem lamO_at {P : Program} {w : World} {H : Hp} {h : Heap} {f : Addr} {F : LF} (hk : HOk P w H h) (e : H f = some (LamO f F)) : ∃ pm ctv : Value, h.get? f = some (W.kla_obj "<lambda>" F.qual F.params F.body F.scope F.cl pm F.c ctv) := (hk f _ e).1
section
variable {X : Cx} {pins : List (Addr × Obj)} {σ : L2.St} {H : Hp} {s : Shared}
theorem lam_fn {f : Addr} {F : LF} (J : Inv X pins σ H s) (e : H f = some (LamO f F)) : W.FnAt f s.heap := by
  obtain ⟨pm, ctv, g⟩ := lamO_at J.hok e
  exact ⟨_, _, _, _, g⟩
/-- one that has just been laid is known from now on -/
theorem lam_laid {F : LF} {tk : Nat} {pm ctv : Value} (J : Inv X pins σ H s) :
    Inv X pins σ (upd H s.heap.objs.size (LamO s.heap.objs.size F)) { s with heap := s.heap.push (W.kla_obj "<lambda>" F.qual F.params F.body F.scope F.cl pm F.c ctv), toks := tk } := by
  have top := Heap.get?_push_size s.heap (o := W.kla_obj "<lambda>" F.qual F.params F.body F.scope F.cl pm F.c ctv) rfl
  exact J.laid (fun b u e => Heap.get?_push_of_some _ e) (Nat.le_refl _) ⟨⟨pm, ctv, top⟩, ⟨_, top⟩, fun g1 g2 ⟨a1, a2, z⟩ st => ⟨a1, a2, st _ z⟩⟩
/-- it is made: its code object is new, or the table has it -/
theorem lam_new {T : List (Addr × Str)} {cc tt : Addr} {ar : Arguments} {bd : Expr} {sc : Scope} {ps : Pos} {EE : Value → Shared → Prop} {QQ : Value → Shared → Prop} (J : Inv X pins σ H s) (B : LamX.TabB X.base X.mg cc tt) (hco : X.env.code = .ref cc)
    (ht : (tt, X.env.qual ++ "<lambda>") ∈ T) (h1 : ∀ q ∈ T, q.1 = tt → q.2 = X.env.qual ++ "<lambda>") (hT : LamX.Tabs T H) (hdf : defaultsOf ar X.env = ([], [])) (hfr : ∀ y ∈ sc.names, y.2 = .free → ∃ c, X.env.cells.lookup y.1 = some c)
    (k : ∀ (f c' : Addr) (H1 : Hp) (s1 : Shared), Inv X pins σ H1 s1 → LamX.ExtN H H1 → LamX.Tabs T H1 → H f = none → H1 f = some (LamO f ⟨X.env.qual ++ "<lambda>", ar, bd, sc, cloFrom X.env.cells sc.names [], c'⟩) → H1 c' = some (LamX.CodeO c' (X.env.qual ++ "<lambda>")) → QQ (.ref f) s1) :
    wpAny (model X.prog X.w) X.A (eval (.Lambda ar bd sc ps) X.env) QQ EE s := by
  obtain ⟨tb, gt, ok, am⟩ := hT _ ht
  have raw : s.heap.get? tt = some { cls := .none, data := .fields tb } := J.hok tt _ gt
  have glo := J.mod.glob.keeps J.bk
  have bui := B.bm.keeps J.bk
  have hdr := B.code.keeps J.bk
  refine W.kla_eval hdf ?_
  cases look : codeAmong ps tb.toList with
  | some cv =>
    obtain ⟨c', rfl, known⟩ := am ps cv look
    refine W.kla_makeFunctionHit (mg := X.mg) (c := cc) (P := tt) (ps := tb) (closure_ok hfr) J.ok.glob glo hco hdr raw ok look bui fun ctv h' tk kp _ => ?_
    have J1 : Inv X pins σ H { s with heap := h', toks := tk } := J.kept kp
    have nw : H h'.objs.size = none := J1.hok.fresh (Nat.le_refl _)
    have st : ∀ b o, H b = some o → upd H h'.objs.size (LamO h'.objs.size ⟨X.env.qual ++ "<lambda>", ar, bd, sc, cloFrom X.env.cells sc.names [], c'⟩) b = some o := fun b o e => (upd_ne (ne_of_none e nw)).trans e
    exact k _ c' _ _ (lam_laid J1) (LamX.ExtN.of st) (hT.ext st) nw upd_same (st _ _ known)
  | none =>
    refine W.kla_makeFunction (mg := X.mg) (c := cc) (P := tt) (ps := tb) (closure_ok hfr) J.ok.glob glo hco hdr raw ok look B.gP bui fun c' ctv h' tk kp lo hi rc tbl => ?_
    obtain ⟨c2, oc, fs, tz, same, at2, dat, nam⟩ := rc
    obtain rfl : c' = c2 := by cases same; rfl
    have fresh : H c' = none := J.hok.fresh lo
    generalize hnew : tb ++ #[rawInt ps.line, rawInt ps.col, .ref c'] = tb' at tbl
    have J1 := LamX.inv_table (t' := tk) (more := #[rawInt ps.line, rawInt ps.col, .ref c']) (h' := h') J gt (fun b o n e => kp b o n e) (by rw [hnew]; exact tbl) lo ⟨oc, fs, tz, at2, dat, nam⟩
    rw [hnew] at J1
    have keep : LamX.ExtN H (upd (upd H tt (.tbl tb')) c' (LamX.CodeO c' (X.env.qual ++ "<lambda>"))) := fun b o e n => by
      have n1 : b ≠ c' := ne_of_none e fresh
      have n2 : b ≠ tt := fun z => by
        rw [z, gt] at e
        exact n tb (Option.some.inj e).symm
      rw [upd_ne n1, upd_ne n2, e]
    have ntc : tt ≠ c' := ne_of_none gt fresh
    have tabs : LamX.Tabs T (upd (upd H tt (.tbl tb')) c' (LamX.CodeO c' (X.env.qual ++ "<lambda>"))) := fun q hq => by
      by_cases same : q.1 = tt
      · rw [h1 q hq same, same]
        have lst : tb'.toList = tb.toList ++ [rawInt ps.line, rawInt ps.col, .ref c'] := by rw [← hnew]; simp
        refine ⟨tb', by rw [upd_ne ntc, upd_same], by rw [lst]; exact TriplesOk_snoc _ _ _ _ ok, fun p' cv hcv => ?_⟩
        rw [lst] at hcv
        rcases LamX.among_app _ ok hcv with z | z
        · obtain ⟨c0, a1, a2⟩ := am p' cv z
          exact ⟨c0, a1, keep _ _ a2 LamX.codeO_ne⟩
        · exact ⟨c', z, upd_same⟩
      · obtain ⟨t0, a1, a2, a3⟩ := hT q hq
        refine ⟨t0, by rw [upd_ne (ne_of_none a1 fresh), upd_ne same, a1], a2, fun p' cv hcv => ?_⟩
        obtain ⟨c0, b1, b2⟩ := a3 p' cv hcv
        exact ⟨c0, b1, keep _ _ b2 LamX.codeO_ne⟩
    have nw := J1.hok.fresh (Nat.le_refl h'.objs.size)
    have nw0 : H h'.objs.size = none := J.hok.fresh (Nat.le_trans lo (Nat.le_of_lt hi))
    have nf : (upd (upd H tt (.tbl tb')) c' (LamX.CodeO c' (X.env.qual ++ "<lambda>"))) h'.objs.size = none := nw
    have cc' : (upd (upd H tt (.tbl tb')) c' (LamX.CodeO c' (X.env.qual ++ "<lambda>"))) c' = some (LamX.CodeO c' (X.env.qual ++ "<lambda>")) := upd_same
    generalize upd (upd H tt (.tbl tb')) c' (LamX.CodeO c' (X.env.qual ++ "<lambda>")) = H2 at J1 keep tabs nf cc'
    have st : ∀ b o, H2 b = some o → upd H2 h'.objs.size (LamO h'.objs.size ⟨X.env.qual ++ "<lambda>", ar, bd, sc, cloFrom X.env.cells sc.names [], c'⟩) b = some o := fun b o e => (upd_ne (ne_of_none e nf)).trans e
    exact k _ c' _ _ (lam_laid J1) (keep.trans (LamX.ExtN.of st)) (tabs.ext st) nw0 upd_same (st _ _ cc')
end
/-! ### what it promises -/
/-- of the lambda at f: sp ws, ws what the cells that it took along hold at the call -/
structure LOk (P : Program) (w : World) (K : W.Frag) (mg : Str → Option Value) (base : Heap) (CX : CXT) (k : Nat) (f : Addr) (F : LF) (ps fr : List Str) (sp : List (Option V) → Sp) : Prop where
  len : ∀ ws vs H Q E, sp ws vs H Q E → vs.length = ps.length
  run : ∀ (A : Around) (outer : List Env) (s : Shared) (H : Hp) (us : List Value) (vs : List V) (ws : List (Option V)) (Q : VK) (E : XK), Room k A → Env0 P w K mg base A outer s H →
    H f = some (LamO f F) → H F.c = some (LamX.CodeO F.c F.qual) → CellsAt F.cl fr ws s.heap H → Vals vs us → sp ws vs H Q E →
    codeAny (model P w) A (.call (.ref f) { pos := us }) (CR CX outer P w H s Q E) s
section
variable {CX : CXT} {P : Program} {w : World} {K : W.Frag} {mg : Str → Option Value} {base : Heap} {N ps fr : List Str} {F : LF} {f : Addr} {k : Nat} {sp : List (Option V) → Sp}
/-- by its body -/
theorem lok_of (S : NScope N ps fr F.scope) (hb : ∀ (pm ctv : Value) (us : List Value), us.length = ps.length → bindArgs (W.kla_fn "<lambda>" F.qual F.params F.body F.scope F.cl pm (.ref F.c) ctv) { pos := us } = pure (ps.zip us))
    (len : ∀ ws vs H Q E, sp ws vs H Q E → vs.length = ps.length)
    (bd : ∀ (A : Around) (outer : List Env) (s : Shared) (H : Hp) (vs : List V) (ws : List (Option V)) (Q : VK) (E : XK), Room k (A.deeper (envF F.nf f s.heap.objs.size)) → ws.length = fr.length → sp ws vs H Q E →
      ∃ t, PE (ncx CX P w K mg base N F.nf f A outer s H E) F.body t ∧ t (startF N vs ws) H Q) : LOk P w K mg base CX (k + 1) f F ps fr sp := by
  refine ⟨len, fun A outer s H us vs ws Q E room e0 at1 atc C r q => ?_⟩
  have many := len _ _ _ _ _ q
  obtain ⟨pm, ctv, obj⟩ := lamO_at e0.hok at1
  have room0 : s.heap.NoLimit := e0.mod.nolimit.keeps fun b o e => (e0.bs b o e).1
  refine W.kla_callFunE room.depth obj rfl S.co S.gen rfl (codeO_at e0.hok atc) ?_
  rw [show bindArgs _ _ = _ from hb pm ctv us (by rw [← r.length]; exact many)]
  refine wpAny_pure (wpAny_newFunctionEnv S.nocell (fun x hx => S.par x.1 (List.of_mem_zip (a := x.1) (b := x.2) hx).1) (fun h1 ns1 ext => ⟨room0.fresh _ ext, W.kla_codeExpr ?_⟩) S.kind)
  have kp : ∀ b o, s.heap.get? b = some o → h1.get? b = some o := fun b o e => ext.extBut b o (Nat.ne_of_lt (Heap.lt_size e)) (Heap.get?_push_of_some _ e)
  obtain ⟨t, pe, ht⟩ := bd A outer s H vs ws Q E (room.deeper _) C.len q
  have J : Inv (ncx CX P w K mg base N F.nf f A outer s H E) [] (startF N vs ws) H { s with heap := h1, toks := s.toks + (ps.zip us).length } := inv_startN S room.hd e0 many r C ns1 kp
  refine wpAny_mono (pe.run [] _ (startF N vs ws) H Q J ht) (fun u s' h => ?_) fun e s' h => h
  obtain ⟨v, H', J', rv, qv⟩ := h
  exact ⟨v, H', J'.os, J'.bare, J'.base, J'.hok, rv, qv⟩
end
/-! ### a def that is handed a lambda -/
/-- the promise of a def of the text, cl the cells that a lambda took along which it is handed -/
structure FnOkW (P : Program) (w : World) (K : W.Frag) (mg : Str → Option Value) (base : Heap) (CX : CXT) (k : Nat) (f : Addr) (fd : FuncData) (ps : List Str) (sp : List (Str × Addr) → List Str → List (Option V) → Sp) : Prop where
  len : ∀ cl fr ws vs H Q E, sp cl fr ws vs H Q E → vs.length = ps.length
  run : ∀ (A : Around) (outer : List Env) (s : Shared) (H : Hp) (args : Args) (us : List Value) (vs : List V) (Q : VK) (E : XK) (cl : List (Str × Addr)) (fr : List Str) (ws : List (Option V)), Room k A → Env0 P w K mg base A outer s H → BindsTo s fd args (ps.zip us) → Vals vs us →
    CellsAt cl fr ws s.heap H → (∀ y c, cl.lookup y = some c → c ∉ frs outer) → sp cl fr ws vs H Q E → codeAny (model P w) A (.call (.ref f) args) (CR CX outer P w H s Q E) s
section
variable {P : Program} {w : World} {K : W.Frag} {mg : Str → Option Value} {base : Heap}
/-- by its body -/
theorem okW {CX : CXT} {x qual : Str} {st : Stmt} {f : Addr} {fd : FuncData} {N ps : List Str} {k : Nat} {sp : List (Str × Addr) → List Str → List (Option V) → Sp} (F : Fun K x qual st f fd) (S : FnScope N ps (defScope st)) (len : ∀ cl fr ws vs H Q E, sp cl fr ws vs H Q E → vs.length = ps.length)
    (bd : ∀ (cdv : Value) (A : Around) (outer : List Env) (s : Shared) (H : Hp) (vs : List V) (Q : VK) (E : XK) (cl : List (Str × Addr)) (fr : List Str) (ws : List (Option V)), Room k (A.deeper (envOfC qual (defScope st) s.heap.objs.size f cdv)) →
      CellsAt cl fr ws s.heap H → (∀ y c, cl.lookup y = some c → c ∉ frs outer) → sp cl fr ws vs H Q E →
      ∃ t, PSs (cxOf CX P w K mg base N qual (defScope st) f cdv A outer s H E) (defBody st) t ∧ t { nx := fun _ H' => Q .non H', rt := Q } (start N vs) H) : FnOkW P w K mg base CX (k + 1) f fd ps sp := by
  obtain ⟨oc, od, kV, doc, pm, an, cdv, ct, osl, rfl, known, code⟩ := F.ex
  refine ⟨len, fun A outer s H args us vs Q E cl fr ws room e0 bind r C nf q => ?_⟩
  have many := len _ _ _ _ _ _ _ q
  have KX : K.In s.heap := e0.mod.kin.keeps fun b o e => (e0.bs b o e).1
  have room0 : s.heap.NoLimit := e0.mod.nolimit.keeps fun b o e => (e0.bs b o e).1
  have kinds : ∀ y ∈ ps.zip us, (defScope st).names.lookup y.1 = some .local ∨ ((defScope st).names.lookup y.1 = some .cell ∧ ((cellsFrom (s.heap.objs.size + 1) (defScope st).names []).lookup y.1).isSome = true) := fun y hy => by
    have inps : y.1 ∈ ps := (List.of_mem_zip (a := y.1) (b := y.2) hy).1
    exact (S.par y.1 inps).imp id fun z => ⟨z, W.cellsFrom_some _ _ _ (.inl z)⟩
  refine codeAny_call_function room.depth (KX _ _ known) rfl S.co S.gen rfl (W.codeRec_of KX code) (bind _ _ _ _ ?_)
  refine wpAny_newFunctionEnv_cells S.kind kinds fun env same s1 start1 => ?_
  subst same
  refine ⟨room0.keeps start1.toInCall.keep, codeAny_func ?_⟩
  obtain ⟨t, ht, hq⟩ := bd cdv A outer s H vs Q E cl fr ws (room.deeper _) C nf q
  have J : Inv (cxOf CX P w K mg base N qual (defScope st) f cdv A outer s H E) [] (start N vs) H s1 := inv_start S room.hd e0 many r start1
  refine wpAny_mono (ht.run [] s1 (start N vs) H _ J hq) (fun fl s' out => ?_) fun e s' h => h
  cases fl with
  | brk => exact out.elim fun _ z => z.elim fun _ y => y.2.elim
  | cont => exact out.elim fun _ z => z.elim fun _ y => y.2.elim
  | next =>
    obtain ⟨σ', H', J', qv⟩ := out
    exact ⟨.non, H', J'.os, J'.bare, J'.base, J'.hok, rfl, qv⟩
  | ret u =>
    obtain ⟨v, σ', H', J', rv, qv⟩ := out
    exact ⟨v, H', J'.os, J'.bare, J'.base, J'.hok, rv, qv⟩
/-- .. that raises nothing -/
theorem okW0 {x qual : Str} {st : Stmt} {f : Addr} {fd : FuncData} {N ps : List Str} {k : Nat} {sp : List (Str × Addr) → List Str → List (Option V) → Sp} (F : Fun K x qual st f fd) (S : FnScope N ps (defScope st)) (len : ∀ cl fr ws vs H Q E, sp cl fr ws vs H Q E → vs.length = ps.length)
    (bd : ∀ (cdv : Value) (A : Around) (outer : List Env) (s : Shared) (H : Hp) (vs : List V) (Q : VK) (E : XK) (cl : List (Str × Addr)) (fr : List Str) (ws : List (Option V)), Room k (A.deeper (envOfC qual (defScope st) s.heap.objs.size f cdv)) →
      CellsAt cl fr ws s.heap H → (∀ y c, cl.lookup y = some c → c ∉ frs outer) → sp cl fr ws vs H Q E →
      ∃ t, PSs (cxOf CX0 P w K mg base N qual (defScope st) f cdv A outer s H E).nox (defBody st) t ∧ t { nx := fun _ H' => Q .non H', rt := Q } (start N vs) H) : FnOkW P w K mg base CX0 (k + 1) f fd ps sp :=
  okW F S len fun cdv A outer s H vs Q E cl fr ws room C nf q => let ⟨t, h, ht⟩ := bd cdv A outer s H vs Q E cl fr ws room C nf q; ⟨t, h.nox, ht⟩
end
/-! ### calls -/
/-- a name of the running def holds the lambda that it was handed -/
def tCallP (f : Addr) (F : LF) (i : Nat) (ws : List (Option V)) (sp : List (Option V) → Sp) (E : XK) (t : TA) : TE := fun σ H Q => σ[i]? = some (some (.ref f)) ∧ H f = some (LamO f F) ∧ t σ H fun vs H1 => H1 f = some (LamO f F) ∧ H1 F.c = some (LamX.CodeO F.c F.qual) ∧ sp ws vs H1 Q E
/-- a def that is handed a lambda of this def -/
def tCallW (cl : List (Str × Addr)) (fr : List Str) (js : List Nat) (sp : List (Str × Addr) → List Str → List (Option V) → Sp) (E : XK) (t : TA) : TE := fun σ H Q => t σ H fun vs H1 => sp cl fr (js.map (slotAt σ)) vs H1 Q E
/-- a lambda that is made -/
def tLam (T : List (Addr × Str)) (mk : Addr → LF) : TE := fun σ H Q => LamX.Tabs T H ∧ ∀ (f c' : Addr) (H1 : Hp), LamX.ExtN H H1 → LamX.Tabs T H1 → H f = none → H1 f = some (LamO f (mk c')) → H1 c' = some (LamX.CodeO c' (mk c').qual) → Q (.ref f) H1
section
variable {X : Cx}
theorem pe_lamV {T : List (Addr × Str)} {cc tt : Addr} {ar : Arguments} {bd : Expr} {sc : Scope} {ps : Pos} (B : LamX.TabB X.base X.mg cc tt) (hco : X.env.code = .ref cc) (ht : (tt, X.env.qual ++ "<lambda>") ∈ T) (h1 : ∀ q ∈ T, q.1 = tt → q.2 = X.env.qual ++ "<lambda>")
    (hdf : defaultsOf ar X.env = ([], [])) (hfr : ∀ y ∈ sc.names, y.2 = .free → X.env.scope.names.lookup y.1 = some .cell ∨ X.env.scope.names.lookup y.1 = some .free) :
    PE X (.Lambda ar bd sc ps) (tLam T fun c' => ⟨X.env.qual ++ "<lambda>", ar, bd, sc, cloFrom X.env.cells sc.names [], c'⟩) := by
  refine ⟨fun pins s σ H Q J h => ?_⟩
  obtain ⟨tabs, h⟩ := h
  exact lam_new J B hco ht h1 tabs hdf (fun y hy e => (hfr y hy e).elim (fun z => J.ok.has _ (.inl z)) fun z => J.ok.has _ (.inr z)) fun f c' H1 s1 J1 x1 t1 n1 a1 a2 => ⟨.ref f, H1, J1, rfl, h f c' H1 x1 t1 n1 a1 a2⟩
variable {CX : CXT} {k j i : Nat} {f : Addr} {F : LF} {ps fr : List Str} {ws : List (Option V)} {sp : List (Option V) → Sp} {E : XK} {x : Str} {p pos : Pos} {e : Expr} {es : List Expr} {t : TA}
theorem pe_callP (L : LOk X.prog X.w X.K X.mg X.base CX k f F ps fr sp) (C : CellsAt F.cl fr ws X.s_0.heap X.H_0) (nf : ∀ y c, F.cl.lookup y = some c → c ∉ X.fs) (nx : X.ex = []) (hr : Room j X.A) (hk : k ≤ j) (hx : Passes CX X E) (hN : X.N[i]? = some x) (hv : Vis X.env.scope x) (ha : PA X (e :: es) t)
    (n1 : (x == ("__debug__" : Str)) = false := by decide) (n2 : (x == ("__classdict__" : Str)) = false := by decide)
    (st : starEach (e :: es) X.env = (false, eval e X.env) :: starEach es X.env := by rfl) (pl : (backTo pos (starEach es X.env)).any (·.1) = false := by rfl) :
    PE X (.Call (.Name x p) (e :: es) [] pos) (tCallP f F i ws sp E t) := by
  refine ⟨fun pins s σ H Q J h => ?_⟩
  obtain ⟨slot, at1, ht⟩ := h
  have name := (pe_var (pos := p) hN hv n1 n2).run pins s σ H (fun v G => v = .ref f ∧ G = H) J ⟨.ref f, slot, rfl, rfl⟩
  refine wpAny_Call_Name_kw (thn name fun u s1 ⟨v, G, J1, rv, e1, e2⟩ => ?_)
  subst e1 e2
  cases rv
  refine W.callWith_F (first := []) (lam_fn J1 at1) (thn (ha.run pos pins s1 σ G _ J1 ht) fun us s2 ⟨vs, H2, J2, r, b1, b2, q⟩ => ⟨lam_fn J2 b1, ?_⟩) st pl
  have C2 := CellsAt.later C nf (fun y c _ z => by rw [nx] at z; cases z) J2
  refine wpAny_call (codeAny_mono (L.run X.A X.stack s2 H2 us vs ws Q E (hr.mono hk) J2.env0 b1 b2 C2 r q) fun out s3 h3 => ?_)
  rcases out with er | fl
  · exact hx pins σ H2 s2 er s3 J2 h3
  · cases fl with
    | ret u => exact J2.after h3
    | next => exact absurd h3 id
    | brk => exact absurd h3 id
    | cont => exact absurd h3 id
theorem cell_out {cl : List (Str × Addr)} {js : List Nat} {pins : List (Addr × Obj)} {σ : L2.St} {H : Hp} {s : Shared} (J : Inv X pins σ H s) (cp : Caps X cl fr js) (all : ∀ y, X.fn y = true) : ∀ y c, cl.lookup y = some c → c ∉ frs X.stack := fun y c e z => by
  have own := cp.sub y c e
  rcases List.mem_cons.mp (J.stkSub _ z) with z | z
  · exact J.cne y c own z
  · obtain ⟨_, o, ho, _⟩ := J.ok.funs.mem z
    exact absurd (J.ok.cab y c (all y) own) (Nat.not_le_of_lt (Heap.lt_size ho))
theorem pe_callW {fd : FuncData} {g : Addr} {sw : List (Str × Addr) → List Str → List (Option V) → Sp} {cl : List (Str × Addr)} {js : List Nat} (G : FnOkW X.prog X.w X.K X.mg X.base CX k g fd ps sw) (cp : X.Ok → Caps X cl fr js) (all : ∀ y, X.fn y = true) (hr : Room k X.A) (hg : Gl X x) (hm : X.mg x = some (.ref g)) (kp : W.keepIn X.K (.ref g) = true)
    (hb : Binds X.K fd ps []) (hx : Passes CX X E) (ha : PA X (e :: es) t) (n1 : (x == ("__debug__" : Str)) = false := by decide)
    (st : starEach (e :: es) X.env = (false, eval e X.env) :: starEach es X.env := by rfl) (pl : (backTo pos (starEach es X.env)).any (·.1) = false := by rfl) :
    PE X (.Call (.Name x p) (e :: es) [] pos) (tCallW cl fr js sw E t) := by
  refine ⟨fun pins s σ H Q J h => ?_⟩
  refine wpAny_Call_Name_kw (ld_glob J hg hm ?_ n1)
  refine W.callWith_K (h₀ := X.base) J.ok.mod.kin kp (thn (ha.run pos pins s σ H _ J h) fun us s1 ⟨vs, H1, J1, r, q⟩ => ⟨J1.kIn, ?_⟩) st pl
  have many : us.length = ps.length := by rw [← r.length]; exact G.len _ _ _ _ _ _ _ q
  have cps := cp J1.ok
  have bt := hb s1 us J1.kIn (by rw [List.append_nil]; exact many)
  rw [List.append_nil] at bt
  refine wpAny_call (codeAny_mono (G.run X.A X.stack s1 H1 { pos := us } us vs Q E cl fr _ hr J1.env0 bt r (cells_of J1 cps) (cell_out J1 cps all) q) fun out s2 h2 => ?_)
  rcases out with er | fl
  · exact hx pins σ H1 s1 er s2 J1 h2
  · cases fl with
    | ret u => exact J1.after h2
    | next => exact absurd h2 id
    | brk => exact absurd h2 id
    | cont => exact absurd h2 id
end
end GCL
/-! t[::-1] of a tuple -/
namespace GL
open PySem PySem.Spec PyProof.Rows L2 HT
theorem back_places (n : Nat) : Builtin.Slice.sliceAdjust none none (-1) (n : Int) = ((n : Int) - 1, -1) ∧ Builtin.Slice.slicePlaces ((n : Int) - 1) (-1) (-1) = n := by
  refine ⟨rfl, ?_⟩
  unfold Builtin.Slice.slicePlaces
  rw [if_neg (by decide)]
  by_cases h : (n : Int) - 1 > -1
  · rw [if_pos h]
    have e : ((n : Int) - 1 - -1 - 1) / (- -1) = (n : Int) - 1 := by
      rw [show ((n : Int) - 1 - -1 - 1) = (n : Int) - 1 by omega, Int.neg_neg, Int.ediv_one]
    rw [e]
    omega
  · rw [if_neg h]
    omega
theorem back_pick (xs : Array Value) : ((List.range xs.size).filterMap fun (k : Nat) => xs[(((xs.size : Nat) : Int) - 1 + (k : Int) * (-1)).toNat]?).toArray = xs.toList.reverse.toArray := by
  have e1 : (fun (k : Nat) => xs[(((xs.size : Nat) : Int) - 1 + (k : Int) * (-1)).toNat]?) = (fun i => xs[i]?) ∘ fun k => xs.size - 1 - k := by
    funext k
    show xs[_]? = xs[xs.size - 1 - k]?
    congr 1
    omega
  have e2 := pick_gen xs 0 xs.size
  have e3 : (fun (m : Nat) => xs[(((0 : Nat) : Int) + (m : Int) * 1).toNat]?) = fun i => xs[i]? := by
    funext m
    congr 1
    omega
  rw [e3] at e2
  have e4 : (List.range xs.size).filterMap (fun i => xs[i]?) = xs.toList := by
    have e5 : (List.range xs.size).filterMap (fun i => xs[i]?) = List.take xs.size xs.toList := by simpa using congrArg Array.toList e2
    rw [e5]
    exact List.take_of_length_le (by simp)
  rw [e1, ← List.filterMap_map, PySem.W.krv_range, List.filterMap_reverse, e4]
section
variable {prog : Program} {w : World} {A : Around} {E : Value → Shared → Prop} {s : Shared}
theorem back_applied {sl : Addr} {vc : Value} {n : Nat} {Q : Int × Int × Nat → Shared → Prop} (hs : s.heap.IsSliceOf sl .none .none vc) (pc : IsPart vc (some (-1))) (h : Q (((n : Int) - 1), -1, n) s) :
    wpAny (model prog w) A (Builtin.Slice.sliceApplied (.ref sl) (pure (n : Int))) Q E s := by
  obtain ⟨os, ho, hc, hd⟩ := id hs
  unfold Builtin.Slice.sliceApplied Builtin.Slice.sliceFields
  refine wpAny_bind (wpAny_bind (wpAny_field ho hd (x := .none) rfl (wpAny_bind (wpAny_field ho hd (x := .none) rfl (wpAny_bind (wpAny_field ho hd (x := vc) rfl (wpAny_pure ?_)))))))
  refine wpAny_bind (slicePart_ pc ?_)
  show wpAny _ _ (if ((-1 : Int) == 0) = true then _ else _) _ _ s
  rw [if_neg (by decide)]
  refine wpAny_bind (slicePart_ .none (wpAny_bind (slicePart_ .none (wpAny_bind (wpAny_pure ?_)))))
  show wpAny _ _ (match Builtin.Slice.sliceAdjust none none (-1) (n : Int) with | (lo, hi) => pure (lo, (-1 : Int), Builtin.Slice.slicePlaces lo hi (-1))) _ _ s
  rw [(back_places n).1]
  show wpAny _ _ (pure (((n : Int) - 1), (-1 : Int), Builtin.Slice.slicePlaces ((n : Int) - 1) (-1) (-1))) _ _ s
  rw [(back_places n).2]
  exact wpAny_pure h
theorem back_item {t sl : Addr} {xs : Array Value} {vc : Value} {Q : Value → Shared → Prop} (ht : IsTup s.heap t xs) (hs : s.heap.IsSliceOf sl .none .none vc) (pc : IsPart vc (some (-1)))
    (h : Q (.ref s.heap.objs.size) { s with heap := s.heap.push { cls := .type "tuple", data := .seq xs.toList.reverse.toArray } }) (hz : xs.size ≤ sizeLine) : wpAny (model prog w) A (getItem (.ref t) (.ref sl)) Q E s := by
  have ok : sizeOk (.seq xs.toList.reverse.toArray) := by
    show xs.toList.reverse.toArray.size ≤ sizeLine
    rw [List.size_toArray, List.length_reverse, Array.length_toList]
    exact hz
  obtain ⟨os, ho, hc, hd⟩ := id hs
  have ty : s.TypeIs (.ref sl) "slice" := ⟨os, ho, hc⟩
  unfold getItem
  try with_reducible refine wpAny_holding ?_
  first | refine wpAny_bind (wpAny_pure ?_) | skip
  refine wpAny_bind (wpAny_sequenceKey ht.typeIs (by decide) (wpAny_bind (wpAny_callSpecial?_slot (name := Str.ofString "__getitem__") ht.typeIs PyProof.Rows.slot_tuple_getitem
    (wpAny_call_entry PyProof.Rows.slot_tuple_getitem ht.typeIs entry_tuple_getitem ?_ (args_tuple_getitem _ _)))))
  show wpAny _ _ (Builtin.Tuple.tupleItemsOf (.ref t) >>= _) _ _ s
  refine wpAny_bind (tupleItemsOf_ ht (wpAny_bind (wpAny_typeOf ty ?_)))
  rw [if_pos (by decide)]
  refine wpAny_bind (back_applied hs pc ?_)
  have no : ¬ ((((xs.size : Nat) : Int) - 1 == 0 && (-1 : Int) == 1 && xs.size == xs.size) = true) := by
    rw [show ((-1 : Int) == 1) = false from rfl, Bool.and_false, Bool.false_and]
    exact Bool.false_ne_true
  show wpAny _ _ (if ((((xs.size : Nat) : Int) - 1 == 0 && (-1 : Int) == 1 && xs.size == xs.size) = true) then _ else _) _ _ s
  rw [if_neg no, back_pick]
  first
    | exact wpAny_bind (m := Builtin.Tuple.tupleExact _) (wpAny_newObj_type (wpAny_pure ⟨_, rfl, wpAny_pure h⟩) ok)
    | exact wpAny_bind (m := Builtin.Tuple.tupleExact _) (wpAny_newObj_type (wpAny_bind (wpAny_pure (wpAny_pure ⟨_, rfl, wpAny_pure h⟩))) ok)
    | exact wpAny_bind (wpAny_bind (m := Builtin.Tuple.tupleExact _) (wpAny_newObj_type (wpAny_pure (wpAny_pure ⟨_, rfl, wpAny_pure h⟩)) ok))
    | exact wpAny_bind (wpAny_bind (m := Builtin.Tuple.tupleExact _) (wpAny_newObj_type (wpAny_pure ⟨_, rfl, wpAny_pure h⟩) ok))
end
section
variable {X : Cx}
def tRevT (te : TE) : TE := fun σ H Q => te σ H fun x G => ∃ (a : Addr) (xs : List V), x = .ref a ∧ G a = some (.tup xs) ∧ ∀ p, G p = none → Q (.ref p) (upd G p (.tup xs.reverse))
theorem Vals.rev : ∀ {xs : List V} {us : List Value}, Vals xs us → Vals xs.reverse us.reverse
  | _, _, .nil => .nil
  | _, _, .cons r t => by
    rw [List.reverse_cons, List.reverse_cons]
    exact (Vals.rev t).append (.cons r .nil)
theorem pe_revT {e : Expr} {te : TE} {k : Nat} {p1 p2 p3 pos : Pos} (he : PE X e te) : PE X (.Subscript e (.Slice none none (some (.UnaryOp .USub (.Constant (.int 1) k p1) p2)) p3) pos) (tRevT te) := by
  refine ⟨fun pins s σ H Q I h => Subscript_ (thn (he.run pins s σ H _ I h) fun v s1 ⟨x, H1, I1, r1, a, xs, ex, hx, q⟩ => ?_)⟩
  subst ex
  cases r1
  have st : PO X (some (.UnaryOp .USub (.Constant (.int 1) k p1) p2)) (tPart (tUn (rU fun i => .int (-i)) (tC (.int 1)))) := po_some (pe_un un_neg pe_int)
  refine wpAny_Slice (thn (po_none.run pins s1 σ H1 (fun o G => o = none ∧ G = H1) I1 ⟨rfl, rfl⟩) fun vl s2 ⟨o2, H2, I2, pl, el, e2⟩ => ?_)
  cases el
  cases e2
  refine thn (po_none.run pins s2 σ H1 (fun o G => o = none ∧ G = H1) I2 ⟨rfl, rfl⟩) fun vu s3 ⟨o3, H3, I3, pu, eu, e3⟩ => ?_
  cases eu
  cases e3
  refine thn (st.run pins s3 σ H1 (fun o G => o = some (-1) ∧ G = H1) I3 ⟨1, rfl, -1, rfl, rfl, rfl⟩) fun vc s4 ⟨o4, H4, I4, pc, ec, e4⟩ => ?_
  cases ec
  cases e4
  have J : Inv X pins σ H1 { s4 with heap := s4.heap.push { cls := .type "slice", data := .fields #[vl, vu, vc] } } := I4.kept (t' := s4.toks) fun b ob z => Heap.get?_push_of_some _ z
  obtain ⟨its, o, n, r, t1, t2, t3⟩ := tup_at J hx
  have hz : its.length ≤ sizeLine := by
    obtain ⟨z, _⟩ := (show ObjOk X.prog X.w H1 _ a (.tup xs) from J.hok a _ hx)
    rw [← r.length]; exact z
  have tt : IsTup { s4 with heap := s4.heap.push { cls := .type "slice", data := .fields #[vl, vu, vc] } }.heap a its.toArray := ⟨o, t1, t2, n, t3⟩
  cases pl
  cases pu
  show wpAny (model X.prog X.w) X.A (subscriptTail e (.Slice none none (some (.UnaryOp .USub (.Constant (.int 1) k p1) p2)) p3) (.ref a) (.ref s4.heap.objs.size)) (EP X pins σ Q) X.xe { s4 with heap := s4.heap.push { cls := .type "slice", data := .fields #[.none, .none, vc] } }
  refine tail_any (ops := [.ref a, .ref s4.heap.objs.size]) tt.typeIs PyProof.Rows.slot_tuple_getitem.lookup ?_ (by with_unfolding_all rfl)
  refine back_item tt (Heap.IsSliceOf.new _ .none .none vc) pc ?_ (by rw [List.size_toArray]; exact hz)
  refine ⟨.ref _, _, J.laid (t' := s4.toks) (o := .tup xs.reverse) (fun b ob z => Heap.get?_push_of_some _ z) (Nat.le_refl _) ?_, rfl, q _ (J.hok.fresh (Nat.le_refl _))⟩
  refine ⟨by rw [List.length_reverse, r.length]; exact hz, its.reverse, Vals.rev r, ⟨_, Heap.get?_push_size _ rfl, rfl, _, rfl⟩⟩
end
end GL
/-! xs[::-1] of a list. No row. -/
namespace GRL
open PySem PySem.Spec PyProof.Rows L2 HT GL
section
variable {X : Cx}
def tRevL (te : TE) : TE := fun σ H Q => te σ H fun x G => ∃ (a : Addr) (xs : List V), x = .ref a ∧ G a = some (.lst xs) ∧ ∀ p, G p = none → Q (.ref p) (upd G p (.lst xs.reverse))
theorem pe_revL {e : Expr} {te : TE} {k : Nat} {p1 p2 p3 pos : Pos} (he : PE X e te) : PE X (.Subscript e (.Slice none none (some (.UnaryOp .USub (.Constant (.int 1) k p1) p2)) p3) pos) (tRevL te) := by
  refine ⟨fun pins s σ H Q I h => Subscript_ (thn (he.run pins s σ H _ I h) fun v s1 ⟨x, H1, I1, r1, a, xs, ex, hx, q⟩ => ?_)⟩
  subst ex
  cases r1
  have st : PO X (some (.UnaryOp .USub (.Constant (.int 1) k p1) p2)) (tPart (tUn (rU fun i => .int (-i)) (tC (.int 1)))) := po_some (pe_un un_neg pe_int)
  refine wpAny_Slice (thn (po_none.run pins s1 σ H1 (fun o G => o = none ∧ G = H1) I1 ⟨rfl, rfl⟩) fun vl s2 ⟨o2, H2, I2, pl, el, e2⟩ => ?_)
  cases el
  cases e2
  refine thn (po_none.run pins s2 σ H1 (fun o G => o = none ∧ G = H1) I2 ⟨rfl, rfl⟩) fun vu s3 ⟨o3, H3, I3, pu, eu, e3⟩ => ?_
  cases eu
  cases e3
  refine thn (st.run pins s3 σ H1 (fun o G => o = some (-1) ∧ G = H1) I3 ⟨1, rfl, -1, rfl, rfl, rfl⟩) fun vc s4 ⟨o4, H4, I4, pc, ec, e4⟩ => ?_
  cases ec
  cases e4
  have J : Inv X pins σ H1 { s4 with heap := s4.heap.push { cls := .type "slice", data := .fields #[vl, vu, vc] } } := I4.kept (t' := s4.toks) fun b ob z => Heap.get?_push_of_some _ z
  obtain ⟨its, r, ht, hz⟩ := J.list (.inl (.inl hx))
  have many := r.length
  show wpAny (model X.prog X.w) X.A (subscriptTail e (.Slice none none (some (.UnaryOp .USub (.Constant (.int 1) k p1) p2)) p3) (.ref a) (.ref s4.heap.objs.size)) (EP X pins σ Q) X.xe { s4 with heap := s4.heap.push { cls := .type "slice", data := .fields #[vl, vu, vc] } }
  refine tail_any (ops := [.ref a, .ref s4.heap.objs.size]) ht.isList.typeIs slot_list_getitem.lookup ?_ (by with_unfolding_all rfl)
  refine wpAny_getItem_list_slice ht.isList (Heap.IsSliceOf.new _ vl vu vc) pl pu pc (by decide) ?_ (by rw [List.size_toArray]; omega)
  rw [W.krv_pick]
  refine ⟨.ref _, _, J.laid (t' := s4.toks) (o := .lst xs.reverse) (fun b ob z => Heap.get?_push_of_some _ z) (Nat.le_refl _) ?_, rfl, q _ (J.hok.fresh (Nat.le_refl _))⟩
  exact ⟨by rw [List.length_reverse, r.length]; omega, _, 0, Vals.rev r, Heap.get?_push_size _ rfl⟩
end
end GRL
/-! Rules: pairs of words; a rule as an object; what changes a word. No row. -/
namespace KR
open PySem PySem.Spec PyProof.Rows L2 GL KC GZ KW
abbrev Pr := List Nat × List Nat
def pD (p : Pr) : PyData := .tuple [.str (wS p.1), .str (wS p.2)]
def rD (rs : List Pr) : PyData := .tuple (rs.map pD)
structure Rul (l : Nat) (rs : List Pr) : Prop where
  len : rs.length ≤ 6
  ok : ∀ p ∈ rs, 1 ≤ p.1.length ∧ p.1.length ≤ 3 ∧ p.2.length = p.1.length ∧ p.1 ≠ p.2 ∧ (∀ j ∈ p.1, j < l) ∧ ∀ j ∈ p.2, j < l
structure RuleAt (H : Hp) (a : Addr) (rs : List Pr) : Prop where
  ex : ∃ ts : List Addr, H a = some (.tup (ts.map V.ref)) ∧ ts.length = rs.length ∧ ∀ (i : Nat) (p : Pr), rs[i]? = some p → ∃ t : Addr, ts[i]? = some t ∧ H t = some (.tup [.str (wS p.1), .str (wS p.2)])
theorem RuleAt.same {H H' : Hp} {a : Addr} {rs : List Pr} (R : RuleAt H a rs) (s : Same H H') : RuleAt H' a rs := by
  obtain ⟨ts, h1, h2, h3⟩ := R.ex
  exact ⟨ts, s _ _ h1, h2, fun i p e => let ⟨t, a, b⟩ := h3 i p e; ⟨t, a, s _ _ b⟩⟩
theorem pairs_dt {K : PySem.W.Frag} {H : Hp} : ∀ {ts : List Addr} {rs : List Pr}, ts.length = rs.length → (∀ (i : Nat) (p : Pr), rs[i]? = some p → ∃ t : Addr, ts[i]? = some t ∧ H t = some (.tup [.str (wS p.1), .str (wS p.2)])) → DtAll K H (ts.map V.ref) (rs.map pD)
  | [], [], _, _ => .nil
  | t :: ts, p :: rs, hl, h => by
    obtain ⟨t', h1, h2⟩ := h 0 p rfl
    cases h1
    refine .cons (.tup h2 (.cons (.str _) (.cons (.str _) .nil))) (pairs_dt (by simpa using hl) fun i q hq => ?_)
    obtain ⟨t2, a, b⟩ := h (i + 1) q (by simpa using hq)
    exact ⟨t2, by simpa using a, b⟩
theorem RuleAt.dt {K : PySem.W.Frag} {H : Hp} {a : Addr} {rs : List Pr} (R : RuleAt H a rs) : Dt K H (.ref a) (rD rs) := by
  obtain ⟨ts, h1, h2, h3⟩ := R.ex
  exact .tup h1 (pairs_dt h2 h3)
theorem word_shown (w : List Nat) (hw : ∀ j ∈ w, j < 4) : (PyData.str (wS w)).shown.length ≤ 10 * w.length + 2 := by
  rw [PyData.shown_str]
  have h := StrLaws.reprText_len (wS w) (fun c hc => by
    rw [wS_list] at hc
    obtain ⟨j, hj, e⟩ := List.mem_map.mp hc
    have := hw j hj
    omega)
  rw [wS_len] at h
  exact h
theorem fit_word {w : List Nat} {n k : Nat} (hw : ∀ j ∈ w, j < 4) (hn : 10 * w.length + 2 ≤ n) : Fit n k (.str (wS w)) := fit_str (word_shown w hw) hn
theorem Rul.fit {l : Nat} {rs : List Pr} (R : Rul l rs) (l4 : l ≤ 4) : Fit 1000 2 (rD rs) := by
  have one : ∀ p ∈ rs, Fit 71 1 (pD p) := fun p hp => by
    obtain ⟨h1, h2, h3, _, h5, h6⟩ := R.ok p hp
    exact (Fit.tup (FitAll.cons (fit_word (n := 32) (k := 0) (fun j hj => Nat.lt_of_lt_of_le (h5 j hj) l4) (by omega)) (FitAll.cons (fit_word (n := 32) (fun j hj => Nat.lt_of_lt_of_le (h6 j hj) l4) (by omega)) FitAll.nil))).mono (by omega) (Nat.le_refl _)
  have all : ∀ qs : List Pr, (∀ p ∈ qs, Fit 71 1 (pD p)) → FitAll (73 * qs.length) 1 (qs.map pD) := by
    intro qs
    induction qs with
    | nil => intro _; exact FitAll.nil
    | cons p qs ih =>
      intro h
      exact (FitAll.cons (h p List.mem_cons_self) (ih fun q hq => h q (List.mem_cons_of_mem _ hq))).mono (by rw [List.length_cons]; omega) (Nat.le_refl _)
  exact (Fit.tup (all rs one)).mono (by have := R.len; omega) (Nat.le_refl _)
def spRule : Sp := fun vs H Q _ => ∃ (d c : Addr) (l m : Nat), vs = [.ref d, .int l] ∧ Deck H d c m ∧ m ≤ 900000000 ∧ 1 ≤ l ∧ l ≤ 4 ∧
  ∀ (a : Addr) (rs : List Pr) (G : Hp), Rul l rs → RuleAt (Hd d c G) a rs → Deck G d c (m + 100) → Same (Hd d c H) (Hd d c G) → Q (.ref a) G

/-! ### what changes a word -/
/-- a stands in w at k -/
def At (w a : List Nat) (k : Nat) : Prop := (w.drop k).take a.length = a
theorem At.le {w a : List Nat} {k : Nat} (h : At w a k) (ha : 1 ≤ a.length) : k + a.length ≤ w.length := by
  have := congrArg List.length h
  rw [List.length_take, List.length_drop] at this
  omega
/-- the partner of the word of the pair that stands at k -/
def Hit (w : List Nat) (p : Pr) (k : Nat) (b : List Nat) : Prop := (At w p.1 k ∧ b = p.2) ∨ (At w p.2 k ∧ b = p.1)
def sw (p : Pr) : Pr := (p.2, p.1)
theorem Hit.sw {w : List Nat} {p : Pr} {k : Nat} {b : List Nat} : Hit w (sw p) k b ↔ Hit w p k b := Or.comm
/-- the change of a word -/
structure IsChg (rs : List Pr) (w : List Nat) (x : Nat × Nat × List Nat) : Prop where
  hit : ∃ p, rs[x.2.1]? = some p ∧ Hit w p x.1 x.2.2
  low : ∀ (k i : Nat) (p : Pr) (b : List Nat), rs[i]? = some p → Hit w p k b → x.1 < k ∨ (x.1 = k ∧ x.2.1 ≤ i)
def NoChg (rs : List Pr) (w : List Nat) : Prop := ∀ (k i : Nat) (p : Pr) (b : List Nat), rs[i]? = some p → ¬ Hit w p k b
theorem hit_one {l : Nat} {rs : List Pr} (R : Rul l rs) {w : List Nat} {i k : Nat} {p : Pr} {b b' : List Nat} (hp : rs[i]? = some p) (h : Hit w p k b) (h' : Hit w p k b') : b = b' := by
  obtain ⟨h1, _, h3, h4, _⟩ := R.ok p (List.mem_of_getElem? hp)
  have no : ¬ (At w p.1 k ∧ At w p.2 k) := fun ⟨a1, a2⟩ => h4 (by
    unfold At at a1 a2
    rw [h3] at a2
    exact a1.symm.trans a2)
  rcases h with ⟨a, rfl⟩ | ⟨a, rfl⟩ <;> rcases h' with ⟨a', rfl⟩ | ⟨a', rfl⟩
  · rfl
  · exact absurd ⟨a, a'⟩ no
  · exact absurd ⟨a', a⟩ no
  · rfl
theorem IsChg.one {l : Nat} {rs : List Pr} (R : Rul l rs) {w : List Nat} {x y : Nat × Nat × List Nat} (h : IsChg rs w x) (h' : IsChg rs w y) : x = y := by
  obtain ⟨p, p1, p2⟩ := h.hit
  obtain ⟨q, q1, q2⟩ := h'.hit
  have a := h.low _ _ _ _ q1 q2
  have b := h'.low _ _ _ _ p1 p2
  have e1 : x.1 = y.1 := by omega
  have e2 : x.2.1 = y.2.1 := by omega
  rw [← e2, p1] at q1
  cases q1
  rw [← e1] at q2
  have e3 := hit_one R p1 p2 q2
  obtain ⟨x1, x2, x3⟩ := x
  obtain ⟨y1, y2, y3⟩ := y
  simp only at e1 e2 e3
  rw [e1, e2, e3]
open Classical in
noncomputable def chg (rs : List Pr) (w : List Nat) : Option (Nat × Nat × List Nat) := if h : ∃ x, IsChg rs w x then some h.choose else none
theorem chg_some {l : Nat} {rs : List Pr} (R : Rul l rs) {w : List Nat} {x : Nat × Nat × List Nat} (h : IsChg rs w x) : chg rs w = some x := by
  unfold chg
  have e : ∃ x, IsChg rs w x := ⟨x, h⟩
  rw [dif_pos e]
  exact congrArg some (IsChg.one R e.choose_spec h)
theorem chg_none {rs : List Pr} {w : List Nat} (h : NoChg rs w) : chg rs w = none := by
  unfold chg
  have e : ¬ ∃ x, IsChg rs w x := fun ⟨x, hx⟩ => by
    obtain ⟨p, p1, p2⟩ := hx.hit
    exact h _ _ _ _ p1 p2
  rw [dif_neg e]
theorem chg_is {rs : List Pr} {w : List Nat} {x : Nat × Nat × List Nat} (h : chg rs w = some x) : IsChg rs w x := by
  unfold chg at h
  by_cases e : ∃ x, IsChg rs w x
  · rw [dif_pos e] at h
    cases h
    exact e.choose_spec
  · rw [dif_neg e] at h
    cases h
theorem chg_sw {l : Nat} {rs : List Pr} (R : Rul l rs) (R' : Rul l (rs.map sw)) (w : List Nat) : chg (rs.map sw) w = chg rs w := by
  have at' : ∀ {i : Nat} {p : Pr}, (rs.map sw)[i]? = some p → ∃ q, rs[i]? = some q ∧ p = sw q := fun {i p} h => by
    rw [List.getElem?_map] at h
    cases e : rs[i]? with
    | none => rw [e] at h; cases h
    | some q => rw [e] at h; exact ⟨q, rfl, (Option.some.inj h).symm⟩
  cases e : chg rs w with
  | some x =>
    obtain ⟨⟨p, p1, p2⟩, lo⟩ := chg_is e
    refine chg_some R' ⟨⟨sw p, by rw [List.getElem?_map, p1]; rfl, Hit.sw.mpr p2⟩, fun k i q b hq hb => ?_⟩
    obtain ⟨q', q1, rfl⟩ := at' hq
    exact lo k i q' b q1 (Hit.sw.mp hb)
  | none =>
    cases e' : chg (rs.map sw) w with
    | none => rfl
    | some x =>
      obtain ⟨⟨p, p1, p2⟩, lo⟩ := chg_is e'
      obtain ⟨q', q1, rfl⟩ := at' p1
      have := chg_some R (x := x) ⟨⟨q', q1, Hit.sw.mp p2⟩, fun k i q b hq hb => lo k i (sw q) b (by rw [List.getElem?_map, hq]; rfl) (Hit.sw.mpr hb)⟩
      rw [e] at this
      cases this
theorem Rul.sw {l : Nat} {rs : List Pr} (R : Rul l rs) : Rul l (rs.map sw) := by
  refine ⟨by rw [List.length_map]; exact R.len, fun p hp => ?_⟩
  obtain ⟨q, hq, rfl⟩ := List.mem_map.mp hp
  obtain ⟨h1, h2, h3, h4, h5, h6⟩ := R.ok q hq
  exact ⟨by show 1 ≤ q.2.length; omega, by show q.2.length ≤ 3; omega, h3.symm, fun e => h4 e.symm, h6, h5⟩
/-- the word that comes -/
def come (w : List Nat) (x : Nat × Nat × List Nat) : List Nat := w.take x.1 ++ x.2.2 ++ w.drop (x.1 + x.2.2.length)
/-- the value that tells it -/
def Res (w : List Nat) : Option (Nat × Nat × List Nat) → V → Hp → Prop
  | none, v, _ => v = .non
  | some x, v, G => ∃ t : Addr, v = .ref t ∧ G t = some (.tup [.int x.1, .int x.2.1, .str (wS (come w x))])
def spChg : Sp := fun vs H Q _ => ∃ (a : Addr) (l : Nat) (rs : List Pr) (w : List Nat), vs = [.ref a, .str (wS w)] ∧ RuleAt H a rs ∧ Rul l rs ∧ w.length ≤ 1000 ∧ ∀ (v : V) (G : Hp), Same H G → Res w (chg rs w) v G → Q v G
def resD (w : List Nat) : Option (Nat × Nat × List Nat) → PyData
  | none => .none
  | some x => .tuple [.int x.1, .int x.2.1, .str (wS (come w x))]
theorem Res.dt {K : PySem.W.Frag} {w : List Nat} {o : Option (Nat × Nat × List Nat)} {v : V} {G : Hp} (h : Res w o v G) : Dt K G v (resD w o) := by
  cases o with
  | none =>
    have e : v = .non := h
    rw [e]
    exact .non
  | some x =>
    obtain ⟨t, rfl, g⟩ := h
    exact .tup g (.cons (.int _) (.cons (.int _) (.cons (.str _) .nil)))

/-! ### texts -/
theorem add_inj : ∀ x y : List Nat, x.map (97 + ·) = y.map (97 + ·) → x = y
  | [], [], _ => rfl
  | [], b :: y, h => nomatch h
  | a :: x, [], h => nomatch h
  | a :: x, b :: y, h => by
    rw [List.map_cons, List.map_cons] at h
    injection h with h1 h2
    have e : a = b := by omega
    rw [e, add_inj x y h2]
theorem find_wS (w a : List Nat) (ha : 1 ≤ a.length) : (Txt.find (wS w) (wS a) = -1 ∧ ∀ k, ¬ At w a k) ∨ ∃ k : Nat, Txt.find (wS w) (wS a) = (k : Int) ∧ At w a k ∧ ∀ j, j < k → ¬ At w a j := by
  have iff : ∀ k, StrLaws.At (wS w) (wS a) (wS w).length k ↔ At w a k := fun k => by
    have e : Builtin.Str.subAt (wS w) (wS a) k = true ↔ At w a k := by
      unfold Builtin.Str.subAt At
      rw [wS_len]
      show ((((w.map (97 + ·)).toArray).extract k (k + a.length)) == ((a.map (97 + ·)).toArray)) = true ↔ _
      rw [beq_iff_eq, ← Array.toList_inj]
      simp only [List.extract_toArray, List.extract_eq_take_drop, Nat.add_sub_cancel_left, ← List.map_drop, ← List.map_take]
      exact ⟨fun h => add_inj _ _ h, fun h => by rw [h]⟩
    constructor
    · intro h
      exact e.mp h.2
    · intro h
      refine ⟨?_, e.mpr h⟩
      rw [wS_len, wS_len]
      exact h.le ha
  unfold Txt.find
  rcases StrLaws.occ_head (wS w) (wS a) 1 (Nat.le_refl 1) with ⟨h1, h2⟩ | ⟨i, r, h1, h2, h3⟩
  · rw [h1]
    exact .inl ⟨rfl, fun k hk => h2 k ((iff k).mpr hk)⟩
  · rw [h1]
    exact .inr ⟨i, rfl, (iff i).mp h2, fun j hj hk => h3 j hj ((iff j).mpr hk)⟩
theorem cutS_eq (u : List Nat) (lo hi : Option Int) : cutS (wS u) lo hi = wS ((u.drop (HT.sIx u.length 0 lo)).take (HT.sIx u.length u.length hi - HT.sIx u.length 0 lo)) := by
  unfold cutS
  show (⟨_⟩ : Str) = ⟨_⟩
  rw [wS_len]
  congr 1
  congr 1
  show ((((u.map (97 + ·)).toArray).toList.drop _).take _) = _
  rw [List.map_take, List.map_drop]
theorem sIx_nat (n d k : Nat) : HT.sIx n d (some (k : Int)) = min k n := by
  unfold HT.sIx
  simp
  omega
theorem cut_take (u : List Nat) (k : Nat) : cutS (wS u) none (some (k : Int)) = wS (u.take k) := by
  rw [cutS_eq, sIx_nat]
  show wS ((u.drop 0).take (min k u.length - 0)) = _
  rw [List.drop_zero, Nat.sub_zero, show u.take (min k u.length) = u.take k from List.take_eq_take_iff.mpr (by omega)]
theorem cut_drop (u : List Nat) (k : Nat) : cutS (wS u) (some (k : Int)) none = wS (u.drop k) := by
  rw [cutS_eq, sIx_nat]
  show wS ((u.drop (min k u.length)).take (u.length - min k u.length)) = _
  congr 1
  by_cases h : k ≤ u.length
  · rw [Nat.min_eq_left h, List.take_of_length_le (by rw [List.length_drop]; exact Nat.le_refl _)]
  · have e : min k u.length = u.length := by omega
    rw [e, List.drop_of_length_le (Nat.le_refl _), List.drop_of_length_le (by omega), List.take_nil]
theorem cut_mid (u : List Nat) (k n : Nat) : cutS (wS u) (some (k : Int)) (some ((k + n : Nat) : Int)) = wS ((u.drop k).take n) := by
  rw [cutS_eq, sIx_nat, sIx_nat]
  congr 1
  by_cases h : k ≤ u.length
  · rw [Nat.min_eq_left h]
    exact List.take_eq_take_iff.mpr (by rw [List.length_drop]; omega)
  · have e : min k u.length = u.length := by omega
    have e2 : min (k + n) u.length = u.length := by omega
    rw [e, e2, List.drop_of_length_le (Nat.le_refl _), List.drop_of_length_le (by omega), List.take_nil, List.take_nil]
end KR
/-! x[::-1] of a text. No row. -/
namespace GL
open PySem PySem.Spec PyProof.Rows L2 HT
def revS (z : Str) : Str := ⟨z.cps.toList.reverse.toArray⟩
theorem rev_list (x : Str) : ((List.range x.length).map fun k => x.cps.getD (x.length - 1 - k) 0) = x.cps.toList.reverse := by
  refine List.ext_getElem (by simp [Str.length]) fun i h1 h2 => ?_
  have hi : i < x.cps.size := by simpa [Str.length] using h1
  have e : x.length = x.cps.size := rfl
  rw [List.getElem_map, List.getElem_range, List.getElem_reverse]
  have h3 : x.cps.size - 1 - i < x.cps.size := by omega
  simp only [Array.getD, e, Array.length_toList]
  rw [dif_pos h3]
  rfl
def tRevS (te : TE) : TE := fun σ H Q => te σ H fun x G => ∃ z : Str, x = .str z ∧ z.length ≤ sizeLine ∧ Q (.str (revS z)) G
theorem made_rev (z : Str) (t u : Tok) : sliceMade z t none none (some (-1, u)) = .str (revS z) := by
  have h1 := step_rev_list z u
  rw [rev_list] at h1
  have h2 : (sliceMade z t none none (some (-1, u))) = .str (Txt.sliceBy z none none (-1, u)) := by
    unfold sliceMade Txt.sliceBy
    have c : ¬ (((((some ((-1 : Int), u)).map (·.1)).getD 1 == 1) && ((slicePicked z none none (some (-1, u))).length == z.length)) = true) := by
      have : ((((some ((-1 : Int), u)).map (·.1)).getD 1 == 1)) = false := rfl
      rw [this]; simp
    rw [if_neg c]
    rw [if_neg c]
  rw [h2]
  congr 1
  generalize Txt.sliceBy z none none (-1, u) = y at h1
  obtain ⟨c⟩ := y
  have h3 : c.toList = z.cps.toList.reverse := h1
  unfold revS
  rw [← h3]
section
variable {X : Cx}
theorem pe_revS {e : Expr} {te : TE} {k : Nat} {p1 p2 p3 pos : Pos} (he : PE X e te) : PE X (.Subscript e (.Slice none none (some (.UnaryOp .USub (.Constant (.int 1) k p1) p2)) p3) pos) (tRevS te) := by
  refine ⟨fun pins s σ H Q I h => Subscript_ (thn (he.run pins s σ H _ I h) fun v s1 ⟨x, H1, I1, r1, z, ex, hz, q⟩ => ?_)⟩
  subst ex
  obtain ⟨t, rfl⟩ := r1
  have st : PO X (some (.UnaryOp .USub (.Constant (.int 1) k p1) p2)) (tPart (tUn (rU fun i => .int (-i)) (tC (.int 1)))) := po_some (pe_un un_neg pe_int)
  refine wpAny_Slice (thn (po_none.run pins s1 σ H1 (fun o G => o = none ∧ G = H1) I1 ⟨rfl, rfl⟩) fun vl s2 ⟨o2, H2, I2, pl, el, e2⟩ => ?_)
  cases el
  cases e2
  refine thn (po_none.run pins s2 σ H1 (fun o G => o = none ∧ G = H1) I2 ⟨rfl, rfl⟩) fun vu s3 ⟨o3, H3, I3, pu, eu, e3⟩ => ?_
  cases eu
  cases e3
  refine thn (st.run pins s3 σ H1 (fun o G => o = some (-1) ∧ G = H1) I3 ⟨1, rfl, -1, rfl, rfl, rfl⟩) fun vc s4 ⟨o4, H4, I4, pc, ec, e4⟩ => ?_
  cases ec
  cases e4
  have J : Inv X pins σ H1 { s4 with heap := s4.heap.push { cls := .type "slice", data := .fields #[vl, vu, vc] } } := I4.kept (t' := s4.toks) fun b ob z => Heap.get?_push_of_some _ z
  cases pl
  cases pu
  obtain ⟨u, rfl, hu⟩ := IsPart.raw pc
  cases u with
  | none => cases hu
  | some iu =>
    obtain ⟨i, tk⟩ := iu
    have hi : i = -1 := Option.some.inj hu
    subst hi
    show wpAny (model X.prog X.w) X.A (subscriptTail e (.Slice none none (some (.UnaryOp .USub (.Constant (.int 1) k p1) p2)) p3) (.str z t) (.ref s4.heap.objs.size)) (EP X pins σ Q) X.xe { s4 with heap := s4.heap.push { cls := .type "slice", data := .fields #[.none, .none, partValue (some (-1, tk))] } }
    refine tail_any (ops := [.str z t, .ref s4.heap.objs.size]) (typeIs_str _ z t) F.slot_str_getitem.lookup ?_ (by with_unfolding_all rfl)
    refine wpAny_getItem_str_slice (l := none) (u := none) (st := some (-1, tk)) ⟨_, Heap.get?_push_size _ rfl, rfl, rfl⟩ rfl ?_
    rw [made_rev]
    refine ⟨?_, .str _, H1, J.tok _, ⟨_, rfl⟩, q⟩
    show (revS z).cps.size ≤ _
    unfold revS
    rw [List.size_toArray, List.length_reverse, Array.length_toList]
    exact hz
end
end GL
/-! Lists of pairs that grow; pairs as data. No row. -/
namespace KPd
open PySem PySem.Spec PyProof.Rows L2 GL KC GZ KW KR
def PrsAt (G : Hp) (us : List Addr) (qs : List Pr) : Prop := us.length = qs.length ∧ ∀ (i : Nat) (q : Pr), qs[i]? = some q → ∃ t : Addr, us[i]? = some t ∧ G t = some (.tup [.str (wS q.1), .str (wS q.2)])
theorem PrsAt.same {G G' : Hp} {us : List Addr} {qs : List Pr} (h : PrsAt G us qs) (s : Same G G') : PrsAt G' us qs := ⟨h.1, fun i q e => let ⟨t, a, b⟩ := h.2 i q e; ⟨t, a, s _ _ b⟩⟩
theorem PrsAt.put {G : Hp} {us : List Addr} {qs : List Pr} {L : Addr} {xs : List V} (h : PrsAt G us qs) (g : G L = some (.lst xs)) (o : HO) : PrsAt (upd G L o) us qs := ⟨h.1, fun i q e => let ⟨t, a, b⟩ := h.2 i q e; ⟨t, a, by rw [upd_ne (fun z => by rw [z, g] at b; cases b)]; exact b⟩⟩
theorem PrsAt.snoc {G : Hp} {us : List Addr} {qs : List Pr} {t : Addr} {q : Pr} (h : PrsAt G us qs) (g : G t = some (.tup [.str (wS q.1), .str (wS q.2)])) : PrsAt G (us ++ [t]) (qs ++ [q]) := by
  refine ⟨by rw [List.length_append, List.length_append, h.1]; rfl, fun i q' e => ?_⟩
  rcases Nat.lt_trichotomy i qs.length with c | c | c
  · rw [List.getElem?_append_left c] at e
    obtain ⟨t', a, b⟩ := h.2 i q' e
    exact ⟨t', by rw [List.getElem?_append_left (by rw [h.1]; exact c)]; exact a, b⟩
  · subst c
    rw [List.getElem?_append_right (Nat.le_refl _), Nat.sub_self] at e
    cases e
    exact ⟨t, by rw [← h.1, List.getElem?_append_right (Nat.le_refl _), Nat.sub_self]; rfl, g⟩
  · rw [List.getElem?_eq_none (by rw [List.length_append, List.length_singleton]; omega)] at e
    cases e
theorem PrsAt.nil {G : Hp} : PrsAt G [] [] := ⟨rfl, fun i q e => by cases e⟩
theorem RuleAt.prs {H : Hp} {a : Addr} {rs : List Pr} (h : RuleAt H a rs) : ∃ ts : List Addr, H a = some (.tup (ts.map V.ref)) ∧ PrsAt H ts rs := by
  obtain ⟨ts, h1, h2, h3⟩ := h.ex
  exact ⟨ts, h1, h2, h3⟩
theorem PrsAt.rule {G : Hp} {a : Addr} {us : List Addr} {qs : List Pr} (h : PrsAt G us qs) (g : G a = some (.tup (us.map V.ref))) : RuleAt G a qs := ⟨us, g, h.1, h.2⟩
theorem PrsAt.dp {K : PySem.W.Frag} {G : Hp} : ∀ {us : List Addr} {qs : List Pr}, PrsAt G us qs → DpAll K G (us.map V.ref) (qs.map pD)
  | [], [], _ => .nil
  | [], q :: qs, h => by have := h.1; simp at this
  | u :: us, [], h => by have := h.1; simp at this
  | u :: us, q :: qs, h => by
    obtain ⟨t, a, b⟩ := h.2 0 q rfl
    cases a
    refine .cons (.tup (.inl (.inl b)) (.cons (.str _) (.cons (.str _) .nil))) (PrsAt.dp ⟨by have := h.1; simpa using this, fun i q' e => ?_⟩)
    obtain ⟨t', a', b'⟩ := h.2 (i + 1) q' (by simpa using e)
    exact ⟨t', by simpa using a', b'⟩
theorem PrsAt.take {G : Hp} {us : List Addr} {qs : List Pr} (h : PrsAt G us qs) (k : Nat) : PrsAt G (us.take k) (qs.take k) := by
  refine ⟨by rw [List.length_take, List.length_take, h.1], fun i q e => ?_⟩
  rw [List.getElem?_take] at e ⊢
  split at e
  · rename_i c
    rw [if_pos c]
    exact h.2 i q e
  · cases e
theorem strOk_w {w : List Nat} (h : ∀ j ∈ w, j < 1000) : PyData.strOk (wS w) = true := by
  unfold PyData.strOk wS
  rw [List.all_toArray, List.all_eq_true]
  intro c hc
  obtain ⟨j, hj, rfl⟩ := List.mem_map.mp hc
  have := h j hj
  exact decide_eq_true (by omega)
def Lo (qs : List Pr) : Prop := ∀ q ∈ qs, (∀ j ∈ q.1, j < 1000) ∧ ∀ j ∈ q.2, j < 1000
theorem lay_pairs : ∀ qs : List Pr, Lo qs → PyData.canLayAll0 (qs.map pD) = true ∧ PyData.depthAll (qs.map pD) ≤ 1
  | [], _ => ⟨rfl, Nat.zero_le _⟩
  | q :: qs, h => by
    obtain ⟨a, b⟩ := lay_pairs qs fun x hx => h x (List.mem_cons_of_mem _ hx)
    obtain ⟨c1, c2⟩ := h q List.mem_cons_self
    rw [List.map_cons]
    refine ⟨?_, ?_⟩
    · simp only [PyData.canLayAll0, a, Bool.and_true]
      simp [pD, PyData.canLay0, PyData.canLayAll0, strOk_w c1, strOk_w c2]
    · simp only [PyData.depthAll]
      refine Nat.max_le.mpr ⟨?_, b⟩
      simp [pD, PyData.depth, PyData.depthAll]
theorem shaped_pairs {qs : List Pr} (h : Lo qs) : SeqAt.shaped (.tuple (qs.map pD)) = true := by
  obtain ⟨a, b⟩ := lay_pairs qs h
  unfold SeqAt.shaped
  have e : PyData.canLay0 (.tuple (qs.map pD)) = PyData.canLayAll0 (qs.map pD) := by simp only [PyData.canLay0]
  rw [e, a, Bool.true_and, decide_eq_true_iff]
  have d : (PyData.tuple (qs.map pD)).depth = PyData.depthAll (qs.map pD) + 1 := by simp only [PyData.depth]
  omega
theorem revS_wS (w : List Nat) : GL.revS (wS w) = wS w.reverse := by
  unfold GL.revS
  rw [wS_list]
  unfold wS
  rw [List.map_reverse]
theorem cut_take' (xs : List V) (k : Nat) : cutV xs none (some (k : Int)) = xs.take k := by
  unfold cutV
  rw [sIx_nat]
  show (xs.drop 0).take (min k xs.length - 0) = _
  rw [List.drop_zero, Nat.sub_zero]
  exact List.take_eq_take_iff.mpr (by omega)
end KPd
/-! by_layers. -/
namespace S25
open PySem L2 GL KC GZ KW KM GRJ KB GW
open K25 hiding seq_cut
abbrev sBl : Stmt := top 22
abbrev NBl : List Str := ["machine", "length", "prepared", "step", "letters", "rows", "ends", "layers", "row", "goal", "known", "sums", "end", "layer", "states", "told", "found", "state", "amount"]
theorem scBl : FnScope NBl ["machine", "length", "prepared", "step"] (defScope sBl) := ⟨rfl, rfl, rfl, by decide +kernel, rfl, by decide +kernel, by decide +kernel⟩
def scLs : Scope := match (defBody sBl).getD 1 sBl with
  | .Assign _ (.Call _ (.ListComp _ _ sc _ :: _) _ _) _ => sc
  | _ => defScope sBl
theorem cnt_none {l : Nat} {rows : Rows} {ends bs : List Bool} : ∀ (q s : Nat), ¬ Bck rows ends q s → cnt l rows ends bs q s = 0
  | 0, s, h => by
    rw [bck_zero] at h
    show (if ends.getD s false then (1 : Int) else 0) = 0
    rw [if_neg h]
  | q + 1, s, h => by
    rw [bck_succ] at h
    show ((List.range l).map _).sum = 0
    refine Eq.trans ?_ (zero_sum (List.range l))
    congr 1
    refine List.map_congr_left fun j _ => ?_
    cases e : stepM rows s j with
    | none => rfl
    | some t =>
      show sj bs j * cnt l rows ends bs q t = 0
      rw [cnt_none q t fun z => h ⟨j, t, e, z⟩, Int.mul_zero]
/-- the sum for a state by those of its goals -/
theorem dot_row {l n : Nat} {rows : Rows} {ends bs : List Bool} {m : Int} (hm : m = 1 ∨ m = -1) (k s : Nat) {r : List (Option Nat)} (w4 : ∀ j, stepM rows s j = r.getD j none) {us : List Int} (hn : us.getD n 0 = 0) (hu : ∀ j t, stepM rows s j = some t → us.getD t 0 = m ^ k * cnt l rows ends bs k t) :
    dot (sgOf (ordA l bs m).length (ordB l bs m).length) ((ordA l bs m ++ ordB l bs m).map fun j => (r.getD j none).getD n) us = m ^ (k + 1) * cnt l rows ends bs (k + 1) s := by
  rw [List.map_append]
  unfold sgOf
  rw [dot_two (fun j => (r.getD j none).getD n)]
  unfold ordA ordB
  rw [split_sum hm bs]
  show _ = m ^ (k + 1) * ((List.range l).map fun j => match stepM rows s j with | none => 0 | some t => sj bs j * cnt l rows ends bs k t).sum
  rw [mul_sum]
  congr 1
  refine List.map_congr_left fun j _ => ?_
  rw [← w4 j]
  cases e : stepM rows s j with
  | none =>
    show m * (sj bs j * us.getD n 0) = m ^ (k + 1) * 0
    rw [hn, Int.mul_zero, Int.mul_zero, Int.mul_zero]
  | some t =>
    show m * (sj bs j * us.getD t 0) = m ^ (k + 1) * (sj bs j * cnt l rows ends bs k t)
    rw [hu j t e, Int.pow_succ]
    generalize m ^ k = p
    generalize cnt l rows ends bs k t = c
    generalize sj bs j = q
    rw [Int.mul_comm p m, Int.mul_assoc m, ← Int.mul_assoc q p, Int.mul_comm q p, Int.mul_assoc p q]
/-- what is known of a layer's states -/
def KnAt (G : Hp) (n : Nat) (ts : List Addr) (x : Nat) (v : V) : Prop := ∃ (Tt A B : Addr) (ms : List Nat) (us : List Addr), v = .ref Tt ∧ G Tt = some (.tup [.ref A, .ref B]) ∧ G A = some (.lst (nvl ms)) ∧ ListOf x ms ∧ G B = some (.lst (us.map V.ref)) ∧ us.length = ms.length ∧ ∀ (i s : Nat), ms[i]? = some s → us[i]? = ts[s]?
theorem KnAt.but {G G' : Hp} {n : Nat} {ts : List Addr} {x : Nat} {v : V} {D : Addr} (h : KnAt G n ts x v) (b : ∀ b o, G b = some o → b ≠ D → G' b = some o) {kvs : List (Key × V)} (gD : G D = some (.dK kvs)) : KnAt G' n ts x v := by
  obtain ⟨Tt, A, B, ms, us, h1, h2, h3, h4, h5, h6, h7⟩ := h
  exact ⟨Tt, A, B, ms, us, h1, b _ _ h2 (fun z => by rw [z, gD] at h2; cases h2), b _ _ h3 (fun z => by rw [z, gD] at h3; cases h3), h4, b _ _ h5 (fun z => by rw [z, gD] at h5; cases h5), h6, h7⟩
/-- what a list of states is made to -/
def spPrep : List (Option V) → Sp := fun ws vs H Q _ => ∃ (LG A : Addr) (ts : List Addr) (ms : List Nat), ws = [some (.ref LG)] ∧ vs = [.ref A] ∧ H LG = some (.lst (ts.map V.ref)) ∧ H A = some (.lst (nvl ms)) ∧ (∀ s ∈ ms, s < ts.length) ∧ ms.length ≤ 1000 ∧
  ∀ (B : Addr) (us : List Addr) (G : Hp), Same H G → G B = some (.lst (us.map V.ref)) → us.length = ms.length → (∀ (i s : Nat), ms[i]? = some s → us[i]? = ts[s]?) → Q (.ref B) G
def spBl (P : Program) (w : World) (K : PySem.W.Frag) (mg : Str → Option Value) (base : Heap) : List (Str × Addr) → List Str → List (Option V) → Sp := fun cl fr ws vs H Q _ => ∃ (p fL fS LG : Addr) (F : GCL.LF) (l n L : Nat) (rows : Rows) (ends bs : List Bool) (m : Int) (ts : List Addr),
  vs = [.ref p, .int L, .ref fL, .ref fS] ∧ MachAt H p l rows ends ∧ WF l n rows ends ∧ L ≤ 1000 ∧ bs.length = l ∧ (m = 1 ∨ m = -1) ∧ F.cl = cl ∧ H fL = some (GCL.LamO fL F) ∧ H F.c = some (LamX.CodeO F.c F.qual) ∧ GCL.LOk P w K mg base CX0 1 fL F ["states"] fr spPrep ∧
  ws = [some (.ref LG)] ∧ H LG = some (.lst (ts.map V.ref)) ∧ TupsAt H ts (rows.map fun r => (ordA l bs m ++ ordB l bs m).map fun j => (r.getD j none).getD n) ∧ Held P w K mg base 1 fS (spStep (sgOf (ordA l bs m).length (ordB l bs m).length)) ∧
  ∀ G, Same H G → Q (.int (m ^ L * cnt l rows ends bs L 0)) G
section
variable {P : Program} {w : World} {K : PySem.W.Frag} {mg : Str → Option Value} {base : Heap}
theorem ok_bl {f fW fM : Addr} {fd fdW fdM : FuncData} (Fn : Fun K "by_layers" "by_layers" sBl f fd) (T : TxC mg) (TZ : mg "zip" = none) (WL : Dfn P w K mg base "word_layers" 5 fW fdW ["goals", "ends", "length"] (spLayers K)) (ME : Dfn P w K mg base "members" 1 fM fdM ["states"] spMembers) :
    GCL.FnOkW P w K mg base CX0 6 f fd ["machine", "length", "prepared", "step"] (spBl P w K mg base) := by
  refine GCL.okW0 Fn scBl (fun cl fr ws vs H Q E h => ?_) (fun cdv A outer s H vs Q E cl fr ws hr C nf h => ?_)
  · obtain ⟨p, fL, fS, LG, F, l, n, L, rows, ends, bs, m, ts, rfl, _⟩ := h
    rfl
  obtain ⟨p, fL, fS, LG, F, l, n, L, rows, ends, bs, m, ts, rfl, M, W, L1, bl, hm, rfl, oL, oC, LO, hws, gG, TA, hHeld, q⟩ := h
  have hr1 : Room 1 _ := hr.mono (by decide)
  have hr5 : Room 5 _ := hr
  have hu2 : (A.deeper (PyProof.Rows.envOfC "by_layers" (defScope sBl) s.heap.objs.size f cdv)).units + 1 < cLine := by have := hr.un; omega
  have hA : ∀ g sp, (fun a : Addr => if a = fS then some (spStep (sgOf (ordA l bs m).length (ordB l bs m).length)) else none) g = some sp → Held P w K mg base 1 g sp := fun g sp e => by
    dsimp only at e
    split at e
    · rename_i h
      cases e
      rw [h]
      exact hHeld
    · cases e
  refine ⟨_, (pss_cons (ps_asg (pv 0) (pg_tup (by rfl) (pgs_cons (pg_name (i := 4) scBl.nd rfl (Or.inl rfl)) (pgs_cons (pg_name (i := 5) scBl.nd rfl (Or.inl rfl)) (pgs_cons (pg_name (i := 6) scBl.nd rfl (Or.inl rfl)) pgs_nil)))))
    (pss_cons (ps_set (i := 7) scBl.nd rfl (Or.inl rfl) (pe_call WL.ok hr5 rfl WL.m WL.kp WL.b .nil pass0 (pa_cons (pe_lc (own := [("row", 8)]) (g := gName 8) (tt := tYes) rfl scBl.nd (pi_tup (pv 5)) (blkOk_by (own := [("row", 8)]) (N := NBl) (sc := defScope sBl) (by decide +kernel)) (fun _ _ _ _ _ => pg_name (i := 8) scBl.nd rfl (Or.inl rfl)) (fun _ _ _ _ _ => pts_nil) (fun _ _ _ _ _ => (pe_lc (own := [("goal", 9)]) (g := gName 9) rfl scBl.nd (show PI _ _ _ (iTup K _) from (pi_tup (pv 8))) (blkOk_by (own := [("goal", 9)]) (N := NBl) (sc := relS scLs (defScope sBl)) (by decide +kernel)) (fun _ _ _ _ _ => pg_name (i := 9) scBl.nd rfl (Or.inl rfl)) (fun _ _ _ _ _ => pts_one (pt_cmp (pc_notN (pv 9)))) (fun _ _ _ _ _ => (pv 9))))) (pa_cons (pv 6) (pa_cons (pv 1) pa_nil)))))
    (pss_cons (ps_if (pt_cmpR op_eq (pe_ix ix_list (pv 7) pe_int (fun _ _ => rfl)) pe_int (nomark _))
      (pss_one (ps_ret pe_int))
      pss_nil)
    (pss_cons (ps_set (i := 10) scBl.nd rfl (Or.inl rfl) pe_dnewK)
    (pss_cons (ps_set (i := 11) scBl.nd rfl (Or.inl rfl) (pe_op op_cat (pe_lc (own := [("end", 12)]) (g := gName 12) (tt := tYes) rfl scBl.nd (pi_tup (pv 6)) (blkOk_by (own := [("end", 12)]) (N := NBl) (sc := defScope sBl) (by decide +kernel)) (fun _ _ _ _ _ => pg_name (i := 12) scBl.nd rfl (Or.inl rfl)) (fun _ _ _ _ _ => pts_nil) (fun _ _ _ _ _ => (pe_callTy call_int1 (by rfl) T.int (by decide +kernel) (pa_cons (pv 12) pa_nil)))) (pe_lst (pa_cons pe_int pa_nil))))
    (pss_cons (ps_for PassesOwn.never rfl (pi_list (GRL.pe_revL (pe_slice sl_list (pv 7) po_none (po_some (pv 1))))) (pg_name (i := 13) scBl.nd rfl (Or.inl rfl))
      (pss_cons (ps_if (pt_cmp (pc_dnotin hu2 (pv 13) (pv 10)))
        (pss_cons (ps_set (i := 14) scBl.nd rfl (Or.inl rfl) (pe_call ME.ok hr1 rfl ME.m ME.kp ME.b .nil pass0 (pa_cons (pv 13) pa_nil)))
        (pss_one (ps_dput hu2 (pv 10) (pv 13) (pe_tup (pa_cons (pv 14) (pa_cons (GCL.pe_callP (f := fL) (F := F) (ws := ws) (i := 2) LO C nf rfl hr1 (Nat.le_refl 1) pass0 rfl (Or.inl rfl) (pa_cons (pv 14) pa_nil)) pa_nil))) rfl)))
        pss_nil)
      (pss_cons (ps_asg (pe_dget hu2 (pv 10) (pv 13) (fun _ _ => rfl)) (pg_tup (by rfl) (pgs_cons (pg_name (i := 14) scBl.nd rfl (Or.inl rfl)) (pgs_cons (pg_name (i := 15) scBl.nd rfl (Or.inl rfl)) pgs_nil))))
      (pss_cons (ps_set (i := 16) scBl.nd rfl (Or.inl rfl) (pe_callA (i := 3) hA hr1 rfl (Or.inl rfl) (pa_cons (pv 15) (pa_cons (pv 11) pa_nil))))
      (pss_cons (ps_set (i := 11) scBl.nd rfl (Or.inl rfl) (pe_op op_rep (pe_lst (pa_cons pe_int pa_nil)) (pe_op op_add (pe_callB call_lenS (by rfl) T.len PySem.boot_len (pa_cons (pv 5) pa_nil)) pe_int)))
      (pss_one (ps_for PassesOwn.never rfl (pi_z2 rfl TZ (pa_cons (pv 14) (pa_cons (pv 16) pa_nil))) (pg_tup (by rfl) (pgs_cons (pg_name (i := 17) scBl.nd rfl (Or.inl rfl)) (pgs_cons (pg_name (i := 18) scBl.nd rfl (Or.inl rfl)) pgs_nil)))
        (pss_one (ps_asg (pv 18) (pg_sub (pv 11) (pv 17) set_list))))))))))
    (pss_one (ps_ret (pe_ix ix_list (pv 11) pe_int (fun _ _ => rfl)))))))))), ?_⟩
  obtain ⟨pr, pe, rvs, m1, m2, m3, m4, m5⟩ := M.ex
  have l4 := W.l4
  have l1 := W.l1
  have wn1 := W.n1
  have n4 := W.n4
  have rn : rvs.length = n := by rw [m4, W.rl]
  subst bl
  refine ⟨_, rfl, p, _, rfl, .inl (.inl m1), rfl, _, _, rfl, _, _, rfl, _, _, rfl, rfl, ?_⟩
  -- the layers
  dsimp only [gName]
  obtain ⟨gl, hgl⟩ : ∃ gl : List (List Nat), gl = rows.map fun r => r.filterMap id := ⟨_, rfl⟩
  have gll : gl.length = n := by rw [hgl, List.length_map, W.rl]
  have glat : ∀ i, i < n → ∃ r, rows[i]? = some r ∧ gl.getD i [] = r.filterMap id ∧ r.length = bs.length ∧ (∀ k, some k ∈ r → k < n) ∧ ∀ j, stepM rows i j = r.getD j none := fun i hi => by
    obtain ⟨r, w1, w2, w3, w4⟩ := W.row hi
    refine ⟨r, w1, ?_, w2, w3, w4⟩
    rw [hgl, List.getD_eq_getElem?_getD, List.getElem?_map, w1]
    rfl
  have goals : Goals rows gl := fun s t => by
    by_cases hs : s < n
    · obtain ⟨r, w1, e, w2, w3, w4⟩ := glat s hs
      rw [e, List.mem_filterMap]
      constructor
      · rintro ⟨o, ho, e⟩
        obtain ⟨j, hj, ej⟩ := List.mem_iff_getElem.mp ho
        refine ⟨j, ?_⟩
        rw [w4, List.getD_eq_getElem?_getD, List.getElem?_eq_getElem hj, ej]
        exact e
      · rintro ⟨j, hj⟩
        rw [w4, List.getD_eq_getElem?_getD] at hj
        cases e3 : r[j]? with
        | none => rw [e3] at hj; cases hj
        | some o => rw [e3] at hj; exact ⟨o, List.mem_of_getElem? e3, hj⟩
    · constructor
      · intro h
        rw [List.getD_eq_getElem?_getD, List.getElem?_eq_none (by rw [gll]; omega)] at h
        cases h
      · rintro ⟨j, hj⟩
        unfold stepM at hj
        rw [List.getD_eq_getElem?_getD (l := rows), List.getElem?_eq_none (by rw [W.rl]; omega)] at hj
        cases j <;> cases hj
  have glok : ∀ r ∈ gl, r.length ≤ 4 ∧ ∀ t ∈ r, t < gl.length := fun r hr => by
    rw [hgl] at hr
    obtain ⟨r0, h0, rfl⟩ := List.mem_map.mp hr
    obtain ⟨a, b⟩ := W.rw r0 h0
    refine ⟨Nat.le_trans (List.length_filterMap_le _ _) (by omega), fun t ht => ?_⟩
    rw [List.mem_filterMap] at ht
    obtain ⟨o, ho, e⟩ := ht
    rw [gll]
    exact b t (by rw [← show o = some t from e]; exact ho)
  refine seq_cut (t := tAsg _ _) (fun σ G => ∃ (Ll : Addr) (ls : List Nat), σ = [some (.ref p), some (.int L), some (.ref fL), some (.ref fS), some (.int (bs.length : Int)), some (.ref pr), some (.ref pe), some (.ref Ll), none, none, none, none, none, none, none, none, none, none, none] ∧ Same H G ∧ G Ll = some (.lst (nV ls)) ∧ ls.length = L + 1 ∧ (∀ p x, ls[p]? = some x → Bits x (InL rows ends p (L - p)) ∧ ∀ s, x.testBit s = true → s < n)) ?_ ?_
  · intro Q' hq
    refine ⟨_, rfl, pr, rfl, ⟨_, .inl (.inl m2)⟩, fun Lg nLg => lc_tup (K := K) (a := pr) (xs := rvs) (fun i G => Same H G ∧ ∃ rs : List Addr, G Lg = some (.lst (rs.map V.ref)) ∧ (∀ u ∈ rs, u ≠ Lg) ∧ rs.length = i ∧ ∀ t d, rs[t]? = some d → G d = some (.lst (nV (gl.getD t [])))) ⟨same_new nLg _, [], upd_same, (fun u h => nomatch h), rfl, fun t d h => by cases h⟩ (fun i G _ h => .inl (.inl (h.1 _ _ m2))) ?_ ?_⟩
    · rintro i x G hx ⟨sG, rs, gg, un, rl, ra⟩
      have il : i < rvs.length := (List.getElem?_eq_some_iff.mp hx).1
      rw [rn] at il
      obtain ⟨r, w1, eg, w2, w3, w4⟩ := glat i il
      obtain ⟨t, t1, t2⟩ := m5 i r w1
      rw [hx] at t1
      cases t1
      have gt := sG _ _ t2
      refine ⟨rfl, _, rfl, t, rfl, ⟨_, .inl (.inl gt)⟩, fun Lr nLr => lc_tup (K := K) (a := t) (xs := r.map oV) (fun j G' => Same G G' ∧ G' Lr = some (.lst (nV ((r.take j).filterMap id)))) ⟨same_new nLr _, upd_same⟩ (fun j G' _ h => .inl (.inl (h.1 _ _ gt))) ?_ ?_⟩
      · rintro j y G' hy ⟨s', g'⟩
        rw [List.getElem?_map] at hy
        obtain ⟨o, eo, rfl⟩ := Option.map_eq_some_iff.mp hy
        have jl : j < r.length := (List.getElem?_eq_some_iff.mp eo).1
        refine ⟨rfl, _, rfl, _, rfl, ite2 (fun c => ?_) (fun c => ?_)⟩
        · cases o with
          | none => exact absurd c (by decide)
          | some k =>
            refine ⟨_, rfl, _, g', ?_, same_grow nLr s' _, ?_⟩
            · unfold nV
              rw [List.length_map]
              have := List.length_filterMap_le id (r.take j)
              rw [List.length_take] at this
              show _ < 2 ^ 24
              omega
            · rw [upd_same, List.take_add_one, eo, List.filterMap_append]
              unfold nV
              rw [List.map_append]
              rfl
        · cases o with
          | some k => exact absurd rfl c
          | none =>
            refine ⟨s', ?_⟩
            rw [List.take_add_one, eo, List.filterMap_append, g']
            show _ = some (HO.lst (nV (_ ++ [])))
            rw [List.append_nil]
      · rintro G' ⟨s', g'⟩
        rw [List.length_map, List.take_length] at g'
        have ne : Lg ≠ Lr := fun z => by rw [z] at gg; rw [gg] at nLr; cases nLr
        refine ⟨_, s' _ _ gg, by rw [List.length_map, rl]; show i < 2 ^ 24; omega, same_grow nLg (sG.trans s') _, rs ++ [Lr], by rw [upd_same, List.map_append]; rfl, fun u hu => ?_, by rw [List.length_append, rl]; rfl, fun t2 d hd => ?_⟩
        · rcases List.mem_append.mp hu with h | h
          · exact un u h
          · rw [List.mem_singleton.mp h]
            exact fun z => ne z.symm
        · by_cases ht : t2 < rs.length
          · rw [List.getElem?_append_left ht] at hd
            rw [upd_ne (un d (List.mem_of_getElem? hd))]
            exact s' _ _ (ra t2 d hd)
          · have h2 := (List.getElem?_eq_some_iff.mp hd).1
            rw [List.length_append, List.length_singleton] at h2
            have e2 : t2 = i := by omega
            subst e2
            rw [List.getElem?_append_right (by omega), rl, Nat.sub_self] at hd
            cases hd
            rw [upd_ne (fun z => ne z.symm), eg]
            exact g'
    · rintro G ⟨sG, rs, gg, un, rl, ra⟩
      rw [rn] at rl
      refine ⟨_, rfl, _, rfl, Lg, pe, .tup, rs, gl, rows, ends, L, rfl, gg, fun t d hd => ra t d hd, by rw [gll, rl], by omega, glok, by omega, fun G' s' => ⟨_, rfl, .inl (.inl (s' _ _ (sG _ _ m3)))⟩, by rw [W.el, gll], goals, by omega, fun Ll G' ls s' gl' ll hb => ?_⟩
      rw [gll] at hb
      exact hq _ _ ⟨Ll, ls, rfl, sG.trans s', gl', ll, hb⟩
  rintro σ G1 ⟨Ll, ls, rfl, s1, gl1, ll, hb⟩
  have at0 : ∃ x0, ls[0]? = some x0 := ⟨_, List.getElem?_eq_getElem (by omega)⟩
  obtain ⟨x0, hx0⟩ := at0
  refine seq_cut (t := tIfS _ _ _) (fun σ G => x0 ≠ 0 ∧ G = G1 ∧ σ = [some (.ref p), some (.int L), some (.ref fL), some (.ref fS), some (.int (bs.length : Int)), some (.ref pr), some (.ref pe), some (.ref Ll), none, none, none, none, none, none, none, none, none, none, none]) ?_ ?_
  · intro Q' hq
    refine ⟨_, rfl, Ll, _, 0, .int (x0 : Int), rfl, rfl, .inl (.inl gl1), atI_nat (j := 0) (by unfold nV; rw [List.getElem?_map, hx0]; rfl), rfl, _, rfl, ite2 (fun c => ?_) (fun c => ?_)⟩
    · have c := V.int.inj (of_decide_eq_true c)
      have z0 : x0 = 0 := by omega
      subst z0
      have nb : ¬ Bck rows ends L 0 := fun b => by
        have h := (hb 0 0 hx0).1.zero.mp rfl
        exact h 0 ⟨(fwd_zero rows 0).mpr rfl, b⟩
      have k := q G1 s1
      rw [cnt_none L 0 nb, Int.mul_zero] at k
      exact k
    · exact hq _ _ ⟨fun z => c (by rw [z]; exact decide_eq_true rfl), rfl, rfl⟩
  rintro σ G2 ⟨x0n, e2, rfl⟩
  subst e2
  clear x0n hx0
  intro Dk nDk
  have w3 := same_new nDk (.dK [])
  have gD0 : upd G2 Dk (.dK []) Dk = some (.dK []) := upd_same
  generalize upd G2 Dk (.dK []) = G3 at w3 gD0
  dsimp only [gName]
  refine seq_cut (t := tAsg _ _) (fun σ G => ∃ (Ls : Addr) (f : Nat → Int), Same G3 G ∧ G Ls = some (.lst (vl (n + 1) f)) ∧ f n = 0 ∧ (∀ t, t < n → f t = cnt bs.length rows ends bs 0 t) ∧ σ = [some (.ref p), some (.int L), some (.ref fL), some (.ref fS), some (.int (bs.length : Int)), some (.ref pr), some (.ref pe), some (.ref Ll), none, none, some (.ref Dk), some (.ref Ls), none, none, none, none, none, none, none]) ?_ ?_
  · intro Q' hq
    have el := W.el
    have m33 := w3 _ _ (s1 _ _ m3)
    refine ⟨_, rfl, pe, rfl, ⟨_, .inl (.inl m33)⟩, fun LE nLE => lc_tup (K := K) (a := pe) (xs := ends.map V.bl) (fun i G' => Same G3 G' ∧ G' LE = some (.lst (vl i fun s => if ends.getD s false then 1 else 0))) ⟨same_new nLE _, upd_same⟩ (fun i G' _ h => .inl (.inl (h.1 _ _ m33))) ?_ ?_⟩
    · rintro i x G' hx ⟨sG, gL⟩
      rw [List.getElem?_map] at hx
      obtain ⟨b, eb, rfl⟩ := Option.map_eq_some_iff.mp hx
      have il : i < ends.length := (List.getElem?_eq_some_iff.mp eb).1
      refine ⟨rfl, _, rfl, .inr ⟨b, rfl, _, gL, by rw [vl_len]; show i < 2 ^ 24; omega, same_grow nLE sG _, ?_⟩⟩
      rw [upd_same, vl_snoc, List.getD_eq_getElem?_getD, eb]
      rfl
    · rintro G' ⟨sG, gL⟩
      rw [List.length_map, el] at gL
      refine ⟨by show 1 ≤ 2 ^ 24; decide, fun L0 nL0 => ?_⟩
      have w8 := same_new nL0 (.lst [V.int 0])
      have g8 : upd G' L0 (.lst [V.int 0]) L0 = _ := upd_same
      generalize upd G' L0 (.lst [V.int 0]) = G8 at w8 g8
      refine ⟨LE, L0, _, _, rfl, rfl, w8 _ _ gL, g8, by rw [vl_len]; show n + 1 ≤ 2 ^ 24; omega, fun LS nLS => hq _ _ ⟨LS, fun t => if t < n then (if ends.getD t false then 1 else 0) else 0, sG.trans (w8.trans (same_new nLS _)), ?_, if_neg (Nat.lt_irrefl n), fun t ht => if_pos ht, rfl⟩⟩
      rw [upd_same, vl_snoc, if_neg (Nat.lt_irrefl n)]
      congr 3
      exact vl_congr fun i hi => (if_pos hi).symm
  rintro σ G4 ⟨Ls0, f0, s4, gs0, f0n, f0v, rfl⟩
  have gD4 := s4 _ _ gD0
  have gl4 := s4 _ _ (w3 _ _ gl1)
  refine seq_cut (t := tFor _ _ _) (fun σ G => ∃ (Ls : Addr) (f : Nat → Int) (k13 k14 k15 k16 k17 k18 : Option V), (∀ b o, G4 b = some o → b ≠ Dk → G b = some o) ∧ G Ls = some (.lst (vl (n + 1) f)) ∧ f 0 = m ^ L * cnt bs.length rows ends bs L 0 ∧ σ = [some (.ref p), some (.int L), some (.ref fL), some (.ref fS), some (.int (bs.length : Int)), some (.ref pr), some (.ref pe), some (.ref Ll), none, none, some (.ref Dk), some (.ref Ls), none, k13, k14, k15, k16, k17, k18]) ?_ ?_
  · intro Q' hq
    refine ⟨_, rfl, _, rfl, _, rfl, Ll, nV ls, rfl, .inl (.inl gl4), fun Lb nLb => ?_⟩
    have e5 : cutV (nV ls) none (some (L : Int)) = nV (ls.take L) := by
      rw [KPd.cut_take']
      unfold nV
      rw [List.map_take]
    rw [e5]
    have w5 := same_new nLb (.lst (nV (ls.take L)))
    have g5 : upd G4 Lb (.lst (nV (ls.take L))) Lb = some (.lst (nV (ls.take L))) := upd_same
    generalize upd G4 Lb (.lst (nV (ls.take L))) = G5 at w5 g5
    refine ⟨Lb, _, rfl, g5, fun Lv nLv => ?_⟩
    have w6 := same_new nLv (.lst (nV (ls.take L)).reverse)
    have g6 : upd G5 Lv (.lst (nV (ls.take L)).reverse) Lv = some (.lst (nV (ls.take L)).reverse) := upd_same
    generalize upd G5 Lv (.lst (nV (ls.take L)).reverse) = G6 at w6 g6
    have s46 := w5.trans w6
    have lrev : (nV (ls.take L)).reverse.length = L := by
      rw [List.length_reverse]
      unfold nV
      rw [List.length_map, List.length_take]
      omega
    have xat : ∀ i v, (nV (ls.take L)).reverse[i]? = some v → ∃ x, v = .int (x : Int) ∧ i < L ∧ ls[L - 1 - i]? = some x := fun i v hv => by
      have il : i < L := by rw [← lrev]; exact (List.getElem?_eq_some_iff.mp hv).1
      have l5 : (nV (ls.take L)).length = L := by have := lrev; rw [List.length_reverse] at this; exact this
      rw [List.getElem?_reverse (by rw [l5]; exact il), l5] at hv
      unfold nV at hv
      rw [List.getElem?_map, List.getElem?_take_of_lt (by omega)] at hv
      obtain ⟨x, hx, rfl⟩ := Option.map_eq_some_iff.mp hv
      exact ⟨x, rfl, il, hx⟩
    have gD6 := s46 _ _ gD4
    have nvd : Lv ≠ Dk := fun z => by rw [z, gD6] at g6; cases g6
    refine ⟨Lv, rfl, ⟨_, .inl (.inl g6)⟩, for_list (K := K) (a := Lv) (xs := (nV (ls.take L)).reverse) (fun i σ G => ∃ (Ls : Addr) (f : Nat → Int) (kvs : List (Key × V)) (k13 k14 k15 k16 k17 k18 : Option V), (∀ b o, G6 b = some o → b ≠ Dk → G b = some o) ∧ G Dk = some (.dK kvs) ∧ kvs.length ≤ i ∧ (∀ key v, valV kvs key = some v → ∃ x : Nat, key = Sum.inl (x : Int) ∧ KnAt G n ts x v) ∧
        G Ls = some (.lst (vl (n + 1) f)) ∧ f n = 0 ∧ (∀ t, t < n → Fwd rows (L - i) t → f t = m ^ i * cnt bs.length rows ends bs i t) ∧ σ = [some (.ref p), some (.int L), some (.ref fL), some (.ref fS), some (.int (bs.length : Int)), some (.ref pr), some (.ref pe), some (.ref Ll), none, none, some (.ref Dk), some (.ref Ls), none, k13, k14, k15, k16, k17, k18])
      ⟨Ls0, f0, [], _, _, _, _, _, _, fun b o h _ => h, gD6, Nat.le_refl 0, (fun key v h => by rw [valV_nil] at h; cases h), s46 _ _ gs0, f0n, fun t ht _ => by rw [f0v t ht, Int.pow_zero, Int.one_mul], rfl⟩ (fun i σ G _ ⟨_, _, _, _, _, _, _, _, _, h, _⟩ => .inl (.inl (h _ _ g6 nvd))) ?_ ?_⟩
    · rintro i v σ G hx ⟨Ls, f, kvs, k13, k14, k15, k16, k17, k18, b6, gD, kl, kn, gs, fn, fv, rfl⟩
      obtain ⟨x, rfl, il, hx⟩ := xat i v hx
      obtain ⟨bx, bn⟩ := hb _ _ hx
      have eL : L - (L - 1 - i) = i + 1 := by omega
      rw [eL] at bx
      have xsm : x < 2 ^ 100000 := Nat.lt_of_lt_of_le (Nat.lt_pow_two_of_testBit x (n := n) fun s hs => by
        cases e : x.testBit s with
        | false => rfl
        | true => have := bn s e; omega) (Nat.pow_le_pow_right (by decide) (by omega))
      have keep : ∀ {b o}, H b = some o → G b = some o := fun {b o} h => b6 b o (s46 _ _ (s4 _ _ (w3 _ _ (s1 _ _ h)))) (fun z => by
        rw [z] at h
        rw [s1 _ _ h] at nDk
        cases nDk)
      -- what is known
      refine seq_cut (t := tIfS _ _ _) (fun σ G' => ∃ (kvs : List (Key × V)) (v : V) (k14 : Option V), (∀ b o, G b = some o → b ≠ Dk → G' b = some o) ∧ G' Dk = some (.dK kvs) ∧ kvs.length ≤ i + 1 ∧ (∀ key v, valV kvs key = some v → ∃ x : Nat, key = Sum.inl (x : Int) ∧ KnAt G' n ts x v) ∧ valV kvs (Sum.inl (x : Int)) = some v ∧
          σ = [some (.ref p), some (.int L), some (.ref fL), some (.ref fS), some (.int (bs.length : Int)), some (.ref pr), some (.ref pe), some (.ref Ll), none, none, some (.ref Dk), some (.ref Ls), none, some (.int (x : Int)), k14, k15, k16, k17, k18]) ?_ ?_
      · intro Q2 hq2
        refine ⟨_, rfl, _, rfl, Dk, _, rfl, DGet.k (k := Sum.inl (x : Int)) gD, _, rfl, ?_⟩
        cases ev : valV kvs (Sum.inl (x : Int)) with
        | some v => exact iteF (hq2 _ _ ⟨kvs, v, k14, fun b o h _ => h, gD, by omega, kn, ev, rfl⟩)
        | none =>
          refine iteT ?_
          refine ⟨_, rfl, x, rfl, xsm, fun A G7 ms s7 lo gA => ?_⟩
          have msn : ∀ s ∈ ms, s < n := fun s hs => bn s ((lo.2 s).mp hs)
          have ml : ms.length ≤ 1000 := by
            have := asc_len n ms 0 lo.1 fun s hs => ⟨Nat.zero_le _, msn s hs⟩
            omega
          have tsl : ts.length = n := by rw [TA.1, List.length_map, W.rl]
          have kG7 : ∀ {b o}, H b = some o → G7 b = some o := fun h => s7 _ _ (keep h)
          refine ⟨_, rfl, rfl, kG7 oL, _, rfl, kG7 oL, kG7 oC, LG, A, ts, ms, hws, rfl, kG7 gG, gA, fun s hs => by rw [tsl]; exact msn s hs, ml, fun B us G8 s8 gB ul uat => ⟨by show 2 ≤ 2 ^ 24; decide, fun Tt nTt => ?_⟩⟩
          have w9 := same_new nTt (.tup [V.ref A, V.ref B])
          have gT : upd G8 Tt (.tup [V.ref A, V.ref B]) Tt = _ := upd_same
          have gA9 := w9 _ _ (s8 _ _ gA)
          have gB9 := w9 _ _ gB
          have s9 := s7.trans (s8.trans w9)
          generalize upd G8 Tt (.tup [V.ref A, V.ref B]) = G9 at gT gA9 gB9 s9
          have gD9 := s9 _ _ gD
          have ka : KnAt G9 n ts x (.ref Tt) := ⟨Tt, A, B, ms, us, rfl, gT, gA9, lo, gB9, ul, uat⟩
          refine ⟨_, rfl, _, rfl, Dk, _, rfl, DPut.k (k := Sum.inl (x : Int)) gD9 (by show kvs.length < 2 ^ 24; omega), ?_⟩
          have bu : ∀ b o, G9 b = some o → b ≠ Dk → upd G9 Dk (.dK (putK kvs (Sum.inl (x : Int)) (.ref Tt))) b = some o := fun b o h n => by rw [upd_ne n]; exact h
          refine hq2 _ _ ⟨putK kvs (Sum.inl (x : Int)) (.ref Tt), .ref Tt, _, fun b o h n => bu b o (s9 _ _ h) n, upd_same, ?_, fun key v hv => ?_, ?_, rfl⟩
          · have : (putK kvs (Sum.inl (x : Int)) (V.ref Tt)).length ≤ kvs.length + 1 := by
              unfold putK
              split
              · rw [List.length_map]; omega
              · rw [List.length_append]; exact Nat.le_refl _
            omega
          · rw [valV_put] at hv
            by_cases e : key = Sum.inl (x : Int)
            · rw [if_pos e] at hv
              cases hv
              exact ⟨x, e, ka.but bu gD9⟩
            · rw [if_neg e] at hv
              obtain ⟨y, e2, k2⟩ := kn key v hv
              exact ⟨y, e2, (k2.but (fun b o h _ => s9 _ _ h) gD).but bu gD9⟩
          · rw [valV_put, if_pos rfl]
      rintro σ G7 ⟨kvs, v, k14, b7, gD7, kl7, kn7, ev, rfl⟩
      obtain ⟨y, ey, Tt, A, B, ms, us, rfl, gT, gA, lo, gB, ul, uat⟩ := kn7 _ _ ev
      have ey : x = y := by
        have := Sum.inl.inj ey
        omega
      subst ey
      have gs7 : G7 Ls = some (.lst (vl (n + 1) f)) := b7 _ _ gs (fun z => by rw [z, gD] at gs; cases gs)
      have keep7 : ∀ {b o}, H b = some o → G7 b = some o := fun {b o} h => b7 b o (keep h) (fun z => by
        rw [z] at h
        rw [s1 _ _ h] at nDk
        cases nDk)
      have msn : ∀ s ∈ ms, s < n := fun s hs => bn s ((lo.2 s).mp hs)
      have ml : ms.length ≤ 400 := by
        have := asc_len n ms 0 lo.1 fun s hs => ⟨Nat.zero_le _, msn s hs⟩
        omega
      obtain ⟨od, hod⟩ : ∃ od, od = ordA bs.length bs m ++ ordB bs.length bs m := ⟨_, rfl⟩
      have ol : od.length = bs.length := by rw [hod, List.length_append]; exact ord_len bs m
      have oj : ∀ j ∈ od, j < bs.length := fun j hj => by
        rw [hod] at hj
        rcases List.mem_append.mp hj with h | h
        · exact List.mem_range.mp (List.mem_filter.mp h).1
        · exact List.mem_range.mp (List.mem_filter.mp h).1
      obtain ⟨gr, hgr⟩ : ∃ gr : Nat → List Nat, gr = fun s => od.map fun j => ((rows.getD s []).getD j none).getD n := ⟨_, rfl⟩
      obtain ⟨ul0, hul0⟩ : ∃ u : List Int, u = (List.range (n + 1)).map f := ⟨_, rfl⟩
      have ulg : ∀ t, t ≤ n → ul0.getD t 0 = f t := fun t ht => by
        rw [hul0, List.getD_eq_getElem?_getD, List.getElem?_map, List.getElem?_range (by omega)]
        rfl
      have ull : ul0.length = n + 1 := by rw [hul0]; simp
      have gs7' : G7 Ls = some (.lst (ul0.map V.int)) := by rw [hul0, ← vl_ints]; exact gs7
      have sgl : (sgOf (ordA bs.length bs m).length (ordB bs.length bs m).length).length = bs.length := by unfold sgOf; simp; exact ord_len bs m
      refine ⟨_, rfl, _, rfl, Dk, .ref Tt, rfl, (by have h := DGet.k (k := Sum.inl (x : Int)) gD7; rw [ev] at h; exact h), Tt, _, rfl, .inl (.inl gT), rfl, _, _, rfl, _, _, rfl, rfl, ?_⟩
      refine ⟨fS, _, rfl, if_pos rfl, _, rfl, _, rfl, B, Ls, us, ms.map gr, ul0, rfl, gB, by rw [List.length_map]; exact ul, fun q r e => ?_, fun r hr => ?_, by rw [List.length_map]; omega, by rw [ull]; omega, gs7', fun Lf G8 s8 gf => ?_⟩
      · rw [List.getElem?_map] at e
        obtain ⟨s', es, rfl⟩ := Option.map_eq_some_iff.mp e
        have sn := msn s' (List.mem_of_getElem? es)
        obtain ⟨r0, w1, _⟩ := W.row sn
        obtain ⟨t, a, g⟩ := TA.2 s' (od.map fun j => (r0.getD j none).getD n) (by rw [List.getElem?_map, w1, hod]; rfl)
        refine ⟨t, by rw [uat q s' es]; exact a, ?_⟩
        rw [keep7 g, hgr]
        dsimp only
        rw [List.getD_eq_getElem?_getD (l := rows), w1]
        rfl
      · obtain ⟨s', es, rfl⟩ := List.mem_map.mp hr
        rw [sgl, ull, hgr]
        refine ⟨by rw [List.length_map]; exact ol, fun j hj => ?_⟩
        obtain ⟨jj, hjj, rfl⟩ := List.mem_map.mp hj
        obtain ⟨r0, w1, w2, w3, w4⟩ := W.row (msn s' es)
        rw [List.getD_eq_getElem?_getD (l := rows), w1]
        show (r0.getD jj none).getD n < n + 1
        cases e : r0.getD jj none with
        | none => exact Nat.lt_succ_self n
        | some k =>
          have := w3 k (by
            rw [List.getD_eq_getElem?_getD] at e
            cases e3 : r0[jj]? with
            | none => rw [e3] at e; cases e
            | some o => rw [e3] at e; cases e; exact List.mem_of_getElem? e3)
          exact Nat.lt_succ_of_lt this
      obtain ⟨val, hval⟩ : ∃ val : Nat → Int, val = fun s => dot (sgOf (ordA bs.length bs m).length (ordB bs.length bs m).length) (gr s) ul0 := ⟨_, rfl⟩
      have gf : G8 Lf = some (.lst ((ms.map val).map V.int)) := by
        rw [gf, hval, List.map_map, List.map_map, List.map_map]
        rfl
      have gA8 := s8 _ _ gA
      have keep8 : ∀ {b o}, H b = some o → G8 b = some o := fun h => s8 _ _ (keep7 h)
      refine ⟨by show 1 ≤ 2 ^ 24; decide, fun t3 nt3 => ?_⟩
      have w9 := same_new nt3 (.lst [V.int 0])
      have gt3 : upd G8 t3 (.lst [V.int 0]) t3 = _ := upd_same
      generalize upd G8 t3 (.lst [V.int 0]) = G9 at w9 gt3
      refine ⟨_, rfl, pr, rvs, rfl, .inr (.inl (.inl (w9 _ _ (keep8 m2)))), _, _, rfl, rfl, t3, ((n + 1 : Nat) : Int), _, rfl, (by show V.int ((rvs.length : Nat) + 1) = _; rw [rn]; rfl), gt3, by omega, by omega, by rw [Int.toNat_natCast]; show 1 * (n + 1) ≤ 2 ^ 24; omega, fun Ln nLn => ?_⟩
      rw [Int.toNat_natCast, rep_flat]
      have e0 : List.replicate (n + 1) (V.int 0) = vl (n + 1) fun t => if t ∈ ms.take 0 then val t else 0 := by
        unfold vl
        refine List.ext_getElem? fun q => ?_
        rw [List.getElem?_map, List.getElem?_replicate]
        by_cases hq : q < n + 1
        · rw [if_pos hq, List.getElem?_range hq]
          show some (V.int 0) = some (V.int (if q ∈ [] then val q else 0))
          rw [if_neg (fun z => nomatch z)]
        · rw [if_neg hq, List.getElem?_eq_none (by simpa using hq)]
          rfl
      rw [e0]
      have w10 := same_new nLn (.lst (vl (n + 1) fun t => if t ∈ ms.take 0 then val t else 0))
      have gLn : upd G9 Ln (.lst (vl (n + 1) fun t => if t ∈ ms.take 0 then val t else 0)) Ln = _ := upd_same
      generalize upd G9 Ln (.lst (vl (n + 1) fun t => if t ∈ ms.take 0 then val t else 0)) = Ga at w10 gLn
      have s8a := s8.trans (w9.trans w10)
      have n7 : G7 Ln = none := none_back (s8.trans w9) nLn
      have gAa := s8a _ _ gA
      have gfa := w10 _ _ (w9 _ _ gf)
      have nA : A ≠ Ln := fun z => by rw [z, n7] at gA; cases gA
      have nF : Lf ≠ Ln := fun z => by have h := w9 _ _ gf; rw [z, nLn] at h; cases h
      have mn : min (nvl ms).length ((ms.map val).map V.int).length = ms.length := by
        unfold nvl
        rw [List.length_map, List.length_map, List.length_map]
        exact Nat.min_self _
      refine ⟨_, rfl, _, rfl, .ref A, .ref Lf, .lst, .lst, nvl ms, (ms.map val).map V.int, rfl, ⟨_, rfl, .inl (.inl gAa)⟩, ⟨_, rfl, .inl (.inl gfa)⟩, for_it walk2q (fun j σ G' => ∃ (k17 k18 : Option V), (∀ b o, Ga b = some o → b ≠ Ln → G' b = some o) ∧ G' Ln = some (.lst (vl (n + 1) fun t => if t ∈ ms.take j then val t else 0)) ∧
          σ = [some (.ref p), some (.int L), some (.ref fL), some (.ref fS), some (.int (bs.length : Int)), some (.ref pr), some (.ref pe), some (.ref Ll), none, none, some (.ref Dk), some (.ref Ln), none, some (.int (x : Int)), some (.ref A), some (.ref B), some (.ref Lf), k17, k18])
        ⟨_, _, fun b o h _ => h, gLn, rfl⟩ ?_ ?_ ?_⟩
      · rintro j σ G' _ ⟨k17, k18, bG, gL, rfl⟩
        exact ⟨⟨_, rfl, .inl (.inl (bG _ _ gAa nA))⟩, ⟨_, rfl, .inl (.inl (bG _ _ gfa nF))⟩⟩
      · rintro j y σ G' Gb jl ⟨k17, k18, bG, gL, rfl⟩ ⟨Tq, rr, rfl, nT, rfl, erow⟩
        rw [mn] at jl
        obtain ⟨x1, y1, h1, h2, rfl⟩ := row2_of erow
        have ej := List.getElem?_eq_getElem jl
        unfold nvl at h1
        rw [List.getElem?_map, ej] at h1
        rw [List.getElem?_map, List.getElem?_map, ej] at h2
        cases h1
        cases h2
        have sn := msn _ (List.getElem_mem jl)
        generalize ms[j] = s' at ej sn nT
        have w11 := same_new nT (.tup [V.int (s' : Int), V.int (val s')])
        have gL2 := w11 _ _ gL
        have bG2 : ∀ b o, Ga b = some o → b ≠ Ln → upd G' Tq (.tup [V.int (s' : Int), V.int (val s')]) b = some o := fun b o h n => w11 _ _ (bG b o h n)
        refine ⟨Tq, _, rfl, .inl (.inl upd_same), rfl, _, _, rfl, _, _, rfl, rfl, ?_⟩
        generalize upd G' Tq (.tup [V.int (s' : Int), V.int (val s')]) = Gc at gL2 bG2
        refine ⟨_, rfl, _, rfl, _, rfl, Ln, _, (s' : Int), s', rfl, rfl, gL2, ?_, _, _, fun b o h n => by rw [upd_ne n]; exact bG2 b o h n, ?_, rfl⟩
        · unfold ixN
          rw [vl_len, if_pos (by omega), if_pos (by omega), Int.toNat_natCast]
        · rw [upd_same, vl_set]
          congr 2
          refine vl_congr fun t ht => ?_
          rw [List.take_add_one, ej, Option.toList_some]
          by_cases e : t = s'
          · subst e
            rw [if_pos rfl, if_pos (List.mem_append_right _ (List.mem_singleton.mpr rfl))]
          · rw [if_neg e]
            by_cases e2 : t ∈ ms.take j
            · rw [if_pos e2, if_pos (List.mem_append_left _ e2)]
            · rw [if_neg e2, if_neg]
              intro h
              rcases List.mem_append.mp h with h | h
              · exact e2 h
              · exact e (List.mem_singleton.mp h)
      · rintro σ G' ⟨k17, k18, bG, gL, rfl⟩
        rw [mn, List.take_length] at gL
        have bAll : ∀ b o, G7 b = some o → G' b = some o := fun b o h => bG b o (s8a _ _ h) (fun z => by rw [z, n7] at h; cases h)
        refine ⟨Ln, _, kvs, _, _, _, _, _, _, fun b o h n => bAll b o (b7 b o (b6 b o h n) n), bAll _ _ gD7, kl7, fun key v h => let ⟨y, a, k⟩ := kn7 key v h; ⟨y, a, k.but (fun b o h _ => bAll b o h) gD7⟩, gL, if_neg (fun z => Nat.lt_irrefl n (msn n z)), fun t tn ft => ?_, rfl⟩
        have et : L - (i + 1) = L - 1 - i := by omega
        rw [et] at ft
        by_cases tm : t ∈ ms
        · rw [if_pos tm, hval]
          obtain ⟨r0, w1, w2, w3, w4⟩ := W.row tn
          have er : rows.getD t [] = r0 := by rw [List.getD_eq_getElem?_getD, w1]; rfl
          rw [hgr]
          dsimp only
          rw [er, hod]
          refine dot_row hm i t w4 (by rw [ulg n (Nat.le_refl n)]; exact fn) fun j u hu => ?_
          have un : u < n := W.step_lt tn hu
          rw [ulg u (by omega)]
          refine fv u un ?_
          have e1 : L - i = (L - 1 - i) + 1 := by omega
          rw [e1, fwd_succ]
          exact ⟨t, j, ft, hu⟩
        · rw [if_neg tm]
          have nb : ¬ Bck rows ends (i + 1) t := fun z => tm ((lo.2 t).mpr ((bx t).mpr ⟨ft, z⟩))
          rw [cnt_none _ _ nb, Int.mul_zero]
    · rintro σ G ⟨Ls, f, kvs, k13, k14, k15, k16, k17, k18, b6, gD, kl, kn, gs, fn, fv, rfl⟩
      rw [lrev] at fv
      exact hq _ _ ⟨Ls, f, k13, k14, k15, k16, k17, k18, fun b o h n => b6 b o (s46 _ _ h) n, gs, fv 0 wn1 (by rw [Nat.sub_self]; exact (fwd_zero rows 0).mpr rfl), rfl⟩
  rintro σ G5 ⟨Ls, f, k13, k14, k15, k16, k17, k18, b5, gs5, hv, rfl⟩
  refine ⟨_, rfl, Ls, _, 0, _, rfl, rfl, .inl (.inl gs5), atI_nat (j := 0) (vl_at f (Nat.succ_pos n)), ?_⟩
  rw [hv]
  refine q _ fun b o h => ?_
  have h4 := s4 _ _ (w3 _ _ (s1 _ _ h))
  exact b5 b o h4 (fun z => by
    rw [z] at h
    rw [s1 _ _ h] at nDk
    cases nDk)
end
end S25
/-! by_steps, with many states too. -/
namespace S25
open PySem PyProof.Rows L2 GL KC KW KM GRJ
open K25 hiding seq_cut
abbrev TbS (t : Addr) : List (Addr × Str) := [(t, (("by_steps" : Str) ++ Str.ofString ".<locals>.") ++ Str.ofString "<lambda>")]
def lamX : Expr := match (defBody sBy).getD 7 sBy with
  | .If _ b _ _ => (match b.getD 0 sBy with
    | .Assign _ (.Call _ (_ :: _ :: e :: _) _ _) _ => e
    | _ => .Constant .none 0 ⟨0, 0, 0, 0⟩)
  | _ => .Constant .none 0 ⟨0, 0, 0, 0⟩
def lamA : Arguments := match lamX with
  | .Lambda a _ _ _ => a
  | _ => { posonlyargs := [], args := [], vararg := none, kwonlyargs := [], kw_defaults := [], kwarg := none, defaults := [] }
def lamB : Expr := match lamX with
  | .Lambda _ b _ _ => b
  | _ => lamX
def lamS : Scope := match lamX with
  | .Lambda _ _ s _ => s
  | _ => defScope sBy
def lamF (cl : List (Str × Addr)) (c : Addr) : GCL.LF := ⟨(("by_steps" : Str) ++ Str.ofString ".<locals>.") ++ Str.ofString "<lambda>", lamA, lamB, lamS, cl, c⟩
theorem lam_free : ∀ y ∈ lamS.names, y.2 = .free → (defScope sBy).names.lookup y.1 = some .cell ∨ (defScope sBy).names.lookup y.1 = some .free := by decide +kernel
theorem lam_fr : ∀ y ∈ (["goals"] : List Str), (y, NameKind.free) ∈ lamS.names := by decide +kernel
theorem lam_sc : NdefX.NScope ["states", "goals", "state"] ["states"] ["goals"] lamS := NdefX.nscope_by (by decide +kernel)
theorem machN {G G' : Hp} {p : Addr} {l : Nat} {rows : Rows} {ends : List Bool} (M : MachAt G p l rows ends) (x : LamX.ExtN G G') : MachAt G' p l rows ends :=
  let ⟨pr, pe, rvs, h1, h2, h3, h4, h5⟩ := M.ex
  ⟨pr, pe, rvs, x _ _ h1 (fun _ z => nomatch z), x _ _ h2 (fun _ z => nomatch z), x _ _ h3 (fun _ z => nomatch z), h4, fun i r e => let ⟨t, a, b⟩ := h5 i r e; ⟨t, a, x _ _ b (fun _ z => nomatch z)⟩⟩
theorem tupsN {G G' : Hp} {ts : List Addr} {rs : List (List Nat)} (h : TupsAt G ts rs) (x : LamX.ExtN G G') : TupsAt G' ts rs := ⟨h.1, fun i r e => let ⟨t, a, b⟩ := h.2 i r e; ⟨t, a, x _ _ b (fun _ z => nomatch z)⟩⟩
/-- a def that is handed a lambda, as the module has it -/
structure DfW (P : Program) (w : World) (K : PySem.W.Frag) (mg : Str → Option Value) (base : Heap) (x : Str) (k : Nat) (f : Addr) (fd : FuncData) (ps : List Str) (sp : List (Str × Addr) → List Str → List (Option V) → Sp) : Prop where
  ok : GCL.FnOkW P w K mg base CX0 k f fd ps sp
  b : L2.Binds K fd ps []
  m : mg x = some (.ref f)
  kp : PySem.W.keepIn K (.ref f) = true
section
variable {P : Program} {w : World} {K : PySem.W.Frag} {mg : Str → Option Value} {base : Heap}
theorem ok_lam (cl : List (Str × Addr)) (c f : Addr) : GCL.LOk P w K mg base CX0 1 f (lamF cl c) ["states"] ["goals"] spPrep := by
  refine GCL.lok_of (N := ["states", "goals", "state"]) lam_sc (fun pm ctv us h => ?_) (fun ws vs H Q E h => ?_) (fun A outer s H vs ws Q E hr wl h => ?_)
  · match us, h with
    | [_], _ => rfl
  · obtain ⟨LG, A, ts, ms, _, rfl, _⟩ := h
    rfl
  obtain ⟨LG, A0, ts, ms, rfl, rfl, gG, gA, msn, ml, q⟩ := h
  refine ⟨_, (show PE _ (.ListComp _ _ _ _) _ from pe_lc (own := [("state", 2)]) (g := gName 2) (tt := tYes) rfl lam_sc.nd (pi_list (pv 0)) (blkOk_by (own := [("state", 2)]) (N := ["states", "goals", "state"]) (sc := lamS) (by decide +kernel)) (fun _ _ _ _ _ => pg_name (i := 2) lam_sc.nd rfl (Or.inl rfl)) (fun _ _ _ _ _ => pts_nil)
    (fun _ _ _ _ _ => show PE _ _ (tOp (rIxL K) _ _) from pe_ix ix_list (pv 1) (pv 2) (fun _ _ => rfl))), ?_⟩
  refine ⟨_, rfl, A0, rfl, ⟨_, .inl (.inl gA)⟩, fun B nB => lc_list (K := K) (a := A0) (xs := nvl ms) (fun i G => Same H G ∧ G B = some (.lst (((ms.take i).map fun s => ts.getD s 0).map V.ref))) ⟨same_new nB _, upd_same⟩ (fun i G _ h => .inl (.inl (h.1 _ _ gA))) ?_ ?_⟩
  · rintro i x G hx ⟨sG, gB⟩
    unfold nvl at hx
    rw [List.getElem?_map] at hx
    obtain ⟨s', es, rfl⟩ := Option.map_eq_some_iff.mp hx
    have sl := msn s' (List.mem_of_getElem? es)
    have et : ts[s']? = some (ts.getD s' 0) := by rw [List.getD_eq_getElem?_getD, List.getElem?_eq_getElem sl]; rfl
    refine ⟨rfl, _, rfl, _, rfl, LG, _, (s' : Int), .ref (ts.getD s' 0), rfl, rfl, .inl (.inl (sG _ _ gG)), atI_nat (by rw [List.getElem?_map, et]; rfl), _, gB, ?_, same_grow nB sG _, ?_⟩
    · rw [List.length_map, List.length_map, List.length_take]
      show min i _ < 2 ^ 24
      omega
    · rw [upd_same, List.take_add_one, es, List.map_append, List.map_append]
      rfl
  · rintro G ⟨sG, gB⟩
    have e : (nvl ms).length = ms.length := List.length_map _
    rw [e, List.take_length] at gB
    refine q B _ G sG gB (by rw [List.length_map]) fun i s' es => ?_
    have sl := msn s' (List.mem_of_getElem? es)
    rw [List.getElem?_map, es, List.getElem?_eq_getElem sl]
    show some (ts.getD s' 0) = _
    rw [List.getD_eq_getElem?_getD, List.getElem?_eq_getElem sl]
    rfl
def spBy2 (tt : Addr) : Sp := fun vs H Q _ => ∃ (p V0 : Addr) (l n L : Nat) (rows : Rows) (ends bs : List Bool), vs = [.ref p, .ref V0, .int L] ∧ MachAt H p l rows ends ∧ WF l n rows ends ∧ bs.length = l ∧ H V0 = some (.lst ((bs.map sgV).map V.int)) ∧ L ≤ 1000 ∧ LamX.Tabs (TbS tt) H ∧
  ∀ G, LamX.ExtN H G → LamX.Tabs (TbS tt) G → Q (.int (cnt l rows ends bs L 0)) G
theorem ok_by2 {f D fB cc tt : Addr} {fdB : FuncData} {oc kV doc pm ct : Value} {od an : Option Addr} {osl : Array (Option Value)} {xs : List (List Int × Addr × Addr)} {tF : Tok} (lk : K.lookup f = some ⟨oc, od, .func (PySem.W.fnOf "by_steps" "by_steps" (defArgs sBy) (defBody sBy) (defScope sBy) .none kV doc pm an (.ref cc) ct), osl⟩)
    (hcd : PySem.W.codeIn K (.ref cc) "by_steps" = true) (tb : LamX.TabB base mg cc tt) (T : TxC mg) (mSt : mg "STEPS" = some (.ref D)) (mFew : mg "FEW" = some (.int 100 tF)) (SA : GSp.StepsAt K D xs)
    (hS : ∀ a b : Nat, b ≤ a → 1 ≤ a + b → a + b ≤ 4 → ∃ p f, ([(a : Int), (b : Int)], p, f) ∈ xs ∧ Held P w K mg base 1 f (spStep (sgOf a b))) (BL : DfW P w K mg base "by_layers" 6 fB fdB ["machine", "length", "prepared", "step"] (spBl P w K mg base)) :
    FnOk P w K mg base CX0 7 f (PySem.W.fnOf "by_steps" "by_steps" (defArgs sBy) (defBody sBy) (defScope sBy) .none kV doc pm an (.ref cc) ct) ["machine", "values", "length"] (spBy2 tt) := by
  refine fn_of lk hcd scBy (fun vs H Q E h => ?_) (fun A outer s H vs Q E hr h => ?_)
  · obtain ⟨p, V0, l, n, L, rows, ends, bs, rfl, _⟩ := h
    rfl
  obtain ⟨p, V0, l, n, L, rows, ends, bs, rfl, M, W, bl, gV, L1, tabs, q⟩ := h
  have hu1 : (A.deeper (PyProof.Rows.envOfC "by_steps" (defScope sBy) s.heap.objs.size f (.ref cc))).units + 1 < cLine := by have := hr.un; omega
  subst bl
  have W' := W
  obtain ⟨pS, fS, hx, hHeld⟩ := hS _ _ (ord_le bs) (by rw [ord_len]; exact W.l1) (by rw [ord_len]; exact W.l4)
  have hA : ∀ g sp, (fun a : Addr => if a = fS then some (spStep (sgOf (ordA bs.length bs (mst bs.length bs)).length (ordB bs.length bs (mst bs.length bs)).length)) else none) g = some sp → Held P w K mg base 1 g sp := fun g sp e => by
    dsimp only at e
    split at e
    · rename_i h
      cases e
      rw [h]
      exact hHeld
    · cases e
  suffices hh : ∃ t, PSs (cxOf CX0 P w K mg base NBy "by_steps" (defScope sBy) f (.ref cc) A outer s H E).nox (defBody sBy) t ∧ t { nx := fun _ H' => Q .non H', rt := Q } (start NBy [.ref p, .ref V0, .int L]) H from let ⟨t, h1, h2⟩ := hh; ⟨t, h1.nox, h2⟩
  refine ⟨_, (pss_cons (ps_asg (pv 0) (pg_tup (by rfl) (pgs_cons (pg_name (i := 3) scBy.nd rfl (Or.inl rfl)) (pgs_cons (pg_name (i := 4) scBy.nd rfl (Or.inl rfl)) (pgs_cons (pg_name (i := 5) scBy.nd rfl (Or.inl rfl)) pgs_nil)))))
    (pss_cons (ps_set (i := 6) scBy.nd rfl (Or.inr rfl) (pe_callB call_lenS (by rfl) T.len PySem.boot_len (pa_cons (pv 4) pa_nil)))
    (pss_cons (ps_set (i := 7) scBy.nd rfl (Or.inr rfl) (pe_ifExp (pt_cmpR op_gt (pe_op op_mul pe_int (show PE _ _ (tBM K "list" _ _ _) from pe_bm PySem.F.plainAttrs_list PySem.F.slot_list_count PySem.F.type_list_count mt_lcount (pv 1) (pa_cons (pe_un un_neg pe_int) pa_nil))) (pv 3) (nomark _)) (pe_un un_neg pe_int) pe_int))
    (pss_cons (ps_set (i := 8) scBy.nd rfl (Or.inr rfl) (pe_lc (own := [("at", 9)]) (g := gName 9) rfl scBy.nd (pi_range1 (by rfl) T.range (pa_cons (pv 3) pa_nil)) (blkOk_by (own := [("at", 9)]) (N := NBy) (sc := defScope sBy) (by decide +kernel)) (fun _ _ _ _ _ => pg_name (i := 9) scBy.nd rfl (Or.inl rfl)) (fun _ _ _ _ _ => pts_one (pt_cmpR op_eq (show PE _ _ (tOp (rIxL K) _ _) from (pe_ix ix_list (pv 1) (pv 9) (fun _ _ => rfl))) (pv 7) (nomark _))) (fun _ _ _ _ _ => (pv 9))))
    (pss_cons (ps_set (i := 10) scBy.nd rfl (Or.inl rfl) (pe_ix (GSp.ix_steps (xs := xs) hu1) (pe_glob (v := .ref D) rfl mSt rfl) (pe_tup (pa_cons (pe_callB call_lenS (by rfl) T.len PySem.boot_len (pa_cons (pv 8) pa_nil)) (pa_cons (pe_op op_sub (pv 3) (pe_callB call_lenS (by rfl) T.len PySem.boot_len (pa_cons (pv 8) pa_nil))) pa_nil))) (fun _ _ => rfl)))
    (pss_cons (ps_aug (i := 8) scBy.nd rfl (Or.inr rfl) (pe_lc (own := [("at", 9)]) (g := gName 9) rfl scBy.nd (pi_range1 (by rfl) T.range (pa_cons (pv 3) pa_nil)) (blkOk_by (own := [("at", 9)]) (N := NBy) (sc := defScope sBy) (by decide +kernel)) (fun _ _ _ _ _ => pg_name (i := 9) scBy.nd rfl (Or.inl rfl)) (fun _ _ _ _ _ => pts_one (pt_cmpR op_ne (show PE _ _ (tOp (rIxL K) _ _) from (pe_ix ix_list (pv 1) (pv 9) (fun _ _ => rfl))) (pv 7) (nomark _))) (fun _ _ _ _ _ => (pv 9))) iop_ext)
    (pss_cons (ps_set (i := 11) scBy.nd rfl (Or.inr rfl) (pe_lc (own := [("row", 12)]) (g := gName 12) (tt := tYes) rfl scBy.nd (pi_tup (pv 4)) (blkOk_by (own := [("row", 12)]) (N := NBy) (sc := defScope sBy) (by decide +kernel)) (fun _ _ _ _ _ => pg_name (i := 12) scBy.nd rfl (Or.inr rfl)) (fun _ _ _ _ _ => pts_nil) (fun _ _ _ _ _ => (pe_callTy (show CallR _ _ (fun xs H Q => ∃ p ys, xs = [.ref p] ∧ ((SqL K H p ys ∧ ∀ l, H l = none → Q (.ref l) (upd H l (.tup ys))) ∨ (SqT K H p ys ∧ Q (.ref p) H))) from call_tuple_of) (by rfl) T.tuple (by decide +kernel) (pa_cons (pe_lc (own := [("at", 9)]) (g := gName 9) (tt := tYes) rfl scBy.nd (show PI _ _ _ (iList K _) from (pi_list (pv 8))) (blkOk_by (own := [("at", 9)]) (N := NBy) (sc := relS scGl (defScope sBy)) (by decide +kernel)) (fun _ _ _ _ _ => pg_name (i := 9) scBy.nd rfl (Or.inl rfl)) (fun _ _ _ _ _ => pts_nil) (fun _ _ _ _ _ => (pe_ifExp (pt_cmp (pc_isN (show PE _ _ (tOp (rIxT K) _ _) from (pe_ixT (pv 12) (pv 9) (fun _ _ => rfl))))) (pv 6) (show PE _ _ (tOp (rIxT K) _ _) from (pe_ixT (pv 12) (pv 9) (fun _ _ => rfl)))))) pa_nil)))))
    (pss_cons (ps_if (pt_cmpR op_gt (pv 6) (pe_glob (v := .int 100) rfl mFew ⟨_, rfl⟩) (nomark _))
      (pss_one (ps_set (i := 13) scBy.nd rfl (Or.inl rfl) (GCL.pe_callW (fr := ["goals"]) (js := [11]) BL.ok (fun ok => NdefX.Caps.made ok lam_free lam_fr rfl) (fun _ => rfl) (hr.mono (by decide)) rfl BL.m BL.kp BL.b pass0 (pa_cons (pv 0) (pa_cons (pv 2) (pa_cons (GCL.pe_lamV (T := TbS tt) tb rfl (List.mem_singleton.mpr rfl) (fun q hq _ => by rw [List.mem_singleton.mp hq]; rfl) rfl lam_free) (pa_cons (pv 10) pa_nil)))))))
      (pss_cons (ps_expr (pe_bm PySem.F.plainAttrs_list PySem.F.slot_list_append PySem.F.type_list_append mt_append (pv 11) (pa_cons (pe_op op_repJ (pe_tup (pa_cons (pv 6) pa_nil)) (pv 3)) pa_nil)))
      (pss_cons (ps_set (i := 14) scBy.nd rfl (Or.inl rfl) (pe_op op_cat (pe_lc (own := [("end", 15)]) (g := gName 15) (tt := tYes) rfl scBy.nd (pi_tup (pv 5)) (blkOk_by (own := [("end", 15)]) (N := NBy) (sc := defScope sBy) (by decide +kernel)) (fun _ _ _ _ _ => pg_name (i := 15) scBy.nd rfl (Or.inl rfl)) (fun _ _ _ _ _ => pts_nil) (fun _ _ _ _ _ => (pe_callTy call_int1 (by rfl) T.int (by decide +kernel) (pa_cons (pv 15) pa_nil)))) (pe_lst (pa_cons pe_int pa_nil))))
      (pss_cons (ps_for PassesOwn.never rfl (pi_range1 (by rfl) T.range (pa_cons (pv 2) pa_nil)) (pg_name (i := 16) scBy.nd rfl (Or.inl rfl))
        (pss_one (ps_set (i := 14) scBy.nd rfl (Or.inl rfl) (pe_callA (i := 10) hA (hr.mono (by decide)) rfl (Or.inl rfl) (pa_cons (pv 11) (pa_cons (pv 14) pa_nil))))))
      (pss_one (ps_set (i := 13) scBy.nd rfl (Or.inl rfl) (pe_ix ix_list (pv 14) pe_int (fun _ _ => rfl))))))))
    (pss_one (ps_ret (pe_ifExp (PW.pt (pw_and (pt_cmpR op_lt (pv 7) pe_int (nomark _)) (pw_and1 (pt_truth (pe_op op_and (pv 2) pe_int) (by intro _; rfl))))) (pe_un un_neg (pv 13)) (pv 13)))))))))))), ?_⟩
  obtain ⟨pr, pe, rvs, m1, m2, m3, m4, m5⟩ := M.ex
  have n4 := W.n4
  have l1 := W.l1
  have l4 := W.l4
  have wn1 := W.n1
  refine ⟨_, rfl, p, _, rfl, .inl (.inl m1), rfl, _, _, rfl, _, _, rfl, _, _, rfl, rfl, ?_⟩
  refine ⟨_, rfl, pr, rvs, rfl, .inr (.inl (.inl m2)), ?_⟩
  dsimp only [gName]
  rw [m4, W.rl]
  have hmo := mst_or bs.length bs
  have hm0 : mst bs.length bs = if 2 * ((bs.map sgV).count (-1) : Nat) > bs.length then -1 else 1 := rfl
  generalize mst bs.length bs = m at *
  have vat : ∀ j, j < bs.length → atI ((bs.map sgV).map V.int) ((0 : Int) + (j : Int)) = some (.int (sj bs j)) := fun j hj => by
    rw [Int.zero_add]
    refine atI_nat (j := j) ?_
    rw [List.getElem?_map, sj_at hj]
    rfl
  have nVl : ∀ (c : Nat → Bool) (i : Nat), i ≤ 4 → (nvl ((List.range i).filter c)).length ≤ 4 := fun c i hi => by
    unfold nvl
    rw [List.length_map]
    have := List.length_filter_le c (List.range i)
    rw [List.length_range] at this
    omega
  refine seq_cut (t := tAsg _ _) (fun σ G => G = H ∧ σ = [some (.ref p), some (.ref V0), some (.int L), some (.int (bs.length : Int)), some (.ref pr), some (.ref pe), some (.int (n : Int)), some (.int m), none, none, none, none, none, none, none, none, none]) ?_ ?_
  · intro Q' hq
    refine ⟨_, rfl, .inl ⟨rfl, _, .inl (.inl gV)⟩, 1, rfl, V0, _, _, rfl, rfl, .inl (.inl gV), _, _, rfl, rfl, .inl (by decide), _, rfl, _, _, rfl, rfl, _, rfl, ite2 (fun c => ?_) (fun c => ?_)⟩
    · have c := of_decide_eq_true c
      have e : m = -1 := by rw [hm0, if_pos (by omega)]
      refine ⟨1, rfl, hq _ _ ⟨rfl, ?_⟩⟩
      rw [e]
      rfl
    · have c : ¬ _ := fun z => c (decide_eq_true z)
      have e : m = 1 := by rw [hm0, if_neg (by omega)]
      refine hq _ _ ⟨rfl, ?_⟩
      rw [e]
      rfl
  rintro σ _ ⟨rfl, rfl⟩
  rename_i H
  refine seq_cut (t := tAsg _ _) (fun σ G' => ∃ LO : Addr, Same H G' ∧ H LO = none ∧ G' LO = some (.lst (nvl (ordA bs.length bs m))) ∧ σ = [some (.ref p), some (.ref V0), some (.int L), some (.int (bs.length : Int)), some (.ref pr), some (.ref pe), some (.int (n : Int)), some (.int m), some (.ref LO), none, none, none, none, none, none, none, none]) ?_ ?_
  · intro Q' hq
    refine ⟨_, rfl, _, rfl, by omega, by omega, fun LO nLO => lc_range (lo := 0) (n := bs.length) (fun i G' => Same H G' ∧ G' LO = some (.lst (nvl ((List.range i).filter fun j => decide (sj bs j = m))))) ⟨same_new nLO _, upd_same⟩ ?_ ?_⟩
    · rintro i G' hi ⟨sG, gL⟩
      refine ⟨rfl, _, rfl, _, rfl, V0, _, _, _, rfl, rfl, .inl (.inl (sG _ _ gV)), vat i hi, _, rfl, rfl, _, rfl, ite2 (fun c => ?_) (fun c => ?_)⟩
      · have c : sj bs i = m := V.int.inj (of_decide_eq_true c)
        refine ⟨_, rfl, _, gL, ?_, same_grow nLO sG _, ?_⟩
        · have := nVl (fun j => decide (sj bs j = m)) i (by omega)
          show _ < 2 ^ 24
          omega
        · rw [upd_same, flt_snoc, if_pos (decide_eq_true c), nvl_snoc, Int.zero_add]
      · have c : ¬ sj bs i = m := fun z => c (by rw [z]; exact decide_eq_true rfl)
        refine ⟨sG, ?_⟩
        rw [flt_snoc, if_neg (by rw [decide_eq_false c]; decide)]
        exact gL
    · rintro G' ⟨sG, gL⟩
      exact hq _ _ ⟨LO, sG, nLO, gL, rfl⟩
  rintro σ G1 ⟨LO, s1, nLO, gLO, rfl⟩
  have al4 : (ordA bs.length bs m).length ≤ 4 := by have := ord_len bs m; omega
  refine seq_cut (t := tAsg _ _) (fun σ G' => Same G1 G' ∧ σ = [some (.ref p), some (.ref V0), some (.int L), some (.int (bs.length : Int)), some (.ref pr), some (.ref pe), some (.int (n : Int)), some (.int m), some (.ref LO), none, some (.ref fS), none, none, none, none, none, none]) ?_ ?_
  · intro Q' hq
    refine ⟨_, rfl, LO, _, rfl, .inl (.inl (.inl gLO)), _, rfl, _, rfl, LO, _, rfl, .inl (.inl (.inl gLO)), _, _, rfl, rfl, by show 2 ≤ 2 ^ 24; decide, fun t nt => ?_⟩
    refine ⟨D, t, [((ordA bs.length bs m).length : Int), ((ordB bs.length bs m).length : Int)], pS, fS, rfl, rfl, SA, ?_, hx, hq _ _ ⟨same_new nt _, rfl⟩⟩
    rw [upd_same]
    have e1 : (nvl (ordA bs.length bs m)).length = (ordA bs.length bs m).length := List.length_map _
    have e2 : (bs.length : Int) - ((ordA bs.length bs m).length : Int) = ((ordB bs.length bs m).length : Int) := by have := ord_len bs m; omega
    show some (HO.tup [V.int ((nvl (ordA bs.length bs m)).length : Nat), V.int ((bs.length : Int) - ((nvl (ordA bs.length bs m)).length : Nat))]) = _
    rw [e1, e2]
    rfl
  rintro σ G2 ⟨s2, rfl⟩
  refine seq_cut (t := tAug _ _ _) (fun σ G' => ∃ v9, Same H G' ∧ G' LO = some (.lst (nvl (ordA bs.length bs m ++ ordB bs.length bs m))) ∧ σ = [some (.ref p), some (.ref V0), some (.int L), some (.int (bs.length : Int)), some (.ref pr), some (.ref pe), some (.int (n : Int)), some (.int m), some (.ref LO), v9, some (.ref fS), none, none, none, none, none, none]) ?_ ?_
  · intro Q' hq
    have gL2 := s2 _ _ gLO
    have gV2 := s2 _ _ (s1 _ _ gV)
    refine ⟨_, rfl, _, rfl, _, rfl, by omega, by omega, fun LB nLB => lc_range (lo := 0) (n := bs.length) (fun i G' => Same G2 G' ∧ G' LB = some (.lst (nvl ((List.range i).filter fun j => decide (sj bs j ≠ m))))) ⟨same_new nLB _, upd_same⟩ ?_ ?_⟩
    · rintro i G' hi ⟨sG, gL⟩
      refine ⟨rfl, _, rfl, _, rfl, V0, _, _, _, rfl, rfl, .inl (.inl (sG _ _ gV2)), vat i hi, _, rfl, rfl, _, rfl, ite2 (fun c => ?_) (fun c => ?_)⟩
      · have c : sj bs i ≠ m := fun z => by rw [z] at c; simp at c
        refine ⟨_, rfl, _, gL, ?_, same_grow nLB sG _, ?_⟩
        · have := nVl (fun j => decide (sj bs j ≠ m)) i (by omega)
          show _ < 2 ^ 24
          omega
        · rw [upd_same, flt_snoc, if_pos (decide_eq_true c), nvl_snoc, Int.zero_add]
      · have c : ¬ sj bs i ≠ m := fun z => c (by simp [z])
        refine ⟨sG, ?_⟩
        rw [flt_snoc, if_neg (by rw [decide_eq_false c]; decide)]
        exact gL
    · rintro G' ⟨sG, gL⟩
      refine ⟨LO, LB, _, _, rfl, rfl, sG _ _ gL2, gL, ?_, ?_⟩
      · have := nVl (fun j => decide (sj bs j = m)) bs.length l4
        have := nVl (fun j => decide (sj bs j ≠ m)) bs.length l4
        show (nvl ((List.range bs.length).filter fun j => decide (sj bs j = m))).length + _ ≤ 2 ^ 24
        omega
      · refine hq _ _ ⟨_, same_grow nLO (s1.trans (s2.trans sG)) _, ?_, rfl⟩
        rw [upd_same]
        unfold nvl
        rw [List.map_append]
        rfl
  rintro σ G3 ⟨v9, s3, gO, rfl⟩
  have ol : (ordA bs.length bs m ++ ordB bs.length bs m).length = bs.length := by rw [List.length_append]; exact ord_len bs m
  have oj : ∀ j ∈ ordA bs.length bs m ++ ordB bs.length bs m, j < bs.length := fun j hj => by
    rcases List.mem_append.mp hj with h | h
    · exact List.mem_range.mp (List.mem_filter.mp h).1
    · exact List.mem_range.mp (List.mem_filter.mp h).1
  have hgl : gls bs.length n bs m rows = (rows.map fun r => (ordA bs.length bs m ++ ordB bs.length bs m).map fun j => (r.getD j none).getD n) ++ [List.replicate bs.length n] := rfl
  have hnx := fun k => uk_next (m := m) (bs := bs) W hmo k
  have hA' := hA
  generalize hod : ordA bs.length bs m ++ ordB bs.length bs m = od at *
  refine seq_cut (t := tAsg _ _) (fun σ G' => ∃ v9 v12 LG ts, Same H G' ∧ H LG = none ∧ G' LG = some (.lst (ts.map V.ref)) ∧ TupsAt G' ts (rows.map fun r => od.map fun j => (r.getD j none).getD n) ∧ σ = [some (.ref p), some (.ref V0), some (.int L), some (.int (bs.length : Int)), some (.ref pr), some (.ref pe), some (.int (n : Int)), some (.int m), some (.ref LO), v9, some (.ref fS), some (.ref LG), v12, none, none, none, none]) ?_ ?_
  · intro Q' hq
    refine ⟨_, rfl, pr, rfl, ⟨_, .inl (.inl (s3 _ _ m2))⟩, fun LG nLG => lc_tup (K := K) (a := pr) (xs := rvs) (fun i G' => Same G3 G' ∧ ∃ ts, G' LG = some (.lst (ts.map V.ref)) ∧ TupsAt G' ts ((rows.take i).map fun r => od.map fun j => (r.getD j none).getD n)) ⟨same_new nLG _, [], upd_same, rfl, fun i r h => by cases h⟩ (fun i G' _ h => .inl (.inl (h.1 _ _ (s3 _ _ m2)))) ?_ ?_⟩
    · rintro i x G' hx ⟨sG, ts, gL, TA⟩
      have il : i < rows.length := by rw [← m4]; exact (List.getElem?_eq_some_iff.mp hx).1
      have er := List.getElem?_eq_getElem il
      obtain ⟨t, t1, t2⟩ := m5 i rows[i] er
      rw [hx] at t1
      cases t1
      have rl := (W.rw _ (List.mem_of_getElem? er)).1
      generalize hr0 : rows[i] = r at t2 rl
      have gt := sG _ _ (s3 _ _ t2)
      have gO' := sG _ _ gO
      refine ⟨rfl, _, rfl, LO, rfl, ⟨_, .inl (.inl gO')⟩, fun LT nLT => lc_list (K := K) (a := LO) (xs := nvl od) (fun j G2 => Same G' G2 ∧ G2 LT = some (.lst (nvl ((od.take j).map fun j => (r.getD j none).getD n)))) ⟨same_new nLT _, upd_same⟩ (fun j G2 _ h => .inl (.inl (h.1 _ _ gO'))) ?_ ?_⟩
      · rintro j y G5 hy ⟨s5, g5⟩
        unfold nvl at hy
        rw [List.getElem?_map] at hy
        obtain ⟨jj, ej, rfl⟩ := Option.map_eq_some_iff.mp hy
        have jl := oj jj (List.mem_of_getElem? ej)
        have jo : j < od.length := (List.getElem?_eq_some_iff.mp ej).1
        have ro : r[jj]? = some (r.getD jj none) := by
          rw [List.getD_eq_getElem?_getD, List.getElem?_eq_getElem (by rw [rl]; exact jl)]
          rfl
        have gt5 := s5 _ _ gt
        have at5 : atI (r.map oV) (jj : Int) = some (oV (r.getD jj none)) := atI_nat (by rw [List.getElem?_map, ro]; rfl)
        have sz : (nvl ((od.take j).map fun j => (r.getD j none).getD n)).length < 2 ^ 24 := by
          unfold nvl
          rw [List.length_map, List.length_map, List.length_take]
          omega
        have fin : (upd G5 LT (.lst (nvl ((od.take j).map fun j => (r.getD j none).getD n) ++ [V.int (((r.getD jj none).getD n : Nat) : Int)]))) LT = some (.lst (nvl ((od.take (j + 1)).map fun j => (r.getD j none).getD n))) := by
          rw [upd_same, List.take_add_one, ej, List.map_append, ← nvl_snoc]
          rfl
        refine ⟨rfl, _, rfl, _, rfl, t, _, _, _, rfl, rfl, .inl (.inl gt5), at5, _, rfl, ite2 (fun c => ?_) (fun c => ?_)⟩
        · have e : r.getD jj none = none := by cases eo : r.getD jj none with | none => rfl | some k => rw [eo] at c; exact absurd (of_decide_eq_true c) (fun z => nomatch z)
          rw [e] at fin
          exact ⟨_, rfl, _, g5, sz, same_grow nLT s5 _, fin⟩
        · cases eo : r.getD jj none with
          | none => rw [eo] at c; exact absurd (decide_eq_true rfl) c
          | some k =>
            rw [eo] at fin at5
            exact ⟨_, rfl, _, rfl, t, _, _, _, rfl, rfl, .inl (.inl gt5), at5, _, g5, sz, same_grow nLT s5 _, fin⟩
      · rintro G5 ⟨s5, g5⟩
        have eod : (nvl od).length = od.length := List.length_map _
        rw [eod, List.take_length] at g5
        refine ⟨LT, _, rfl, .inl ⟨.inl (.inl g5), fun t' nt' => ?_⟩⟩
        have s6 := same_new nt' (.tup (nvl (od.map fun j => (r.getD j none).getD n)))
        refine ⟨_, s6 _ _ (s5 _ _ gL), ?_, same_grow nLG (sG.trans (s5.trans s6)) _, ts ++ [t'], ?_, ?_⟩
        · rw [List.length_map, TA.1, List.length_map, List.length_take]
          have := W.rl
          show min i _ < 2 ^ 24
          omega
        · rw [upd_same, List.map_append]
          rfl
        · rw [List.take_add_one, er, List.map_append, hr0]
          exact TupsAt.snoc (((TA.same (s5.trans s6))).put (s6 _ _ (s5 _ _ gL)) _) (by rw [upd_ne (fun z => by rw [z] at nt'; rw [s5 _ _ gL] at nt'; cases nt'), upd_same]; rfl)
    · rintro G' ⟨sG, ts, gL, TA⟩
      rw [m4, List.take_length] at TA
      exact hq _ _ ⟨_, _, LG, ts, s3.trans sG, none_back s3 nLG, gL, TA, rfl⟩
  rintro σ G4 ⟨v9', v12, LG, ts, s4, nLG, gLG, TA, rfl⟩
  refine seq_cut (t := tIfS _ _ _) (fun σ G' => ∃ v13 k14 k15 k16, v13 = some (.int (m ^ L * cnt bs.length rows ends bs L 0)) ∧ LamX.ExtN H G' ∧ LamX.Tabs (TbS tt) G' ∧ σ = [some (.ref p), some (.ref V0), some (.int L), some (.int (bs.length : Int)), some (.ref pr), some (.ref pe), some (.int (n : Int)), some (.int m), some (.ref LO), v9', some (.ref fS), some (.ref LG), v12, v13, k14, k15, k16]) ?_ ?_
  · intro Q' hq
    refine ⟨_, rfl, _, _, rfl, rfl, _, rfl, ite2 (fun c => ?_) (fun _ => ?_)⟩
    · have t4 := tabs.ext s4
      refine ⟨_, rfl, _, rfl, t4, fun fL c' H1 x1 t1 n1 o1 o2 => ⟨_, rfl, p, fL, fS, LG, lamF (cloFrom _ lamS.names []) c', bs.length, n, L, rows, ends, bs, m, ts, rfl, machN (M.same s4) x1, W, L1, rfl, hmo, rfl, o1, o2, ok_lam _ _ _, rfl, x1 _ _ gLG (fun _ z => nomatch z), tupsN (by rw [hod]; exact TA) x1, hHeld, fun G sG => ?_⟩⟩
      exact hq _ _ ⟨_, _, _, _, rfl, ((LamX.ExtN.of s4).trans x1).trans (LamX.ExtN.of sG), t1.ext sG, rfl⟩
    refine ⟨_, rfl, .inl ⟨rfl, _, .inl (.inl gLG)⟩, _, rfl, by show 1 ≤ 2 ^ 24; decide, fun t nt => ⟨_, rfl, ?_⟩⟩
    have w5 := same_new nt (.tup [V.int (n : Int)])
    have gt : upd G4 t (.tup [V.int (n : Int)]) t = _ := upd_same
    generalize upd G4 t (.tup [V.int (n : Int)]) = G5 at w5 gt
    refine ⟨t, bs.length, _, rfl, rfl, gt, by simp, by omega, by omega, by show 1 ≤ 1000; decide, fun t6 G6 s6 g6 => ?_⟩
    rw [rep_flat] at g6
    have gLG6 := s6 _ _ (w5 _ _ gLG)
    have tl : ts.length = rows.length := by rw [TA.1, List.length_map]
    refine ⟨LG, _, _, rfl, rfl, gLG6, by rw [List.length_map, tl, W.rl]; show _ < 2 ^ 24; omega, ?_⟩
    have s7 := same_grow nLG (s4.trans (w5.trans s6)) (.lst (ts.map V.ref ++ [V.ref t6]))
    have TA7 : TupsAt (upd G6 LG (.lst (ts.map V.ref ++ [V.ref t6]))) (ts ++ [t6]) (gls bs.length n bs m rows) := by
      rw [hgl]
      refine TupsAt.snoc ((TA.same (w5.trans s6)).put gLG6 _) ?_
      rw [upd_ne (fun z => by rw [z, gLG6] at g6; cases g6), g6, List.map_replicate]
    have gG7 : upd G6 LG (.lst (ts.map V.ref ++ [V.ref t6])) LG = some (.lst ((ts ++ [t6]).map V.ref)) := by rw [upd_same, List.map_append]; rfl
    generalize upd G6 LG (.lst (ts.map V.ref ++ [V.ref t6])) = G7 at s7 TA7 gG7
    clear gLG6 g6 gt w5 s6
    have gl := hnx
    dsimp only
    refine seq_cut (t := tAsg _ _) (fun σ G' => ∃ LS : Addr, Same G7 G' ∧ G' LS = some (.lst ((uk bs.length rows ends bs m n 0).map V.int)) ∧ σ = [some (.ref p), some (.ref V0), some (.int L), some (.int (bs.length : Int)), some (.ref pr), some (.ref pe), some (.int (n : Int)), some (.int m), some (.ref LO), v9', some (.ref fS), some (.ref LG), v12, none, some (.ref LS), none, none]) ?_ ?_
    · intro Q2 hq2
      have el := W.el
      refine ⟨_, rfl, pe, rfl, ⟨_, .inl (.inl (s7 _ _ m3))⟩, fun LE nLE => lc_tup (K := K) (a := pe) (xs := ends.map V.bl) (fun i G' => Same G7 G' ∧ G' LE = some (.lst ((ends.take i).map fun b : Bool => V.int (if b = true then 1 else 0)))) ⟨same_new nLE _, upd_same⟩ (fun i G' _ h => .inl (.inl (h.1 _ _ (s7 _ _ m3)))) ?_ ?_⟩
      · rintro i x G' hx ⟨sG, gL⟩
        rw [List.getElem?_map] at hx
        obtain ⟨b, eb, rfl⟩ := Option.map_eq_some_iff.mp hx
        refine ⟨rfl, _, rfl, .inr ⟨b, rfl, _, gL, ?_, same_grow nLE sG _, ?_⟩⟩
        · rw [List.length_map, List.length_take]
          show min i _ < 2 ^ 24
          omega
        · rw [upd_same, List.take_add_one, eb, List.map_append]
          rfl
      · rintro G' ⟨sG, gL⟩
        rw [List.length_map, List.take_length] at gL
        refine ⟨by show 1 ≤ 2 ^ 24; decide, fun L0 nL0 => ?_⟩
        have w8 := same_new nL0 (.lst [V.int 0])
        have g8 : upd G' L0 (.lst [V.int 0]) L0 = _ := upd_same
        generalize upd G' L0 (.lst [V.int 0]) = G8 at w8 g8
        refine ⟨LE, L0, _, _, rfl, rfl, w8 _ _ gL, g8, by rw [List.length_map, el]; show n + 1 ≤ 2 ^ 24; omega, fun LS nLS => hq2 _ _ ⟨LS, sG.trans (w8.trans (same_new nLS _)), ?_, rfl⟩⟩
        rw [upd_same, uk_zero W, List.map_append, List.map_map]
        rfl
    rintro σ G8 ⟨LS, s8, gLS, rfl⟩
    refine seq_cut (t := tFor _ _ _) (fun σ G' => ∃ LS k16, Same G8 G' ∧ G' LS = some (.lst ((uk bs.length rows ends bs m n L).map V.int)) ∧ σ = [some (.ref p), some (.ref V0), some (.int L), some (.int (bs.length : Int)), some (.ref pr), some (.ref pe), some (.int (n : Int)), some (.int m), some (.ref LO), v9', some (.ref fS), some (.ref LG), v12, none, some (.ref LS), none, k16]) ?_ ?_
    · intro Q2 hq2
      refine ⟨_, rfl, _, rfl, by omega, by omega, for_range (lo := 0) (n := L) (fun i σ G' => ∃ LS k16, Same G8 G' ∧ G' LS = some (.lst ((uk bs.length rows ends bs m n i).map V.int)) ∧ σ = [some (.ref p), some (.ref V0), some (.int L), some (.int (bs.length : Int)), some (.ref pr), some (.ref pe), some (.int (n : Int)), some (.int m), some (.ref LO), v9', some (.ref fS), some (.ref LG), v12, none, some (.ref LS), none, k16])
        ⟨LS, none, Same.refl _, gLS, rfl⟩ ?_ ?_⟩
      · rintro i σ G' hi ⟨LS, k16, sG, gS, rfl⟩
        have s89 := s8.trans sG
        refine ⟨fS, _, rfl, if_pos rfl, _, rfl, _, rfl, LG, LS, ts ++ [t6], gls bs.length n bs m rows, uk bs.length rows ends bs m n i, rfl, s89 _ _ gG7, TA7.1, fun k r e => ?_, fun r hr => ?_, ?_, ?_, gS, fun L9 G9 s9 g9 => ?_⟩
        · obtain ⟨t, a, b⟩ := TA7.2 k r e
          exact ⟨t, a, s89 _ _ b⟩
        · have sl : (sgOf (ordA bs.length bs m).length (ordB bs.length bs m).length).length = bs.length := by unfold sgOf; simp; exact ord_len bs m
          rw [sl, uk_len]
          rw [hgl] at hr
          rcases List.mem_append.mp hr with hr | hr
          · obtain ⟨r0, hr0, rfl⟩ := List.mem_map.mp hr
            refine ⟨by rw [List.length_map]; exact ol, fun j hj => ?_⟩
            obtain ⟨jj, hjj, rfl⟩ := List.mem_map.mp hj
            cases e : r0.getD jj none with
            | none => exact Nat.lt_succ_self n
            | some k =>
              have := (W.rw r0 hr0).2 k (by
                rw [List.getD_eq_getElem?_getD] at e
                cases e3 : r0[jj]? with
                | none => rw [e3] at e; cases e
                | some o => rw [e3] at e; cases e; exact List.mem_of_getElem? e3)
              exact Nat.lt_succ_of_lt this
          · rw [List.mem_singleton.mp hr]
            refine ⟨by rw [List.length_replicate], fun j hj => ?_⟩
            rw [(List.mem_replicate.mp hj).2]
            exact Nat.lt_succ_self n
        · rw [hgl, List.length_append, List.length_map, W.rl]
          show n + 1 ≤ 1000
          omega
        · rw [uk_len]
          omega
        · rw [hnx i] at g9
          exact ⟨L9, _, sG.trans s9, g9, rfl⟩
      · exact fun σ G' h => hq2 _ _ h
    rintro σ G9 ⟨LS, k16, s9, gS9, rfl⟩
    refine ⟨_, rfl, LS, _, 0, _, rfl, rfl, .inl (.inl gS9), atI_nat (j := 0) (v := .int (m ^ L * cnt bs.length rows ends bs L 0)) ?_, hq _ _ ⟨_, _, _, _, rfl, LamX.ExtN.of (s7.trans (s8.trans s9)), tabs.ext (s7.trans (s8.trans s9)), rfl⟩⟩
    have h0 := uk_at (l := bs.length) (rows := rows) (ends := ends) (bs := bs) (m := m) (k := L) (s := 0) (n := n) wn1
    rw [List.getElem?_map]
    rw [List.getD_eq_getElem?_getD] at h0
    rw [List.getElem?_eq_getElem (by rw [uk_len]; omega)] at h0 ⊢
    have h0 : (uk bs.length rows ends bs m n L)[0]'_ = _ := h0
    rw [Option.map_some, h0]
  rintro σ G9 ⟨v13, k14, k15, k16, rfl, s9, t9, rfl⟩
  refine ⟨_, rfl, _, _, rfl, rfl, _, rfl, ite2 (fun c => ?_) (fun c => ?_)⟩
  · have c := of_decide_eq_true c
    have em : m = -1 := by omega
    refine ⟨_, rfl, _, _, rfl, rfl, _, rfl, ?_⟩
    rw [PyProof.Rows.bitAnd_m1]
    have k2 := q G9 s9 t9
    rw [em, pow_neg1]
    cases e : (((L : Int) % 2) != 0) with
    | true =>
      have o : L % 2 = 1 := by
        have := bne_iff_ne.mp e
        omega
      rw [if_pos o]
      refine iteT ⟨_, rfl, _, rfl, ?_⟩
      show Q (V.int (-(-1 * cnt bs.length rows ends bs L 0))) G9
      rw [show (-(-1 * cnt bs.length rows ends bs L 0) : Int) = cnt bs.length rows ends bs L 0 by omega]
      exact k2
    | false =>
      have o : ¬ L % 2 = 1 := fun z => by
        have : ((L : Int) % 2 != 0) = true := bne_iff_ne.mpr (by omega)
        rw [e] at this
        cases this
      rw [if_neg o]
      refine iteF ⟨_, rfl, ?_⟩
      rw [Int.one_mul]
      exact k2
  · have c : ¬ m < 0 := fun z => c (decide_eq_true z)
    have em : m = 1 := by omega
    refine ⟨_, rfl, ?_⟩
    rw [em, pow_one1, Int.one_mul]
    exact q G9 s9 t9
end
end S25
/-! signed_sum, signed, count. -/
namespace S25
open PySem PyProof.Rows L2 GL KC GZ KW KM GRJ
open K25 hiding seq_cut
abbrev sSs2 : Stmt := top 26
abbrev NSs2 : List Str := ["machine", "signs", "length", "values", "many"]
theorem scSs2 : FnScope NSs2 ["machine", "signs", "length"] (defScope sSs2) := ⟨rfl, rfl, rfl, by decide +kernel, rfl, by decide +kernel, by decide +kernel⟩
abbrev sSd2 : Stmt := top 29
abbrev NSd2 : List Str := ["machine", "signs", "length"]
theorem scSd2 : FnScope NSd2 ["machine", "signs", "length"] (defScope sSd2) := ⟨rfl, rfl, rfl, by decide +kernel, rfl, by decide +kernel, by decide +kernel⟩
abbrev sCo2 : Stmt := top 28
abbrev NCo2 : List Str := ["machine", "length"]
theorem scCo2 : FnScope NCo2 ["machine", "length"] (defScope sCo2) := ⟨rfl, rfl, rfl, by decide +kernel, rfl, by decide +kernel, by decide +kernel⟩
theorem plusS (l : Nat) : (⟨(List.replicate l 43).toArray⟩ : Str) = sS (pluses l) := by
  unfold sS pluses
  rw [List.map_replicate]
  rfl
def spSig2 (tt : Addr) : Sp := fun vs H Q _ => ∃ (p : Addr) (l n L : Nat) (rows : Rows) (ends bs : List Bool), vs = [.ref p, .str (sS bs), .int L] ∧ MachAt H p l rows ends ∧ WF l n rows ends ∧ bs.length = l ∧ L ≤ 1000 ∧ LamX.Tabs (TbS tt) H ∧
  ∀ G, LamX.ExtN H G → LamX.Tabs (TbS tt) G → Q (.int (cnt l rows ends bs L 0)) G
def spCo (tt : Addr) : Sp := fun vs H Q _ => ∃ (p : Addr) (l n L : Nat) (rows : Rows) (ends : List Bool), vs = [.ref p, .int L] ∧ MachAt H p l rows ends ∧ WF l n rows ends ∧ L ≤ 1000 ∧ LamX.Tabs (TbS tt) H ∧
  ∀ G, LamX.ExtN H G → LamX.Tabs (TbS tt) G → Q (.int (cnt l rows ends (pluses l) L 0)) G
section
variable {P : Program} {w : World} {K : PySem.W.Frag} {mg : Str → Option Value} {base : Heap}
theorem ok_ss2 {f fV fB fQ tt : Addr} {fd fdV fdB fdQ : FuncData} {tQ : Tok} (F : Fun K "signed_sum" "signed_sum" sSs2 f fd) (T : TxC mg) (mSq : mg "SQUARED" = some (.int 15 tQ)) (SV : Dfn P w K mg base "sign_values" 1 fV fdV ["signs"] spSv) (BY : Dfn P w K mg base "by_steps" 7 fB fdB ["machine", "values", "length"] (spBy2 tt))
    (SQ : Dfn P w K mg base "by_squares" 2 fQ fdQ ["machine", "values", "length"] spSq) : FnOk P w K mg base CX0 8 f fd ["machine", "signs", "length"] (spSig2 tt) := by
  refine F.ok scSs2 (fun vs H Q E h => ?_) (fun cdv A outer s H vs Q E hr h => ?_)
  · obtain ⟨p, l, n, L, rows, ends, bs, rfl, _⟩ := h
    rfl
  obtain ⟨p, l, n, L, rows, ends, bs, rfl, M, W, bl, L1, tabs, q⟩ := h
  refine ⟨_, (pss_cons (ps_set (i := 3) scSs2.nd rfl (Or.inl rfl) (pe_call SV.ok (hr.mono (by decide)) rfl SV.m SV.kp SV.b .nil pass0 (pa_cons (pv 1) pa_nil)))
    (pss_cons (ps_set (i := 4) scSs2.nd rfl (Or.inl rfl) (pe_callB call_lenS (by rfl) T.len PySem.boot_len (pa_cons (pe_ixT (pv 0) pe_int (fun _ _ => rfl)) pa_nil)))
    (pss_cons (ps_if (pt_cmpR op_lt (pe_op op_mul (pe_op op_mul (pe_glob (v := .int 15) rfl mSq ⟨_, rfl⟩) (pv 4)) (pv 4)) (pv 2) (nomark _))
      (pss_one (ps_ret (pe_call SQ.ok (hr.mono (by decide)) rfl SQ.m SQ.kp SQ.b .nil pass0 (pa_cons (pv 0) (pa_cons (pv 3) (pa_cons (pv 2) pa_nil))))))
      pss_nil)
    (pss_one (ps_ret (pe_call BY.ok hr rfl BY.m BY.kp BY.b .nil pass0 (pa_cons (pv 0) (pa_cons (pv 3) (pa_cons (pv 2) pa_nil))))))))), ?_⟩
  obtain ⟨pr, pe, rvs, m1, m2, m3, m4, m5⟩ := M.ex
  have wn1 := W.n1
  have l4 := W.l4
  have n4 := W.n4
  refine ⟨_, rfl, bs, rfl, by omega, fun V0 G s1 gV => ?_⟩
  refine ⟨_, rfl, p, _, 1, _, rfl, rfl, .inl (.inl (s1 _ _ m1)), rfl, pr, rvs, rfl, .inr (.inl (.inl (s1 _ _ m2))), ?_⟩
  dsimp only [gName]
  rw [m4, W.rl]
  refine ⟨_, rfl, _, _, rfl, rfl, .inl (by decide), _, rfl, _, _, rfl, rfl, .inr (by omega), _, rfl, _, _, rfl, rfl, _, rfl, ite2 (fun c => ?_) (fun _ => ?_)⟩
  · have c := of_decide_eq_true c
    have e : (15 : Int) * (n : Int) * (n : Int) = ((15 * (n * n) : Nat) : Int) := by rw [Int.mul_assoc]; rfl
    rw [e] at c
    have n8 : n ≤ 8 := by
      refine Nat.le_of_not_lt fun z => ?_
      have : 9 * 9 ≤ n * n := Nat.mul_le_mul z z
      omega
    exact ⟨_, rfl, _, rfl, _, rfl, p, V0, l, n, L, rows, ends, bs, rfl, M.same s1, W, n8, bl, gV, L1, fun G2 s2 => q G2 (LamX.ExtN.of (s1.trans s2)) (tabs.ext (s1.trans s2))⟩
  · exact ⟨_, rfl, _, rfl, _, rfl, p, V0, l, n, L, rows, ends, bs, rfl, M.same s1, W, bl, gV, L1, tabs.ext s1, fun G2 x2 t2 => q G2 ((LamX.ExtN.of s1).trans x2) t2⟩
theorem ok_sd2 {f fS tt : Addr} {fd fdS : FuncData} (F : Fun K "signed" "signed" sSd2 f fd) (SS : Dfn P w K mg base "signed_sum" 8 fS fdS ["machine", "signs", "length"] (spSig2 tt)) : FnOk P w K mg base CX0 9 f fd ["machine", "signs", "length"] (spSig2 tt) := by
  refine F.ok scSd2 (fun vs H Q E h => ?_) (fun cdv A outer s H vs Q E hr h => ?_)
  · obtain ⟨p, l, n, L, rows, ends, bs, rfl, _⟩ := h
    rfl
  obtain ⟨p, l, n, L, rows, ends, bs, rfl, h⟩ := h
  refine ⟨_, (pss_one (ps_ret (pe_call SS.ok hr rfl SS.m SS.kp SS.b .nil pass0 (pa_cons (pv 0) (pa_cons (pv 1) (pa_cons (pv 2) pa_nil)))))), ?_⟩
  exact ⟨_, rfl, _, rfl, _, rfl, p, l, n, L, rows, ends, bs, rfl, h⟩
theorem ok_co {f fS tt : Addr} {fd fdS : FuncData} (F : Fun K "count" "count" sCo2 f fd) (SS : Dfn P w K mg base "signed_sum" 8 fS fdS ["machine", "signs", "length"] (spSig2 tt)) : FnOk P w K mg base CX0 9 f fd ["machine", "length"] (spCo tt) := by
  refine F.ok scCo2 (fun vs H Q E h => ?_) (fun cdv A outer s H vs Q E hr h => ?_)
  · obtain ⟨p, l, n, L, rows, ends, rfl, _⟩ := h
    rfl
  obtain ⟨p, l, n, L, rows, ends, rfl, M, W, L1, tabs, q⟩ := h
  refine ⟨_, (pss_one (ps_ret (pe_call SS.ok hr rfl SS.m SS.kp SS.b .nil pass0 (pa_cons (pv 0) (pa_cons (pe_op op_mulS pe_str (pe_ixT (pv 0) pe_int (fun _ _ => rfl))) (pa_cons (pv 1) pa_nil)))))), ?_⟩
  obtain ⟨pr, pe, rvs, m1, m2, m3, m4, m5⟩ := M.ex
  have l1 := W.l1
  have l4 := W.l4
  refine ⟨_, rfl, _, rfl, p, _, 0, .int l, rfl, rfl, .inl (.inl m1), rfl, 43, l, rfl, rfl, l1, by omega, _, rfl, ?_⟩
  rw [plusS]
  exact ⟨p, l, n, L, rows, ends, pluses l, rfl, M, W, by unfold pluses; rw [List.length_replicate], L1, tabs, q⟩
end
end S25
/-! What stands when nothing but code tables changes. No row. -/
namespace GXN
open PySem L2 GL KC KM
section
variable {K : PySem.W.Frag} {H H' : Hp}
mutual
theorem dtN (x : LamX.ExtN H H') : ∀ {d : PyData} {v : V}, Dt K H v d → Dt K H' v d
  | _, _, .non => .non
  | _, _, .bl b => .bl b
  | _, _, .int i => .int i
  | _, _, .str z => .str z
  | _, _, .lst h a => .lst (x _ _ h (fun _ z => nomatch z)) (dtAllN x a)
  | _, _, .tup h a => .tup (x _ _ h (fun _ z => nomatch z)) (dtAllN x a)
  | _, _, .dic h => .dic (x _ _ h (fun _ z => nomatch z))
theorem dtAllN (x : LamX.ExtN H H') : ∀ {ds : List PyData} {vs : List V}, DtAll K H vs ds → DtAll K H' vs ds
  | _, _, .nil => .nil
  | _, _, .cons h a => .cons (dtN x h) (dtAllN x a)
end
end
theorem machN {G G' : Hp} {p : Addr} {l : Nat} {rows : Rows} {ends : List Bool} (M : MachAt G p l rows ends) (x : LamX.ExtN G G') : MachAt G' p l rows ends :=
  let ⟨pr, pe, rvs, h1, h2, h3, h4, h5⟩ := M.ex
  ⟨pr, pe, rvs, x _ _ h1 (fun _ z => nomatch z), x _ _ h2 (fun _ z => nomatch z), x _ _ h3 (fun _ z => nomatch z), h4, fun i r e => let ⟨t, a, b⟩ := h5 i r e; ⟨t, a, x _ _ b (fun _ z => nomatch z)⟩⟩
theorem deckN {d c : Addr} {m : Nat} {G G' : Hp} (D : Deck G d c m) (x : LamX.ExtN G G') : Deck G' d c m := by
  obtain ⟨L, n, h1, h2, h3⟩ := D.ex
  exact ⟨D.ne, L, n, x _ _ h1 (fun _ z => nomatch z), x _ _ h2 (fun _ z => nomatch z), h3⟩
theorem tabsHd {T : List (Addr × Str)} {d c : Addr} {m : Nat} {G G' : Hp} (D : Deck G d c m) (tabs : LamX.Tabs T G) (s : Same (Hd d c G) (Hd d c G')) : LamX.Tabs T G' := fun y hy => by
  obtain ⟨L, n, h1, h2, _⟩ := D.ex
  have k : ∀ {b : Addr} {o : HO}, G b = some o → (∀ xs, o ≠ .lst xs) → G' b = some o := fun {b o} h nl => hd_sub _ _ (s _ _ (hd_of h (fun z => by rw [z, h1] at h; exact nl _ (Option.some.inj h).symm) (fun z => by rw [z, h2] at h; exact nl _ (Option.some.inj h).symm)))
  obtain ⟨ps, a1, a2, a3⟩ := tabs y hy
  exact ⟨ps, k a1 (fun _ z => nomatch z), a2, fun pos cv e => let ⟨c, a, b⟩ := a3 pos cv e; ⟨c, a, k b (fun _ z => nomatch z)⟩⟩
end GXN
namespace K25
open PySem L2 GL KC KW KM
def spLaw (K : PySem.W.Frag) (tt : Addr) : Sp := fun vs H Q _ => ∃ (a : Addr) (ns : List Int), vs = [.ref a] ∧ SqL K H a (ns.map V.int) ∧ ns.length ≤ 63 ∧ H tt = some (.tbl #[]) ∧ ∀ H', Q (.bl true) H'
abbrev NL : List Str := ["_law_script", "_law_deck_here", "_law_turn", "_law_letters", "_law_machine_here", "_law_signs_here", "_law_kept", "_law_sums_here", "_law_many", "_law_length", "_law_words", "_law_great", "_law_word"]
theorem far_deck {G : Hp} {d c b : Addr} {m : Nat} {xs : List V} (D : Deck G d c m) (g : G b = some (.lst xs)) (h : xs.length = 401) : Hd d c G b = some (.lst xs) := by
  obtain ⟨L, n, h1, h2, h3, _⟩ := D.ex
  refine hd_of g (fun e => ?_) (fun e => ?_)
  · rw [e, h1] at g
    have z := HO.lst.inj (Option.some.inj g)
    rw [← z] at h
    exact absurd h (by show ¬ 2 = 401; decide)
  · rw [e, h2] at g
    have z := HO.lst.inj (Option.some.inj g)
    rw [← z, List.length_map] at h
    omega
theorem sums_len (l : Nat) (rows : Rows) (ends bs : List Bool) (m : Nat) : (sums l rows ends bs m).length = m := by
  unfold sums
  rw [List.length_map, List.length_range]
theorem plus_S (l : Nat) : (⟨(List.replicate l 43).toArray⟩ : Str) = sS (pluses l) := by
  unfold sS pluses
  rw [List.map_replicate]
  rfl
theorem most_at : ∀ l0 : Nat, l0 < 4 → ∃ mo : Nat, mo ≤ 6 ∧ atI ([V.int 6, V.int 6, V.int 5, V.int 4] : List V) (((1 + l0 : Nat) : Int) - 1) = some (V.int (mo : Int)) := by
  intro l0 h
  rcases l0 with _ | _ | _ | _ | l0
  · exact ⟨6, by decide, by decide +kernel⟩
  · exact ⟨6, by decide, by decide +kernel⟩
  · exact ⟨5, by decide, by decide +kernel⟩
  · exact ⟨4, by decide, by decide +kernel⟩
  · omega
theorem fitI {i : Int} (h : i.natAbs < 10 ^ 300) : (PyData.int i).showable = true ∧ (PyData.int i).depth ≤ 60 ∧ (PyData.int i).shown.length ≤ 301 := by
  have e := int_text_length_le10 (k := 300) (by decide) h
  refine ⟨?_, by simp only [PyData.depth]; exact Nat.zero_le _, by simp only [PyData.shown]; rw [ofString_length]; exact e⟩
  simp only [PyData.showable, decide_eq_true_eq]
  have h2 : i.natAbs < 2 ^ 1920 := Nat.lt_trans h (by decide +kernel)
  by_cases z : i.natAbs = 0
  · rw [z]; decide
  · exact (Nat.log2_lt z).mpr h2
theorem cnt_small {l n : Nat} {rows : Rows} {ends bs : List Bool} (W : WF l n rows ends) {k : Nat} (hk : k ≤ 400) (s : Nat) : (cnt l rows ends bs k s).natAbs < 10 ^ 300 := by
  refine Nat.lt_of_le_of_lt (cnt_abs l rows ends bs k s) ?_
  exact Nat.lt_of_le_of_lt (Nat.pow_le_pow_left W.l4 k) (Nat.lt_of_le_of_lt (Nat.pow_le_pow_right (by decide) hk) (by decide +kernel))
theorem two_fit {K : PySem.W.Frag} {H : Hp} {v : V} {a b : Int} (h : Dt K H v (.list [.int a, .int b])) (ha : a.natAbs < 10 ^ 300) (hb : b.natAbs < 10 ^ 300) : (PyData.list [.int a, .int b]).showable = true ∧ (PyData.list [.int a, .int b]).depth ≤ 60 ∧ (PyData.list [.int a, .int b]).shown.length ≤ sizeLine := by
  obtain ⟨a1, a2, a3⟩ := fitI ha
  obtain ⟨b1, b2, b3⟩ := fitI hb
  refine ⟨?_, ?_, ?_⟩
  · simp only [PyData.showable, PyData.showableAll, Bool.and_true] at a1 b1 ⊢
    rw [a1, b1]
    rfl
  · simp only [PyData.depth, PyData.depthAll] at a2 b2 ⊢
    omega
  · have z := shown_wt _ _ h
    simp only [wt, wts] at z
    show _ ≤ 2 ^ 24
    omega
theorem two_eqv (a b : Int) : PyData.eqv (.list [.int a, .int b]) (.list [.int a, .int b]) = true ∧ SeqAt.shaped (.list [.int a, .int b]) = true := by
  refine ⟨by simp [PyData.eqv, PyData.eqvAll], by rfl⟩
section
variable {P : Program} {w : World} {K : PySem.W.Frag} {mg : Str → Option Value} {base : Heap}
theorem scL : FnScope ["_law_script", "_law_deck_here", "_law_turn", "_law_letters", "_law_machine_here", "_law_signs_here", "_law_kept", "_law_sums_here", "_law_many", "_law_length", "_law_words", "_law_great", "_law_word"] ["_law_script"] (defScope sLaw) := ⟨rfl, rfl, rfl, by decide +kernel, rfl, by decide +kernel, by decide +kernel⟩
theorem ok_law {tt f fK fW fM fR fT fG fN fU fC fS : Addr} {fd fdK fdW fdM fdR fdT fdG fdN fdU fdC fdS : FuncData} {kc : Nat} (hkc : kc + 1 ≤ 20) (F : Fun K "law" "law" sLaw f fd) (T : Txt mg)
    (DK : Dfn P w K mg base "_law_deck" 1 fK fdK ["_law_script"] (spDeck K)) (W : Dfn P w K mg base "_law_draw" 1 fW fdW ["_law_deck_here", "_law_many"] spDraw)
    (MM : Dfn P w K mg base "_law_machine" 3 fM fdM ["_law_deck_here", "_law_letters", "_law_many"] (spMach K)) (RD : Dfn P w K mg base "_law_read" 1 fR fdR ["_law_machine_here", "_law_word"] spIs)
    (TX : Dfn P w K mg base "_law_texts" 1 fT fdT ["_law_letters", "_law_length"] spTexts) (SG : Dfn P w K mg base "_law_sign" 1 fG fdG ["_law_signs_here", "_law_word"] spSgn)
    (SN : Dfn P w K mg base "_law_signs" 3 fN fdN ["_law_deck_here", "_law_letters"] spSigns) (SU : Dfn P w K mg base "_law_sums" 1 fU fdU ["_law_machine_here", "_law_signs_here", "_law_most"] spSums)
    (CO : Dfn P w K mg base "count" kc fC fdC ["machine", "length"] (S25.spCo tt)) (SI : Dfn P w K mg base "signed" kc fS fdS ["machine", "signs", "length"] (S25.spSig2 tt)) : Fg P w K mg base CX0 21 f fd ["_law_script"] (spLaw K tt) := by
  refine ok_g F scL (fun vs H Q E h => ?_) (fun cdv A outer s H vs Q E hg hr h => ?_)
  · obtain ⟨a, ns, rfl, _⟩ := h
    rfl
  obtain ⟨a, ns, rfl, hS, hl, hT, q⟩ := h
  have hr1 : Room 1 _ := hr.mono (by decide)
  have hr3 : Room 3 _ := hr.mono (by decide)
  have hrc : Room kc _ := hr.mono (by omega)
  refine ⟨_, (pss_cons (ps_set (i := 1) scL.nd rfl (Or.inl rfl) (pe_call DK.ok hr1 rfl DK.m DK.kp DK.b .nil pass0 (pa_cons (pv 0) pa_nil)))
      (pss_cons (ps_for PassesOwn.never rfl (pi_range1 rfl T.c.range (pa_cons pe_int pa_nil)) (pg_name (i := 2) scL.nd rfl (Or.inl rfl)) (pss_cons (ps_set (i := 3) scL.nd rfl (Or.inl rfl) (pe_op op_add pe_int (pe_call W.ok hr1 rfl W.m W.kp W.b .nil pass0 (pa_cons (pv 1) (pa_cons pe_int pa_nil)))))
      (pss_cons (ps_set (i := 4) scL.nd rfl (Or.inr rfl) (pe_call MM.ok hr3 rfl MM.m MM.kp MM.b .nil pass0 (pa_cons (pv 1) (pa_cons (pv 3) (pa_cons (pe_op op_add pe_int (pe_call W.ok hr1 rfl W.m W.kp W.b .nil pass0 (pa_cons (pv 1) (pa_cons pe_int pa_nil)))) pa_nil)))))
      (pss_cons (ps_asg (pe_tup (pa_cons (pe_call SN.ok hr3 rfl SN.m SN.kp SN.b .nil pass0 (pa_cons (pv 1) (pa_cons (pv 3) pa_nil))) (pa_cons (pe_callB (call_reprD hg hr.units) (by rfl) T.repr (by decide +kernel) (pa_cons (pv 4) pa_nil)) pa_nil))) (pg_tup (by rfl) (pgs_cons (pg_name (i := 5) scL.nd rfl (Or.inr rfl)) (pgs_cons (pg_name (i := 6) scL.nd rfl (Or.inl rfl)) pgs_nil))))
      (pss_cons (ps_par (i := 7) (j := 8) (by rfl) scL.nd rfl rfl (by decide) rfl rfl (pa_cons (pe_call SU.ok hr1 rfl SU.m SU.kp SU.b .nil pass0 (pa_cons (pv 4) (pa_cons (pv 5) (pa_cons pe_int pa_nil)))) (pa_cons (pe_call SU.ok hr1 rfl SU.m SU.kp SU.b .nil pass0 (pa_cons (pv 4) (pa_cons (pe_op op_mulS pe_str (pv 3)) (pa_cons pe_int pa_nil)))) pa_nil)) (by rfl))
      (pss_cons (ps_for PassesOwn.never rfl (pi_range1 rfl T.c.range (pa_cons (pe_op op_add (pe_ix ix_list (pe_lst (pa_cons pe_int (pa_cons pe_int (pa_cons pe_int (pa_cons pe_int pa_nil))))) (pe_op op_sub (pv 3) pe_int) (fun _ _ => rfl)) pe_int) pa_nil)) (pg_name (i := 9) scL.nd rfl (Or.inl rfl)) (pss_cons (ps_setLc (i := 10) (own := [("_law_word", 12)]) (g := gName 12) rfl scL.nd rfl rfl (sw_true rfl rfl rfl (by decide +kernel)) (pi_list (pe_call TX.ok hr1 rfl TX.m TX.kp TX.b .nil pass0 (pa_cons (pv 3) (pa_cons (pv 9) pa_nil))))
        (blkOk_by (own := [("_law_word", 12)]) (N := NL) (sc := defScope sLaw) (by decide +kernel)) (fun _ _ _ _ _ => pg_name (i := 12) scL.nd rfl (Or.inl rfl)) (fun _ _ _ _ _ => pts_one (pt_val (pe_call RD.ok hr1 rfl RD.m RD.kp RD.b .nil pass0 (pa_cons (pv 4) (pa_cons (pv 12) pa_nil))))) (fun _ _ _ _ _ => pv 12))
      (pss_one (ps_if (pt_cmpR (op_neD hr.units) (pe_lst (pa_cons (pe_callB call_len_seq (by rfl) T.c.len PySem.boot_len (pa_cons (pv 10) pa_nil)) (pa_cons (pe_callB (cr_sum rfl) (by rfl) T.sum (by decide +kernel) (pa_cons (pe_lc (own := [("_law_word", 12)]) (g := gName 12) (tt := tYes) rfl scL.nd (pi_list (pv 10))
        (blkOk_by (own := [("_law_word", 12)]) (N := NL) (sc := defScope sLaw) (by decide +kernel)) (fun _ _ _ _ _ => pg_name (i := 12) scL.nd rfl (Or.inl rfl)) (fun _ _ _ _ _ => pts_nil) (fun _ _ _ _ _ => (pe_call SG.ok hr1 rfl SG.m SG.kp SG.b .nil pass0 (pa_cons (pv 5) (pa_cons (pv 12) pa_nil))))) pa_nil)) pa_nil))) (pe_lst (pa_cons (pe_ix ix_list (pv 8) (pv 9) (fun _ _ => rfl)) (pa_cons (pe_ix ix_list (pv 7) (pv 9) (fun _ _ => rfl)) pa_nil))) (nomark _)) (pss_one (ps_ret pe_bl)) pss_nil))))
      (pss_cons (ps_for PassesOwn.never rfl (pi_list (pe_lst (pa_cons pe_int (pa_cons pe_int (pa_cons pe_int (pa_cons pe_int (pa_cons pe_int (pa_cons pe_int (pa_cons pe_int (pa_cons pe_int (pa_cons (pe_call W.ok hr1 rfl W.m W.kp W.b .nil pass0 (pa_cons (pv 1) (pa_cons pe_int pa_nil))) (pa_cons (pe_call W.ok hr1 rfl W.m W.kp W.b .nil pass0 (pa_cons (pv 1) (pa_cons pe_int pa_nil))) pa_nil)))))))))))) (pg_name (i := 9) scL.nd rfl (Or.inl rfl)) (pss_one (ps_if (pt_cmpR op_ne (pe_callB (call_reprD hg hr.units) (by rfl) T.repr (by decide +kernel) (pa_cons (pe_lst (pa_cons (pe_call CO.ok hrc rfl CO.m CO.kp CO.b .nil pass0 (pa_cons (pv 4) (pa_cons (pv 9) pa_nil))) (pa_cons (pe_call SI.ok hrc rfl SI.m SI.kp SI.b .nil pass0 (pa_cons (pv 4) (pa_cons (pv 5) (pa_cons (pv 9) pa_nil)))) pa_nil))) pa_nil)) (pe_callB (call_reprD hg hr.units) (by rfl) T.repr (by decide +kernel) (pa_cons (pe_lst (pa_cons (pe_ix ix_list (pv 8) (pv 9) (fun _ _ => rfl)) (pa_cons (pe_ix ix_list (pv 7) (pv 9) (fun _ _ => rfl)) pa_nil))) pa_nil)) (nomark _)) (pss_one (ps_ret pe_bl)) pss_nil)))
      (pss_one (ps_if (pt_cmpR op_ne (pe_callB (call_reprD hg hr.units) (by rfl) T.repr (by decide +kernel) (pa_cons (pv 4) pa_nil)) (pv 6) (nomark _)) (pss_one (ps_ret pe_bl)) pss_nil)))))))))
      (pss_cons (ps_set (i := 11) scL.nd rfl (Or.inl rfl) (pe_call MM.ok hr3 rfl MM.m MM.kp MM.b .nil pass0 (pa_cons (pv 1) (pa_cons pe_int (pa_cons (pe_op op_add pe_int (pe_call W.ok hr1 rfl W.m W.kp W.b .nil pass0 (pa_cons (pv 1) (pa_cons pe_int pa_nil)))) pa_nil)))))
      (pss_cons (ps_set (i := 9) scL.nd rfl (Or.inl rfl) (pe_call W.ok hr1 rfl W.m W.kp W.b .nil pass0 (pa_cons (pv 1) (pa_cons pe_int pa_nil))))
      (pss_cons (ps_if (pt_cmpR op_ne (pe_callB (call_reprD hg hr.units) (by rfl) T.repr (by decide +kernel) (pa_cons (pe_call CO.ok hrc rfl CO.m CO.kp CO.b .nil pass0 (pa_cons (pv 11) (pa_cons (pv 9) pa_nil))) pa_nil)) (pe_callB (call_reprD hg hr.units) (by rfl) T.repr (by decide +kernel) (pa_cons (pe_ix ix_list (pe_call SU.ok hr1 rfl SU.m SU.kp SU.b .nil pass0 (pa_cons (pv 11) (pa_cons pe_str (pa_cons (pv 9) pa_nil)))) (pv 9) (fun _ _ => rfl)) pa_nil)) (nomark _)) (pss_one (ps_ret pe_bl)) pss_nil)
      (pss_one (ps_ret (pe_cmpR op_eq (pe_callB (call_reprD hg hr.units) (by rfl) T.repr (by decide +kernel) (pa_cons (pe_call SI.ok hrc rfl SI.m SI.kp SI.b .nil pass0 (pa_cons (pv 11) (pa_cons pe_str (pa_cons (pv 9) pa_nil)))) pa_nil)) (pe_callB (call_reprD hg hr.units) (by rfl) T.repr (by decide +kernel) (pa_cons (pe_ix ix_list (pe_call SU.ok hr1 rfl SU.m SU.kp SU.b .nil pass0 (pa_cons (pv 11) (pa_cons pe_str (pa_cons (pv 9) pa_nil)))) (pv 9) (fun _ _ => rfl)) pa_nil)) (nomark _))))))))), ?_⟩
  refine ⟨_, rfl, a, ns, rfl, hS, hl, fun d c G0 s0 nd nc D0 => ?_⟩
  have T0 : LamX.Tabs (S25.TbS tt) G0 := fun x hx => by
    rw [List.mem_singleton.mp hx]
    exact (LamX.TabS.nil hT).ext s0
  refine ⟨6, rfl, by decide, by decide, for_range (lo := 0) (n := 6) (fun i σ G => ∃ (k2 k3 k4 k5 k6 k7 k8 k9 k10 k11 : Option V), σ = [some (.ref a), some (.ref d), k2, k3, k4, k5, k6, k7, k8, k9, k10, k11, none] ∧ Deck G d c (i * 5000) ∧ LamX.Tabs (S25.TbS tt) G)
      ⟨none, none, none, none, none, none, none, none, none, none, rfl, D0, T0⟩ ?_ ?_⟩
  · rintro i σ G hi ⟨k2, k3, k4, k5, k6, k7, k8, k9, k10, k11, rfl, DG, TG⟩
    refine ⟨_, rfl, d, c, 4, _, rfl, DG, by omega, by decide, by decide, fun r1 G1 r10 r11 D1 s1 => ⟨_, _, rfl, rfl, ?_⟩⟩
    obtain ⟨l0, rfl⟩ : ∃ l0 : Nat, r1 = (l0 : Int) := ⟨r1.toNat, by omega⟩
    refine ⟨_, rfl, _, rfl, _, rfl, d, c, 9, _, rfl, D1, by omega, by decide, by decide, fun r2 G2 r20 r21 D2 s2 => ⟨_, _, rfl, rfl, ?_⟩⟩
    obtain ⟨n0, rfl⟩ : ∃ n0 : Nat, r2 = (n0 : Int) := ⟨r2.toNat, by omega⟩
    have l4 : 1 + l0 ≤ 4 := by omega
    refine ⟨d, c, 1 + l0, 1 + n0, _, rfl, D2, by omega, by omega, l4, by omega, by omega, fun p md G3 im dm D3 s3 => ?_⟩
    obtain ⟨rows, ends, M, WM⟩ := mach_of im dm (by omega) (by omega) (show 1 ≤ 1 + n0 by omega) (by omega)
    have fm := (fit_mach im WM.l4 WM.n4).mono (show 188 * (1 + n0) + 60 ≤ 100000 by omega) (Nat.le_refl 3)
    have shm : ∀ (G' : Hp), Same (Hd d c G3) (Hd d c G') → Dt K G' (.ref p) md ∧ md.showable = true ∧ md.depth ≤ 60 ∧ md.shown.length ≤ sizeLine := fun G' s => by
      refine ⟨(dm.same s).same hd_sub, fm.s, Nat.le_trans fm.k (by decide), ?_⟩
      have a := shown_wt md _ dm
      have b := fm.w
      show _ ≤ 2 ^ 24
      omega
    refine ⟨_, rfl, _, rfl, d, c, 1 + l0, _, rfl, D3, by omega, l4, fun bs G4 hb D4 s4 => ?_⟩
    obtain ⟨m1, m2, m3, m4⟩ := shm G4 s4
    refine ⟨_, rfl, _, md, rfl, m1, m2, m3, m4, by show 2 ≤ 2 ^ 24; decide, fun tp ntp => ?_⟩
    have gtp : upd G4 tp (.tup [V.str (sS bs), V.str md.shown]) tp = some (.tup [V.str (sS bs), V.str md.shown]) := upd_same
    have s5 := s4.trans (hd_new (d := d) (c := c) ntp (.tup [V.str (sS bs), V.str md.shown]))
    have D5 := D4.new ntp (.tup [V.str (sS bs), V.str md.shown])
    generalize upd G4 tp (.tup [V.str (sS bs), V.str md.shown]) = G5 at gtp s5 D5
    refine ⟨tp, _, rfl, .inl (.inl gtp), rfl, _, _, rfl, _, _, rfl, rfl, ?_⟩
    have M5 : MachAt G5 p (1 + l0) rows ends := (M.same s5).same hd_sub
    refine ⟨_, rfl, _, rfl, p, 1 + l0, 1 + n0, 400, rows, ends, bs, rfl, M5, WM, hb, by decide, fun La G6 s6 ga => ?_⟩
    refine ⟨_, rfl, _, rfl, 43, 1 + l0, rfl, rfl, by omega, by omega, ?_⟩
    rw [plus_S]
    refine ⟨p, 1 + l0, 1 + n0, 400, rows, ends, pluses (1 + l0), rfl, M5.same s6, WM, by unfold pluses; rw [List.length_replicate], by decide, fun Lb G7 s7 gb => ⟨_, _, rfl, ?_⟩⟩
    have M7 := (M5.same s6).same s7
    replace ga := s7 _ _ ga
    have D7 := (D5.same s6).same s7
    have s8 : Same (Hd d c G3) (Hd d c G7) := s5.trans (hd_same (s6.trans s7))
    obtain ⟨mo, mo6, moat⟩ := most_at l0 (by omega)
    refine ⟨by show 4 ≤ 2 ^ 24; decide, fun lq nlq => ?_⟩
    have t9 := same_new nlq (.lst [V.int 6, V.int 6, V.int 5, V.int 4])
    have gq : upd G7 lq (.lst [V.int 6, V.int 6, V.int 5, V.int 4]) lq = some (.lst [V.int 6, V.int 6, V.int 5, V.int 4]) := upd_same
    replace ga := t9 _ _ ga
    replace gb := t9 _ _ gb
    have M8 := M7.same t9
    have D8 := D7.same t9
    have s9 := s8.trans (hd_same t9)
    generalize upd G7 lq (.lst [V.int 6, V.int 6, V.int 5, V.int 4]) = G8 at gq ga gb M8 D8 s9
    clear t9 s8 D7 M7
    have sa_at : ∀ k, k ≤ 400 → (sums (1 + l0) rows ends bs 401)[k]? = some (V.int (cnt (1 + l0) rows ends bs k 0)) := fun k hk => by
      unfold sums
      rw [List.getElem?_map, List.getElem?_range (by omega)]
      rfl
    have sb_at : ∀ k, k ≤ 400 → (sums (1 + l0) rows ends (pluses (1 + l0)) 401)[k]? = some (V.int (cnt (1 + l0) rows ends (pluses (1 + l0)) k 0)) := fun k hk => by
      unfold sums
      rw [List.getElem?_map, List.getElem?_range (by omega)]
      rfl
    refine ⟨_, rfl, _, _, rfl, rfl, lq, _, _, _, rfl, rfl, .inl (.inl gq), moat, _, _, rfl, rfl, (mo + 1 : Nat), rfl, by omega, by omega, for_range (lo := 0) (n := mo + 1) (fun j σ G' => ∃ (k9 k10 : Option V), σ = [some (.ref a), some (.ref d), some (.int (0 + i)), some (.int (1 + l0 : Nat)), some (.ref p), some (.str (sS bs)), some (.str md.shown), some (.ref La), some (.ref Lb), k9, k10, k11, none] ∧ Same G8 G')
      ⟨_, _, rfl, Same.refl _⟩ ?_ ?_⟩
    · rintro j σ G' hj ⟨k9', k10', rfl, sG⟩
      rw [Int.zero_add (j : Int)]
      have M9 := M8.same sG
      refine ⟨_, rfl, _, rfl, 1 + l0, j, rfl, by omega, l4, by omega, fun Lt G9 t1 gt => ?_⟩
      refine ⟨Lt, rfl, ⟨_, .inl (.inl gt)⟩, fun L nL => lc_list (K := K) (a := Lt) (xs := tw (texts (1 + l0) j)) (fun q G2 => Same G9 G2 ∧ G2 L = some (.lst (tw (((texts (1 + l0) j).take q).filter (isOf rows ends))))) ⟨same_new nL _, by rw [upd_same]; rfl⟩ (fun q G2 _ h => .inl (.inl (h.1 _ _ gt))) ?_ ?_⟩
      · rintro qq x G2 hx ⟨s2', g2⟩
        obtain ⟨w', hw, rfl⟩ : ∃ w', (texts (1 + l0) j)[qq]? = some w' ∧ x = V.str (wS w') := by
          have hx' : ((texts (1 + l0) j).map fun u => V.str (wS u))[qq]? = some x := hx
          rw [List.getElem?_map] at hx'
          cases e : (texts (1 + l0) j)[qq]? with
          | none => rw [e] at hx'; cases hx'
          | some w' => rw [e] at hx'; exact ⟨w', rfl, (Option.some.inj hx').symm⟩
        obtain ⟨_, wl⟩ := texts_ok (1 + l0) j w' (List.mem_of_getElem? hw)
        refine ⟨rfl, _, rfl, _, rfl, p, 1 + l0, 1 + n0, rows, ends, w', rfl, (M9.same t1).same s2', WM, wl, fun G3 s3 => ⟨_, rfl, ite2 (fun c => ?_) (fun c => ?_)⟩⟩
        · have pl : (texts (1 + l0) j).length ≤ 65536 := by
            rw [texts_len]
            exact Nat.le_trans (Nat.pow_le_pow_left l4 j) (Nat.le_trans (Nat.pow_le_pow_right (by decide) (show j ≤ 8 by omega)) (by decide +kernel))
          refine ⟨_, rfl, _, s3 _ _ g2, ?_, same_grow nL (s2'.trans s3) _, ?_⟩
          · rw [tw_len]
            have a1 := List.length_filter_le (isOf rows ends) ((texts (1 + l0) j).take qq)
            rw [List.length_take] at a1
            show _ < 2 ^ 24
            omega
          · rw [upd_same, List.take_add_one, hw, List.filter_append, tw_app]
            show _ = some (HO.lst (tw (_ ++ List.filter (isOf rows ends) [w'])))
            rw [List.filter_cons_of_pos c]
            rfl
        · refine ⟨s2'.trans s3, ?_⟩
          rw [List.take_add_one, hw, List.filter_append]
          show _ = some (HO.lst (tw (_ ++ List.filter (isOf rows ends) [w'])))
          rw [List.filter_cons_of_neg c, List.filter_nil, List.append_nil]
          exact s3 _ _ g2
      · rintro G2 ⟨s2', g2⟩
        rw [tw_len, List.take_length] at g2
        have s10 := sG.trans (t1.trans s2')
        have M10 := M8.same s10
        obtain ⟨wsj, hwsj⟩ : ∃ wsj, wsj = (texts (1 + l0) j).filter (isOf rows ends) := ⟨_, rfl⟩
        have wsok : ∀ u ∈ wsj, u.length = j ∧ ∀ q ∈ u, q < 1 + l0 := fun u hu => by
          rw [hwsj] at hu
          exact texts_ok (1 + l0) j u (List.mem_filter.mp hu).1
        have wsl : wsj.length ≤ 65536 := by
          rw [hwsj]
          have a1 := List.length_filter_le (isOf rows ends) (texts (1 + l0) j)
          have pl : (texts (1 + l0) j).length ≤ 65536 := by
            rw [texts_len]
            exact Nat.le_trans (Nat.pow_le_pow_left l4 j) (Nat.le_trans (Nat.pow_le_pow_right (by decide) (show j ≤ 8 by omega)) (by decide +kernel))
          omega
        have e1 : (wsj.length : Int) = cnt (1 + l0) rows ends (pluses (1 + l0)) j 0 := by rw [hwsj]; exact cnt_len _ _ _ _
        have e2 : (wsj.map (sgn bs)).sum = cnt (1 + l0) rows ends bs j 0 := by rw [hwsj]; exact cnt_filter _ _ _ _ _
        rw [← hwsj] at g2
        clear hwsj
        refine ⟨_, rfl, L, _, rfl, .inl (.inl (.inl g2)), ?_⟩
        refine ⟨_, rfl, L, rfl, ⟨_, .inl (.inl g2)⟩, fun L2 nL2 => lc_list (K := K) (a := L) (xs := tw wsj) (fun q G3 => Same G2 G3 ∧ G3 L2 = some (.lst (((wsj.take q).map (sgn bs)).map V.int))) ⟨same_new nL2 _, by rw [upd_same]; rfl⟩ (fun q G3 _ h => .inl (.inl (h.1 _ _ g2))) ?_ ?_⟩
        · rintro qq x G3 hx ⟨s3, g3⟩
          obtain ⟨w', hw, rfl⟩ : ∃ w', wsj[qq]? = some w' ∧ x = V.str (wS w') := by
            have hx' : (wsj.map fun u => V.str (wS u))[qq]? = some x := hx
            rw [List.getElem?_map] at hx'
            cases e : wsj[qq]? with
            | none => rw [e] at hx'; cases hx'
            | some w' => rw [e] at hx'; exact ⟨w', rfl, (Option.some.inj hx').symm⟩
          obtain ⟨wj, wl⟩ := wsok w' (List.mem_of_getElem? hw)
          refine ⟨rfl, _, rfl, _, rfl, bs, w', rfl, by omega, fun q hq => by rw [hb]; exact wl q hq, by omega, fun G4' s4' => ?_⟩
          refine ⟨_, s4' _ _ g3, ?_, same_grow nL2 (s3.trans s4') _, ?_⟩
          · rw [List.length_map, List.length_map, List.length_take]
            show _ < 2 ^ 24
            omega
          · rw [upd_same, List.take_add_one, hw, List.map_append, List.map_append]
            rfl
        · rintro G3 ⟨s3, g3⟩
          rw [tw_len, List.take_length] at g3
          refine ⟨L2, _, rfl, .inl (.inl g3), by show 2 ≤ 2 ^ 24; decide, fun l1 n1 => ?_⟩
          rw [tw_len wsj]
          have s11 := s10.trans (s3.trans (same_new n1 (.lst [V.int (wsj.length : Nat), V.int (wsj.map (sgn bs)).sum])))
          have gl1 : upd G3 l1 (.lst [V.int (wsj.length : Nat), V.int (wsj.map (sgn bs)).sum]) l1 = some (.lst [V.int (wsj.length : Nat), V.int (wsj.map (sgn bs)).sum]) := upd_same
          generalize upd G3 l1 (.lst [V.int (wsj.length : Nat), V.int (wsj.map (sgn bs)).sum]) = G4' at s11 gl1
          refine ⟨_, rfl, _, rfl, Lb, _, _, _, rfl, rfl, .inl (.inl (s11 _ _ gb)), atI_nat (sb_at j (by omega)), ?_⟩
          refine ⟨_, rfl, _, rfl, La, _, _, _, rfl, rfl, .inl (.inl (s11 _ _ ga)), atI_nat (sa_at j (by omega)), ?_⟩
          refine ⟨by show 2 ≤ 2 ^ 24; decide, fun l2 n2 => ?_⟩
          have s12 := same_new n2 (.lst [V.int (cnt (1 + l0) rows ends (pluses (1 + l0)) j 0), V.int (cnt (1 + l0) rows ends bs j 0)])
          rw [e1, e2] at gl1
          obtain ⟨v1, v2⟩ := two_eqv (cnt (1 + l0) rows ends (pluses (1 + l0)) j 0) (cnt (1 + l0) rows ends bs j 0)
          refine ⟨_, _, .lst (.inl (.inl (s12 _ _ gl1))) (.cons (.int _) (.cons (.int _) .nil)), .lst (.inl (.inl upd_same)) (.cons (.int _) (.cons (.int _) .nil)), v2, v2, _, rfl, ?_⟩
          rw [v1]
          refine iteF ?_
          exact ⟨_, _, rfl, s11.trans s12⟩
    · rintro σ G9 ⟨k9', k10', rfl, sG⟩
      have D9 := D8.same sG
      have s10 := s9.trans (hd_same sG)
      replace ga := sG _ _ ga
      replace gb := sG _ _ gb
      refine ⟨_, rfl, d, c, 401, _, rfl, D9, by omega, by decide, by decide, fun r3 GA r30 r31 DA tA => ?_⟩
      refine ⟨_, rfl, d, c, 401, _, rfl, DA, by omega, by decide, by decide, fun r4 GB r40 r41 DB tB => ?_⟩
      obtain ⟨q3, rfl⟩ : ∃ q3 : Nat, r3 = (q3 : Int) := ⟨r3.toNat, by omega⟩
      obtain ⟨q4, rfl⟩ : ∃ q4 : Nat, r4 = (q4 : Int) := ⟨r4.toNat, by omega⟩
      have xa := tB _ _ (tA _ _ (far_deck D9 ga (sums_len _ _ _ _ _)))
      have xb := tB _ _ (tA _ _ (far_deck D9 gb (sums_len _ _ _ _ _)))
      have s12 := s10.trans (tA.trans tB)
      refine ⟨by show 10 ≤ 2 ^ 24; decide, fun lz nlz => ?_⟩
      have tz := hd_new (d := d) (c := c) nlz (.lst [V.int 0, V.int 1, V.int 2, V.int 3, V.int 4, V.int 5, V.int 6, V.int 400, V.int (q3 : Int), V.int (q4 : Int)])
      have gz : upd GB lz (.lst [V.int 0, V.int 1, V.int 2, V.int 3, V.int 4, V.int 5, V.int 6, V.int 400, V.int (q3 : Int), V.int (q4 : Int)]) lz = some (.lst [V.int 0, V.int 1, V.int 2, V.int 3, V.int 4, V.int 5, V.int 6, V.int 400, V.int (q3 : Int), V.int (q4 : Int)]) := upd_same
      have alz : ∀ x ∈ ([V.int 0, V.int 1, V.int 2, V.int 3, V.int 4, V.int 5, V.int 6, V.int 400, V.int (q3 : Int), V.int (q4 : Int)] : List V), ∃ k : Nat, x = .int (k : Int) ∧ k ≤ 400 := by
        simp only [List.forall_mem_cons]
        exact ⟨⟨0, rfl, by decide⟩, ⟨1, rfl, by decide⟩, ⟨2, rfl, by decide⟩, ⟨3, rfl, by decide⟩, ⟨4, rfl, by decide⟩, ⟨5, rfl, by decide⟩, ⟨6, rfl, by decide⟩, ⟨400, rfl, by decide⟩, ⟨q3, rfl, by omega⟩, ⟨q4, rfl, by omega⟩, fun _ h => nomatch h⟩
      have DZ := DB.new nlz (.lst [V.int 0, V.int 1, V.int 2, V.int 3, V.int 4, V.int 5, V.int 6, V.int 400, V.int (q3 : Int), V.int (q4 : Int)])
      replace xa := hd_sub _ _ (tz _ _ xa)
      replace xb := hd_sub _ _ (tz _ _ xb)
      have s13 := s12.trans tz
      generalize upd GB lz (.lst [V.int 0, V.int 1, V.int 2, V.int 3, V.int 4, V.int 5, V.int 6, V.int 400, V.int (q3 : Int), V.int (q4 : Int)]) = GZ at gz DZ xa xb s13
      generalize [V.int 0, V.int 1, V.int 2, V.int 3, V.int 4, V.int 5, V.int 6, V.int 400, V.int (q3 : Int), V.int (q4 : Int)] = xz at gz alz
      have MZ : MachAt GZ p (1 + l0) rows ends := (M.same s13).same hd_sub
      have TZ : LamX.Tabs (S25.TbS tt) GZ := GXN.tabsHd DG TG (s1.trans (s2.trans (s3.trans s13)))
      refine ⟨lz, rfl, ⟨_, .inl (.inl gz)⟩, for_list (K := K) (a := lz) (xs := xz) (fun j σ G' => ∃ (k9 : Option V), σ = [some (.ref a), some (.ref d), some (.int (0 + i)), some (.int (1 + l0 : Nat)), some (.ref p), some (.str (sS bs)), some (.str md.shown), some (.ref La), some (.ref Lb), k9, k10', k11, none] ∧ LamX.ExtN GZ G' ∧ LamX.Tabs (S25.TbS tt) G')
        ⟨_, rfl, LamX.ExtN.refl _, TZ⟩ (fun j σ G' _ h => let ⟨_, _, s, _⟩ := h; .inl (.inl (s _ _ gz (fun _ z => nomatch z)))) ?_ ?_⟩
      · rintro j x σ G' hx ⟨k9, rfl, sZ, tZ⟩
        obtain ⟨k, rfl, k4⟩ := alz x (List.mem_of_getElem? hx)
        refine ⟨_, rfl, _, rfl, p, 1 + l0, 1 + n0, k, rows, ends, rfl, GXN.machN MZ sZ, WM, by omega, tZ, fun H1 t1 tb1 => ?_⟩
        refine ⟨_, rfl, _, rfl, _, rfl, p, 1 + l0, 1 + n0, k, rows, ends, bs, rfl, GXN.machN (GXN.machN MZ sZ) t1, WM, hb, by omega, tb1, fun H2 t2 tb2 => ?_⟩
        refine ⟨by show 2 ≤ 2 ^ 24; decide, fun l1 n1 => ?_⟩
        have c1 := cnt_small (ends := ends) (bs := pluses (1 + l0)) WM k4 0
        have c2 := cnt_small (ends := ends) (bs := bs) WM k4 0
        obtain ⟨f1, f2, f3⟩ := two_fit (K := K) (.lst (upd_same (H := H2) (a := l1) (o := .lst [V.int (cnt (1 + l0) rows ends (pluses (1 + l0)) k 0), V.int (cnt (1 + l0) rows ends bs k 0)])) (.cons (.int _) (.cons (.int _) .nil))) c1 c2
        have t3 := same_new n1 (.lst [V.int (cnt (1 + l0) rows ends (pluses (1 + l0)) k 0), V.int (cnt (1 + l0) rows ends bs k 0)])
        have tT := (sZ.trans (t1.trans t2)).trans (LamX.ExtN.of t3)
        have tb3 := tb2.ext t3
        refine ⟨_, .list [.int (cnt (1 + l0) rows ends (pluses (1 + l0)) k 0), .int (cnt (1 + l0) rows ends bs k 0)], rfl, .lst upd_same (.cons (.int _) (.cons (.int _) .nil)), f1, f2, f3, ?_⟩
        generalize upd H2 l1 (.lst [V.int (cnt (1 + l0) rows ends (pluses (1 + l0)) k 0), V.int (cnt (1 + l0) rows ends bs k 0)]) = H3 at tT tb3
        refine ⟨_, rfl, _, rfl, Lb, _, _, _, rfl, rfl, .inl (.inl (tT _ _ xb (fun _ z => nomatch z))), atI_nat (sb_at k k4), ?_⟩
        refine ⟨_, rfl, _, rfl, La, _, _, _, rfl, rfl, .inl (.inl (tT _ _ xa (fun _ z => nomatch z))), atI_nat (sa_at k k4), ?_⟩
        refine ⟨by show 2 ≤ 2 ^ 24; decide, fun l2 n2 => ?_⟩
        have t4 := same_new n2 (.lst [V.int (cnt (1 + l0) rows ends (pluses (1 + l0)) k 0), V.int (cnt (1 + l0) rows ends bs k 0)])
        refine ⟨_, .list [.int (cnt (1 + l0) rows ends (pluses (1 + l0)) k 0), .int (cnt (1 + l0) rows ends bs k 0)], rfl, .lst upd_same (.cons (.int _) (.cons (.int _) .nil)), f1, f2, f3, rfl, _, rfl, iteNS rfl ?_⟩
        exact ⟨_, rfl, tT.trans (LamX.ExtN.of t4), tb3.ext t4⟩
      · rintro σ G' ⟨k9, rfl, sZ, tZ⟩
        obtain ⟨n1, m2, m3, m4⟩ := shm GZ s13
        have m1 := GXN.dtN sZ n1
        refine ⟨_, rfl, _, md, rfl, m1, m2, m3, m4, _, rfl, rfl, _, rfl, iteNS rfl ?_⟩
        exact ⟨_, _, _, _, _, _, _, _, _, _, rfl, (GXN.deckN DZ sZ).mono (by omega), tZ⟩
  · rintro σ G ⟨k2, k3, k4, k5, k6, k7, k8, k9, k10, k11, rfl, DG, TG⟩
    refine ⟨_, rfl, _, rfl, d, c, 301, _, rfl, DG, by omega, by decide, by decide, fun r2 G2 r20 r21 D2 s2 => ⟨_, _, rfl, rfl, ?_⟩⟩
    obtain ⟨n0, rfl⟩ : ∃ n0 : Nat, r2 = (n0 : Int) := ⟨r2.toNat, by omega⟩
    refine ⟨d, c, 2, 100 + n0, _, rfl, D2, by omega, by decide, by decide, by omega, by omega, fun p md G3 im dm D3 s3 => ?_⟩
    obtain ⟨rows, ends, M, WM⟩ := mach_of im dm (by decide) (by decide) (show 1 ≤ 100 + n0 by omega) (by omega)
    refine ⟨_, rfl, d, c, 60, _, rfl, D3, by omega, by decide, by decide, fun r3 G4 r30 r31 D4 s4 => ?_⟩
    obtain ⟨k, rfl⟩ : ∃ k : Nat, r3 = (k : Int) := ⟨r3.toNat, by omega⟩
    have k4 : k ≤ 400 := by omega
    have M4 : MachAt G4 p 2 rows ends := (M.same s4).same hd_sub
    have at_ : ∀ bs : List Bool, (sums 2 rows ends bs (k + 1))[k]? = some (V.int (cnt 2 rows ends bs k 0)) := fun bs => by
      unfold sums
      rw [List.getElem?_map, List.getElem?_range (by omega)]
      rfl
    have e1 : V.str "++" = V.str (sS (pluses 2)) := by decide +kernel
    have e2 : V.str "+-" = V.str (sS [false, true]) := by decide +kernel
    have one : ∀ bs : List Bool, (PyData.int (cnt 2 rows ends bs k 0)).showable = true ∧ (PyData.int (cnt 2 rows ends bs k 0)).depth ≤ 60 ∧ (PyData.int (cnt 2 rows ends bs k 0)).shown.length ≤ sizeLine := fun bs => by
      obtain ⟨f1, f2, f3⟩ := fitI (cnt_small (ends := ends) (bs := bs) WM k4 0)
      exact ⟨f1, f2, Nat.le_trans f3 (by decide)⟩
    obtain ⟨f1, f2, f3⟩ := one (pluses 2)
    obtain ⟨g1, g2, g3⟩ := one [false, true]
    have T4 : LamX.Tabs (S25.TbS tt) G4 := GXN.tabsHd DG TG (s2.trans (s3.trans s4))
    refine ⟨_, rfl, _, rfl, p, 2, 100 + n0, k, rows, ends, rfl, M4, WM, by omega, T4, fun H1 t1 tb1 => ?_⟩
    refine ⟨_, .int (cnt 2 rows ends (pluses 2) k 0), rfl, .int _, f1, f2, f3, ?_⟩
    refine ⟨_, rfl, _, rfl, p, 2, 100 + n0, k, rows, ends, pluses 2, by rw [e1]; rfl, GXN.machN M4 t1, WM, rfl, k4, fun La H2 t2 ga => ?_⟩
    refine ⟨_, rfl, La, _, _, _, rfl, rfl, .inl (.inl ga), atI_nat (at_ _), ?_⟩
    refine ⟨_, .int (cnt 2 rows ends (pluses 2) k 0), rfl, .int _, f1, f2, f3, rfl, _, rfl, iteNS rfl ?_⟩
    refine ⟨_, rfl, _, rfl, p, 2, 100 + n0, k, rows, ends, [false, true], by rw [e2]; rfl, (GXN.machN M4 t1).same t2, WM, rfl, by omega, tb1.ext t2, fun H3 t3 tb3 => ?_⟩
    refine ⟨_, .int (cnt 2 rows ends [false, true] k 0), rfl, .int _, g1, g2, g3, ?_⟩
    refine ⟨_, rfl, _, rfl, p, 2, 100 + n0, k, rows, ends, [false, true], by rw [e2]; rfl, GXN.machN ((GXN.machN M4 t1).same t2) t3, WM, rfl, k4, fun Lb H4 t4 gb => ?_⟩
    refine ⟨_, rfl, Lb, _, _, _, rfl, rfl, .inl (.inl gb), atI_nat (at_ _), ?_⟩
    refine ⟨_, .int (cnt 2 rows ends [false, true] k 0), rfl, .int _, g1, g2, g3, rfl, ?_⟩
    show Q (.bl (decide (V.str (PyData.int (cnt 2 rows ends [false, true] k 0)).shown = V.str (PyData.int (cnt 2 rows ends [false, true] k 0)).shown))) _
    rw [decide_eq_true rfl]
    exact q _
end
end K25
namespace GZq
open PySem L2
theorem seq_i {t u : TS} {D : Ends} {σ : L2.St} {H : Hp} (h : t { D with nx := u D } σ H) : tSeq t u D σ H := h
end GZq
/-! sorted of tuples of ints by a lambda: first the length, then the tuple. No row. -/
namespace GSL
open PySem PySem.Spec PyProof.Rows L2
def lamArgs (p : Pos) : Arguments := { posonlyargs := [], args := [{ arg := "chosen", annotation := none, pos := p }], vararg := none, kwonlyargs := [], kw_defaults := [], kwarg := none, defaults := [] }
def lamScope : Scope := { kind := .function, names := [("chosen", .local), ("len", .globalImplicit)], isGenerator := false, isCoroutine := false }
def lamBody (p1 p2 p3 p4 p5 : Pos) (k : Nat) : Expr := .Tuple [.Call (.Name "len" p1) [.Name "chosen" p2] [] p3, .Name "chosen" p4] k p5
def keyD (ch : List Int) : PyData := .tuple [.int ch.length, .tuple (ch.map .int)]
theorem bind_lam {p0 p1 p2 p3 p4 p5 : Pos} {k : Nat} {q : Str} {cl : List (Str × Addr)} {pm cv ctv : Value} (u : Value) :
    bindArgs (W.kla_fn "<lambda>" q (lamArgs p0) (lamBody p1 p2 p3 p4 p5 k) lamScope cl pm cv ctv) { pos := [u] } = pure [(("chosen" : Str), u)] := rfl
theorem rd2 (h : Heap) {i i' : Int} {t : Tok} {u : Value} {d : PyData} (e : i' = i) (r : Reads (h.push { cls := Value.type "tuple", data := Data.seq [Value.int i' t, u].toArray }) u d []) :
    Reads (h.push { cls := Value.type "tuple", data := Data.seq [Value.int i' t, u].toArray }) (.ref h.objs.size) (.tuple [.int i, d]) [] := by
  have g := Heap.get?_push_size h (o := { cls := Value.type "tuple", data := Data.seq [Value.int i' t, u].toArray }) rfl
  subst e
  exact Reads.tuple (as := [] ++ ([] ++ [])) g rfl rfl (.cons (.int _ _) (.cons r .nil))
theorem key_call {prog : Program} {w : World} {A : Around} {s : Shared} {p0 p1 p2 p3 p4 p5 : Pos} {k : Nat} {q : Str} {cl : List (Str × Addr)} {pm ctv : Value} {f c' p : Addr} {items : Array Value} {ch : List Int} {mg mb : Str → Option Value}
    (hf : s.heap.get? f = some (W.kla_obj "<lambda>" q (lamArgs p0) (lamBody p1 p2 p3 p4 p5 k) lamScope cl pm c' ctv)) (hc : s.heap.CodeRec (.ref c') q) (hd : A.depth < recursionLimit)
    (nl : s.heap.NoLimit) (hg : s.heap.Ns mainGlobals mg) (ml : mg "len" = none) (hb : s.heap.Ns builtinsNs mb) (mbl : mb "len" = some (.builtin "len"))
    (ht : IsTup s.heap p items) (hs : items.size < 2 ^ 63) (hl : items.size = ch.length) (hr : ∀ h, ReadsAll h items.toList (ch.map .int) []) :
    wpAny (model prog w) A (call (.ref f) [.ref p]) (W.KeyPure (keyD ch) s) (fun _ _ => False) s := by
  apply wpAny_call
  refine W.kla_callFunE (o := W.kla_obj "<lambda>" q (lamArgs p0) (lamBody p1 p2 p3 p4 p5 k) lamScope cl pm c' ctv) hd hf rfl rfl rfl rfl hc ?_
  rw [bind_lam]
  refine wpAny_pure ?_
  refine wpAny_newFunctionEnv (scope := lamScope) (by decide) (fun x hx => by rw [List.mem_singleton.mp hx]; rfl) (fun h' hns hsb => ?_) rfl
  have keep : ∀ (b : Addr) (o : Obj), s.heap.get? b = some o → h'.get? b = some o := fun b o e => by
    have lt : b < s.heap.objs.size := Heap.lt_size e
    rw [hsb.2 b (Nat.ne_of_lt lt)]
    exact Heap.get?_push_of_some _ e
  refine ⟨nl.keeps keep, W.kla_codeExpr ?_⟩
  refine wpAny_Tuple ?_
  refine Calls.spliced_cons ?_
  refine Call_Name1 ?_
  refine Calls.Name_function_global rfl rfl (Calls.loadGlobal_builtin (mg := mg) (mb := mb) ?_ ml ?_ mbl ?_)
  · exact hg.keeps keep
  · exact hb.keeps keep
  refine Calls.callWith_builtin rfl ?_
  refine Calls.evalArgs_plain ?_
  refine Calls.spliced_cons ?_
  have ldc : ∀ {A : Around} {E : Value → Shared → Prop} {s' : Shared} {Q : Value → Shared → Prop} {pos : Pos}, s'.heap = h' → Q (.ref p) s' → wpAny (model prog w) A (eval (.Name "chosen" pos) (newEnv lamScope s.heap.objs.size mainGlobals cl (q ++ Str.ofString ".<locals>.") (some f) (.ref c') none builtinsNs)) Q E s' := fun {A E s' Q pos} e hq => by
    refine wpAny_Name (wpAny_loadName_local rfl rfl (m := fun x => List.lookup x [(("chosen" : Str), Value.ref p)].reverse) (by rw [e]; exact hns) rfl hq)
  refine ldc rfl ?_
  refine Calls.spliced_nil ?_
  have ht' : IsTup h' p items := let ⟨o, a, b⟩ := ht; ⟨o, keep _ _ a, b⟩
  refine len_tuple ht' (by exact_mod_cast hs) ?_
  refine Calls.spliced_cons ?_
  refine ldc rfl ?_
  refine Calls.spliced_nil ?_
  refine ⟨by show 2 ≤ sizeLine; decide, ?_⟩
  refine ⟨_, _, rfl, fun b o e => Heap.get?_push_of_some _ (keep b o e), ?_⟩
  obtain ⟨o, h1, h2, n, h3⟩ := ht'
  refine rd2 h' (i := (ch.length : Int)) (by rw [hl]) (.tuple (Heap.get?_push_of_some _ h1) h2 h3 (hr _))
/-- tuples of whole numbers at these addresses -/
def TupsAt (H : Hp) (us : List Addr) (bs : List (List Int)) : Prop := W.EachIs (fun p ch => H p = some (.tup (ch.map V.int))) us bs
/-- as sorted by this key -/
def chs (bs : List (List Int)) : List (List Int) := bs.mergeSort (W.dataLe false keyD)
theorem keyToks_ints : ∀ ch : List Int, W.keyToksAll (ch.map .int) = (ch.flatMap fun i => [Sum.inl 1, Sum.inl i]) ++ [Sum.inl 0]
  | [] => rfl
  | i :: ch => by
    rw [List.map_cons, W.keyToksAll, keyToks_ints ch, W.keyToks]
    rfl
theorem vals_ints {ch : List Int} {its : List Value} (h : Vals (ch.map V.int) its) : its.length = ch.length ∧ ∀ g, ReadsAll g its (ch.map .int) [] := by
  induction ch generalizing its with
  | nil =>
    cases its with
    | nil => exact ⟨rfl, fun g => .nil⟩
    | cons a b => cases h
  | cons i ch ih =>
    cases its with
    | nil => cases h
    | cons a b =>
      rw [List.map_cons] at h
      cases h with
      | cons h1 h2 =>
        obtain ⟨e, r⟩ := ih h2
        obtain ⟨t, rfl⟩ := h1
        exact ⟨by rw [List.length_cons, List.length_cons, e], fun g => .cons (as := []) (bs := []) (.int _ _) (r g)⟩
theorem each_mem {α β : Type} {R : α → β → Prop} {as : List α} {bs : List β} (h : W.EachIs R as bs) {b : β} (hb : b ∈ bs) : ∃ a, R a b := by
  induction h with
  | nil => cases hb
  | cons h1 _ ih =>
    rcases List.mem_cons.mp hb with rfl | hb
    · exact ⟨_, h1⟩
    · exact ih hb
theorem alike_ints : ∀ a b : List Int, W.alikeAll (a.map .int) (b.map .int) = true
  | [], b => by rw [List.map_nil, W.alikeAll]
  | i :: a, [] => rfl
  | i :: a, j :: b => by
    rw [List.map_cons, List.map_cons, W.alikeAll, W.alike, alike_ints a b]
    rfl
theorem alike_key (a b : List Int) : W.alike (keyD a) (keyD b) = true := by
  unfold keyD
  rw [W.alike, W.alikeAll, W.alikeAll, W.alike, W.alike, alike_ints]
  rfl
theorem depth_key (a : List Int) : (keyD a).depth ≤ 2 := by
  unfold keyD
  simp [PyData.depth, PyData.depthAll, W.depth_ints]
theorem each_of {R S : Value → List Int → Prop} {vs : List Value} {bs : List (List Int)} (h : W.EachIs R vs bs) (k : ∀ v b, R v b → S v b) : W.EachIs S vs bs := by
  induction h with
  | nil => exact .nil
  | cons h1 _ ih => exact .cons (k _ _ h1) ih
theorem each_refs {H : Hp} {us : List Addr} {bs : List (List Int)} (h : TupsAt H us bs) : W.EachIs (fun u ch => ∃ p, u = Value.ref p ∧ H p = some (.tup (ch.map V.int))) (us.map Value.ref) bs := by
  unfold TupsAt at h
  induction h with
  | nil => exact .nil
  | cons h1 _ ih => exact .cons ⟨_, rfl, h1⟩ ih
theorem each_back {H : Hp} {out : List Value} {bs : List (List Int)} (h : W.EachIs (fun u ch => ∃ p, u = Value.ref p ∧ H p = some (.tup (ch.map V.int))) out bs) : ∃ us : List Addr, out = us.map Value.ref ∧ TupsAt H us bs := by
  induction h with
  | nil => exact ⟨[], rfl, .nil⟩
  | cons h1 _ ih =>
    obtain ⟨p, rfl, hp⟩ := h1
    obtain ⟨us, rfl, t⟩ := ih
    exact ⟨p :: us, rfl, .cons hp t⟩
theorem TupsAt.len {H : Hp} {us : List Addr} {bs : List (List Int)} (h : TupsAt H us bs) : us.length = bs.length := by
  unfold TupsAt at h
  induction h with
  | nil => rfl
  | cons _ _ ih => rw [List.length_cons, List.length_cons, ih]
theorem TupsAt.mono {H H' : Hp} {us : List Addr} {bs : List (List Int)} (h : TupsAt H us bs) (k : ∀ p ch, H p = some (.tup (List.map V.int ch)) → H' p = some (.tup (List.map V.int ch))) : TupsAt H' us bs := by
  unfold TupsAt at *
  induction h with
  | nil => exact .nil
  | cons h1 _ ih => exact .cons (k _ _ h1) ih
theorem vals_refs {us : List Addr} {its : List Value} (h : Vals (us.map V.ref) its) : its = us.map Value.ref := by
  induction us generalizing its with
  | nil =>
    cases its with
    | nil => rfl
    | cons a b => cases h
  | cons p us ih =>
    cases its with
    | nil => cases h
    | cons a b =>
      rw [List.map_cons] at h
      cases h with
      | cons h1 h2 => rw [ih h2, show a = .ref p from h1]; rfl
theorem refs_vals : ∀ us : List Addr, Vals (us.map V.ref) (us.map Value.ref)
  | [] => .nil
  | p :: us => .cons (show RelV (.ref p) (.ref p) from rfl) (refs_vals us)
def tSortL (T : List (Addr × Str)) (t : TE) : TE := fun σ H Q => t σ H fun v H1 => ∃ (a : Addr) (us : List Addr) (bs : List (List Int)), v = .ref a ∧ H1 a = some (.lst (us.map V.ref)) ∧ TupsAt H1 us bs ∧ LamX.Tabs T H1 ∧
  ∀ H2 L us', LamX.ExtN H1 H2 → LamX.Tabs T H2 → H2 L = none → TupsAt H2 us' (chs bs) → us'.length = us.length → Q (.ref L) (upd H2 L (.lst (us'.map V.ref)))
theorem pe_sortL {X : Cx} {T : List (Addr × Str)} {c P : Addr} {e : Expr} {t : TE} {p pos p0 p1 p2 p3 p4 p5 lp kp : Pos} {k : Nat} (calm : X.calm = true) (gs : Gl X "sorted") (ms : X.mg "sorted" = none) (ml : X.mg "len" = none)
    (tb : LamX.TabB X.base X.mg c P) (hc : X.env.code = .ref c) (hin : (P, X.env.qual ++ Str.ofString "<lambda>") ∈ T) (only : ∀ q ∈ T, q.1 = P → q.2 = X.env.qual ++ Str.ofString "<lambda>")
    (un : X.A.units + 20 < cLine) (dp : X.A.depth < recursionLimit) (he : PE X e t) (hst : backTo pos (starEach [e] X.env) = [(false, eval e X.env)]) :
    PE X (.Call (.Name "sorted" p) [e] [{ arg := some "key", value := .Lambda (lamArgs p0) (lamBody p1 p2 p3 p4 p5 k) lamScope lp, pos := kp }] pos) (tSortL T t) := by
  constructor
  intro pins s σ H Q I h
  refine wpAny_Call_Name_kw (ld_blt I gs ms rfl ?_)
  refine callWith_builtin_kwB (by rw [hst]; rfl) rfl ?_
  rw [hst]
  refine evalArgs_kwB rfl ?_
  refine Calls.spliced_cons ?_
  refine wpAny_mono (he.run pins s σ H _ I h) ?_ (fun _ _ h => h)
  rintro v s1 ⟨v', H1, I1, rv, a, us, bs, rfl, ha, tu, tt, q⟩
  cases rv
  refine Calls.spliced_nil ?_
  refine wpAny_evalAll_cons (x := eval (.Lambda (lamArgs p0) (lamBody p1 p2 p3 p4 p5 k) lamScope lp) X.env >>= fun v => standAt pos >>= fun _ => pure v) (rest := []) ?_
  refine wpAny_bind ?_
  refine LamX.lam_make2 (params := lamArgs p0) (body := lamBody p1 p2 p3 p4 p5 k) (scope := lamScope) (pos := lp) I1 tb hc hin only tt (by rfl) (fun y hy e => ?_) ?_
  · rcases List.mem_cons.mp hy with rfl | hy
    · cases e
    · rw [List.mem_singleton.mp hy] at e
      cases e
  intro f c' pm ctv H2 s2 I2 ext tabs hf nf nfr hco
  refine wpAny_bind (wpAny_standAt (wpAny_pure ?_))
  refine wpAny_evalAll_nil ?_
  have ha2 := ext _ _ ha (fun ps z => nomatch z)
  have tu2 : TupsAt H2 us bs := tu.mono fun p ch z => ext _ _ z (fun ps z => nomatch z)
  obtain ⟨its, n, va, gl, ll⟩ := I2.lst ha2
  have ei := vals_refs va
  subst ei
  have lb : us.length = bs.length := tu.len
  rw [List.length_map] at ll
  have hd := I2.ok.hd calm
  have mods := I2.ok.mod
  obtain ⟨mb, hmb, mbe⟩ := mods.blt
  have cr : s2.heap.CodeRec (.ref c') (X.env.qual ++ Str.ofString "<lambda>") := NdefX.codeO_at I2.hok hco
  refine W.sorted_key_data (vs := us.map Value.ref) (bs := bs) (R := fun u ch => ∃ p, u = Value.ref p ∧ H2 p = some (.tup (ch.map V.int))) (b := false) keyD
    ?_ (each_refs tu2) (W.AllAlike.of alike_key) (.inl fun d hd => ?_) (by omega) (fun x _ => ?_) rfl (fun _ => rfl) (fun x => ksk_t1 f x) ?_ ?_
  · exact ⟨_, gl, rfl, n, rfl⟩
  · obtain ⟨ch, _, rfl⟩ := List.mem_map.mp hd
    exact ⟨_, _, rfl⟩
  · have := depth_key x
    omega
  · rintro v x ⟨p, rfl, hp⟩ hx h tk keep
    obtain ⟨its, vi, it, il⟩ := I2.tuple (.inl (.inl hp))
    obtain ⟨e1, e2⟩ := vals_ints vi
    rw [List.length_map] at il
    refine key_call (mg := X.mg) (mb := mb) (keep _ _ hf) (cr.keeps keep) dp (I2.nolimit.keeps keep) (mods.glob.keeps fun b o z => keep b o (I2.bk b o z)) ml (hmb.keeps fun b o z => keep b o (I2.bk b o z)) ((mbe _ (by decide)).trans rfl)
      (items := its.toArray) ?_ ?_ ?_ ?_
    · obtain ⟨o, a1, a2⟩ := it
      exact ⟨o, keep _ _ a1, a2⟩
    · have : sizeLine = 2 ^ 24 := rfl
      show its.toArray.size < _
      rw [List.size_toArray, e1]
      omega
    · rw [List.size_toArray, e1]
    · exact e2
  · intro out cc h' tk keep nn gL ol ex
    obtain ⟨us', rfl, tu'⟩ := each_back ex
    have hL : H2 (s2.heap.objs.size + 1) = none := I2.hok.fresh (by omega)
    have le : us'.length = us.length := by rw [List.length_map] at ol; omega
    refine ⟨.ref (s2.heap.objs.size + 1), _, Inv.take I2 (fun b ob _ z => keep b ob z) (I2.fpOk (by omega) hL) ?_, rfl, q H2 _ us' ext tabs hL tu' le⟩
    exact ⟨by rw [List.length_map]; omega, us'.map Value.ref, cc, refs_vals us', gL⟩
end GSL
/-! The end of a law in which a lambda is made: one table of a code object is tracked, and no guard of repr stands. -/
namespace GL
open PySem PySem.Spec PyProof.Rows L2 PySem.W
/-- the table t, the script's list perhaps, and nothing else -/
structure OnT (K : PySem.W.Frag) (a t : Addr) (H : Hp) : Prop where
  tb : H t = some (.tbl #[])
  rest : ∀ b, b ≠ t → H b = none ∨ (b = a ∧ K.lookup a = none ∧ ∃ o xs, H b = some (.frz o (.lst xs)))
section
variable {P : Program} {w : World} {K : PySem.W.Frag} {mg mb : Str → Option Value} {k : Nat} {fa a c t : Addr} {fd : FuncData} {x : Str} {sp : Sp} {s₁ : Shared} {vs : List Value} {ns : List Int}
theorem law_coreT (KI : K.In s₁.heap) (g1 : s₁.heap.Ns mainGlobals mg) (g2 : s₁.heap.Ns builtinsNs mb) (g3 : ∀ y : Str, y ≠ "__name__" → mb y = bootBuiltins y) (nl : s₁.heap.NoLimit) (hg : s₁.gens = #[])
    (hT : s₁.heap.get? t = some (tabObj #[])) (nT : K.lookup t = none) (C : CodeHd s₁.heap c t)
    (hbm : ∃ (bm : Addr) (ob : Obj), mg "__builtins__" = some (.ref bm) ∧ bm ≠ builtinsNs ∧ s₁.heap.get? bm = some ob ∧ ob.cls = .type "module" ∧ ob.dict = some builtinsNs ∧ ob.data = .plain)
    (ha : s₁.heap.get? a = some { cls := .type "list", data := .seq vs.toArray }) (hr : Room k callerA)
    (F : ∀ base : Heap, K.In base → base.Ns mainGlobals mg → LamX.TabB base mg c t → Fg P w K mg base CX0 k fa fd [x] sp) (bd : ∀ (s : Shared) (u : Value), BindsTo s fd ⟨[u], []⟩ [(x, u)])
    (H : Hp) (on : OnT K a t H) (hq : sp [.ref a] H (fun v _ => v = .bl true) fun _ _ _ => False) (ok : HOk P w H s₁.heap) :
    codeAny (model P w) callerA (.call (.ref fa) ⟨[.ref a], []⟩) (fun r s' => r = .ok (.ret (.bool true)) ∧ OldK s₁.heap s'.heap ∧ s'.os = s₁.os ∧ AllBare s'.gens) s₁ := by
  -- what is neither a sequence nor an empty table is not tracked
  have free : ∀ {b : Addr} {o : Obj}, s₁.heap.get? b = some o → (∀ vs n, o.data ≠ .seq vs n) → o.data ≠ .fields #[] → H b = none := fun {b o} e n1 n2 => by
    by_cases z : b = t
    · rw [z, hT] at e
      cases e
      exact absurd rfl n2
    · rcases on.rest b z with r | ⟨r, _⟩
      · exact r
      · rw [r, ha] at e
        cases e
        exact absurd rfl (n1 _ _)
  have seen : ∀ {b : Addr} {o : Obj}, s₁.heap.get? b = some o → H b = none → (hidT s₁.heap H).get? b = some o := fun e n => hidT_get e n
  have names : ∀ {b : Addr} {m : Str → Option Value}, s₁.heap.Ns b m → (hidT s₁.heap H).Ns b m := fun {b m} q => by
    obtain ⟨o, es, ep, e, d, r⟩ := q
    exact ⟨o, es, ep, seen e (free e (fun vs n z => by rw [d] at z; cases z) (fun z => by rw [d] at z; cases z)), d, r⟩
  have KB : K.In (hidT s₁.heap H) := fun b o e => seen (KI b o e) (by
    by_cases z : b = t
    · rw [z, nT] at e; cases e
    · rcases on.rest b z with r | ⟨r, r2, _⟩
      · exact r
      · rw [r, r2] at e; cases e)
  have md : Mod K mg (hidT s₁.heap H) := ⟨KB, names g1, ⟨mb, names g2, g3⟩, let ⟨mc, c1, c2⟩ := nl; ⟨mc, names c1, c2⟩⟩
  have tb : LamX.TabB (hidT s₁.heap H) mg c t := by
    refine ⟨?_, ?_, fun z => ?_⟩
    · obtain ⟨o, us, f1, f2, f3, f4, f5, f6, f7, e1, r1, r2, r3, r4⟩ := C
      refine ⟨o, us, f1, f2, f3, f4, f5, f6, f7, seen e1 (free e1 (fun vs n z => by rw [r2] at z; cases z) (fun z => ?_)), r1, r2, r3, r4⟩
      rw [r2] at z
      cases z
      simp at r3
    · obtain ⟨bm, ob, b1, b2, b3, b4, b5, b6⟩ := hbm
      refine ⟨bm, ob, b1, b2, fun z => ?_, fun z => ?_, seen b3 (free b3 (fun vs n z => by rw [b6] at z; cases z) (fun z => by rw [b6] at z; cases z)), b4, b5, b6⟩
      · obtain ⟨o, es, ep, e, d, _⟩ := g1
        rw [z, e] at b3
        cases b3
        rw [d] at b6
        cases b6
      · rw [z, hT] at b3
        cases b3
        cases b6
    · obtain ⟨o, es, ep, e, d, _⟩ := g1
      rw [z, hT] at e
      cases e
      cases d
  have ev : Env0 P w K mg (hidT s₁.heap H) callerA [] s₁ H := ⟨rfl, md, fun _ _ e => of_hidT e, Nat.le_of_eq (hidT_size _ _), trivial, fun b z => absurd z nil_no, ok, .of_eq hg⟩
  refine codeAny_mono ((F _ KB (names g1) tb).go callerA [] s₁ H ⟨[.ref a], []⟩ [.ref a] [.ref a] _ _ rfl hr ev (bd s₁ (.ref a)) (.cons rfl .nil) hq) fun r s' h => ?_
  match r, h with
  | .error e, h => exact h.elim
  | .ok .next, h => exact h.elim
  | .ok .brk, h => exact h.elim
  | .ok .cont, h => exact h.elim
  | .ok (.ret u), ⟨v, G, os, br, un, okG, rv, q⟩ =>
    cases (show v = .bl true from q)
    cases (show u = Value.bool true from rv)
    obtain ⟨more, hm⟩ := un.tbls t #[] on.tb
    have hm' : s'.heap.get? t = some { cls := .none, data := .fields (#[] ++ more) } := okG t _ hm
    have other : ∀ b o, b ≠ t → s₁.heap.get? b = some o → s'.heap.get? b = some o := fun b o z e => by
      rcases on.rest b z with z | ⟨_, _, ob, xs, z⟩
      · exact un.keep b o e z nil_no nil_no
      · have e1 := (ok b _ z).1
        have e2 := (okG b _ (un.frzs b ob _ z)).1
        rw [e] at e1
        cases e1
        exact e2
    refine ⟨rfl, ⟨fun b o e => ?_, fun b o e => ?_⟩, os, br⟩
    · by_cases z : b = t
      · subst z
        rw [hT] at e
        cases e
        exact .inr (.inl ⟨(C.tab hT).isCodeTable, rfl, #[], more, rfl, hm'⟩)
      · exact .inl (other b o z e)
    · by_cases z : b = t
      · subst z
        exact ⟨_, hm'⟩
      · exact ⟨o, other b o z e⟩
theorem law_endT (KI : K.In s₁.heap) (g1 : s₁.heap.Ns mainGlobals mg) (g2 : s₁.heap.Ns builtinsNs mb) (g3 : ∀ y : Str, y ≠ "__name__" → mb y = bootBuiltins y) (nl : s₁.heap.NoLimit) (hg : s₁.gens = #[])
    (hT : s₁.heap.get? t = some (tabObj #[])) (nT : K.lookup t = none) (C : CodeHd s₁.heap c t)
    (hbm : ∃ (bm : Addr) (ob : Obj), mg "__builtins__" = some (.ref bm) ∧ bm ≠ builtinsNs ∧ s₁.heap.get? bm = some ob ∧ ob.cls = .type "module" ∧ ob.dict = some builtinsNs ∧ ob.data = .plain)
    (ha : s₁.heap.get? a = some { cls := .type "list", data := .seq vs.toArray }) (hi : IntsAre vs ns) (hz : ns.length ≤ sizeLine) (hr : Room k callerA)
    (F : ∀ base : Heap, K.In base → base.Ns mainGlobals mg → LamX.TabB base mg c t → Fg P w K mg base CX0 k fa fd [x] sp) (bd : ∀ (s : Shared) (u : Value), BindsTo s fd ⟨[u], []⟩ [(x, u)])
    (hsp : ∀ H : Hp, H t = some (.tbl #[]) → SqL K H a (ns.map V.int) → sp [.ref a] H (fun v _ => v = .bl true) fun _ _ _ => False) :
    codeAny (model P w) callerA (.call (.ref fa) ⟨[.ref a], []⟩) (fun r s' => r = .ok (.ret (.bool true)) ∧ OldK s₁.heap s'.heap ∧ s'.os = s₁.os ∧ AllBare s'.gens) s₁ := by
  have rv := vals_ints hi
  have ll : vs.length = ns.length := hi.length
  have nat : a ≠ t := fun z => by rw [z, hT] at ha; cases ha
  cases hk : K.lookup a with
  | some o =>
    have e := KI a o hk
    rw [ha] at e
    cases e
    have g : ∃ G : Hp, G t = some (.tbl #[]) ∧ ∀ b, b ≠ t → G b = none := ⟨fun b => if b = t then _ else none, if_pos rfl, fun b n => if_neg n⟩
    obtain ⟨G, y1, y2⟩ := g
    refine law_coreT KI g1 g2 g3 nl hg hT nT C hbm ha hr F bd G ⟨y1, fun b n => .inl (y2 b n)⟩ (hsp G y1 (.inr ⟨_, vs.toArray, _, hk, rfl, rfl, rfl, by rw [List.size_toArray, ll]; exact hz, by simpa using rv⟩)) fun b u z => ?_
    by_cases e : b = t
    · subst e
      rw [y1] at z
      cases z
      exact hT
    · rw [y2 b e] at z; cases z
  | none =>
    have g : ∃ G : Hp, G t = some (.tbl #[]) ∧ G a = some (.frz { cls := .type "list", data := .seq vs.toArray } (.lst (ns.map V.int))) ∧ ∀ b, b ≠ t → b ≠ a → G b = none :=
      ⟨fun b => if b = t then some (.tbl #[]) else if b = a then _ else none, if_pos rfl, (if_neg nat).trans (if_pos rfl), fun b n n' => (if_neg n).trans (if_neg n')⟩
    obtain ⟨G, y1, y3, y2⟩ := g
    refine law_coreT KI g1 g2 g3 nl hg hT nT C hbm ha hr F bd G ⟨y1, fun b n => ?_⟩ (hsp G y1 (.inl (.inr ⟨_, y3⟩))) fun b u z => ?_
    · by_cases e : b = a
      · exact .inr ⟨e, hk, _, _, e ▸ y3⟩
      · exact .inl (y2 b n e)
    · by_cases e : b = t
      · subst e
        rw [y1] at z
        cases z
        exact hT
      · by_cases e' : b = a
        · subst e'
          rw [y3] at z
          cases z
          exact ⟨ha, by rw [List.length_map]; exact hz, vs, _, rv, ha⟩
        · rw [y2 b e e'] at z; cases z
end
/-- the goal that the head leaves, with a table -/
theorem walk_gT {l : PySem.W.OpenLaw} {n k : Nat} {q : Program} {loose : List Str} {XP : (Str → Option Value) → Heap → Prop} {YP : World → Heap → Prop} {d : DefRec} {K : Params → PySem.W.Frag} {c t : Addr} {sp : PySem.W.Frag → Addr → Sp} {x : Str}
    (hn : l.most = some n) (n2 : n ≤ sizeLine) (nd : d.params.defaults = []) (hr : Room k callerA) (hY : ∀ (w : World) (h : Heap), YP w h → (K w.params).In h) (hT : ∀ (w : World) (h : Heap), YP w h → h.get? t = some (tabObj #[]))
    (nT : ∀ w : World, (K w.params).lookup t = none) (hC : ∀ w : World, codeHdIn (K w.params) c t = true)
    (F : ∀ (w : World) (mg : Str → Option Value) (fa : Addr) (h : Heap), (K w.params).In h → h.Ns mainGlobals mg → mg d.name = some (.ref fa) →
      ∃ fd : FuncData, (∀ (s : Shared) (u : Value), BindsTo s fd ⟨[u], []⟩ [(x, u)]) ∧ ∀ base : Heap, (K w.params).In base → base.Ns mainGlobals mg → LamX.TabB base mg c t → Fg l.prog w (K w.params) mg base CX0 k fa fd [x] (sp (K w.params) t))
    (hsp : ∀ (K : PySem.W.Frag) (H : Hp) (a : Addr) (ns : List Int), ns.length ≤ n → H t = some (.tbl #[]) → SqL K H a (ns.map V.int) → sp K t [.ref a] H (fun v _ => v = .bl true) fun _ _ _ => False) :
    PySem.W.WalkO q loose XP YP l.row.toRowW d [] (fun f vs => PySem.call f vs) := by
  refine Att.attach_call hn nd fun w s₀ s₁ mg mb fa o pm cd doc a vs ns G Y ho hd hcd hmg hobj hints hlen hg => ?_
  have KI := hY w _ Y
  obtain ⟨fd, hb, hF⟩ := F w mg fa _ KI G.T.g hmg
  exact law_endT KI G.T.g G.T.b G.T.builtins G.T.nolimit hg (hT w _ Y) (nT w) (codeHd_of_K KI (hC w)) G.T.bmain hobj hints (Nat.le_trans hlen n2) hr hF hb fun H hH hS => hsp _ H a ns hlen hH hS
end GL
namespace K25
open PySem PySem.Spec PyProof.Rows L2 GL GZ KM KB KW GRJ S25
open KC
open PySem.W (findIn subIn typeIn keepIn)
def liB (K : PySem.W.Frag) (C f g k m : Addr) : Bool := PySem.W.plainGet K C Str.empty && PySem.W.hasDictIn K C && PySem.W.plainOver K C && decide (findIn K (.ref C) "__setattr__" = some (some (.builtin "object.__setattr__"))) && PySem.W.makesIn K C && keepIn K (.ref C) &&
  (["masks", "tables", "last", "found"] : List Str).all (fun n => decide (findIn K (.ref C) n = some none)) && ([f, g, k, m] : List Addr).all (fun f => PySem.W.isFn K (.ref f) && keepIn K (.ref f))
theorem liB_ok {K : PySem.W.Frag} {C f g k m : Addr} (h : liB K C f g k m = true) : Kl K C ∧ PySem.W.makesIn K C = true ∧ keepIn K (.ref C) = true ∧ ∀ x ∈ [f, g, k, m], PySem.W.isFn K (.ref x) = true ∧ keepIn K (.ref x) = true := by
  unfold liB at h
  simp only [Bool.and_eq_true, decide_eq_true_eq, List.all_eq_true] at h
  obtain ⟨⟨⟨⟨⟨⟨⟨h1, h2⟩, h3⟩, h4⟩, h5⟩, h6⟩, h7⟩, h8⟩ := h
  exact ⟨⟨⟨h1, h2, h3, h4⟩, h7 _ (by simp), h7 _ (by simp), h7 _ (by simp), h7 _ (by simp)⟩, h5, h6, h8⟩
theorem all_mk {l : PySem.W.OpenLaw} {w : World} {K : PySem.W.Frag} {h : Heap} {mg : Str → Option Value} {fa : Addr} (X : K.In h) (G : h.Ns mainGlobals mg) (hfa : mg "law" = some (.ref fa))
    {f4 f5 f6 f7 f9 f13 f14 f15 f16 f17 f18 f19 f20 f23 f24 f26 f28 f29 f31 f32 f33 f34 f35 f36 f37 f38 f39 f40 : Addr} {d4 d5 d6 d7 d9 d13 d14 d15 d16 d17 d18 d19 d20 d23 d24 d26 d28 d29 d31 d32 d33 d34 d35 d36 d37 d38 d39 d40 : FuncData} {t0 t1 t2 t3 : Tok}
    {cL : Addr} (CL : PySem.W.nsIn K mainGlobals "Links" = some (some (.ref cL)))
    {qli : Addr} {ocli : Value} {odli anli : Option Addr} {oslli : Array (Option Value)} {kVli docli pmli cdvli ctli : Value} (qali : PySem.W.findIn K (.ref cL) "__init__" = some (some (.ref qli)))
    (qlli : K.lookup qli = some ⟨ocli, odli, .func (PySem.W.fnOf "__init__" "Links.__init__" (defArgs sInit) (defBody sInit) (defScope sInit) .none kVli docli pmli anli cdvli ctli), oslli⟩)
    (qcli : PySem.W.codeIn K cdvli "Links.__init__" = true)
    {qre : Addr} {ocre : Value} {odre anre : Option Addr} {oslre : Array (Option Value)} {kVre docre pmre cdvre ctre : Value} (qare : PySem.W.findIn K (.ref cL) "reach" = some (some (.ref qre)))
    (qlre : K.lookup qre = some ⟨ocre, odre, .func (PySem.W.fnOf "reach" "Links.reach" (defArgs sReach) (defBody sReach) (defScope sReach) .none kVre docre pmre anre cdvre ctre), oslre⟩)
    (qcre : PySem.W.codeIn K cdvre "Links.reach" = true)
    {qlu : Addr} {oclu : Value} {odlu anlu : Option Addr} {osllu : Array (Option Value)} {kVlu doclu pmlu cdvlu ctlu : Value} (qalu : PySem.W.findIn K (.ref cL) "look_up" = some (some (.ref qlu)))
    (qllu : K.lookup qlu = some ⟨oclu, odlu, .func (PySem.W.fnOf "look_up" "Links.look_up" (defArgs sLook) (defBody sLook) (defScope sLook) .none kVlu doclu pmlu anlu cdvlu ctlu), osllu⟩)
    (qclu : PySem.W.codeIn K cdvlu "Links.look_up" = true)
    {qga : Addr} {ocga : Value} {odga anga : Option Addr} {oslga : Array (Option Value)} {kVga docga pmga cdvga ctga : Value} (qaga : PySem.W.findIn K (.ref cL) "gather" = some (some (.ref qga)))
    (qlga : K.lookup qga = some ⟨ocga, odga, .func (PySem.W.fnOf "gather" "Links.gather" (defArgs sGather) (defBody sGather) (defScope sGather) .none kVga docga pmga anga cdvga ctga), oslga⟩)
    (qcga : PySem.W.codeIn K cdvga "Links.gather" = true)
    (bq : liB K cL qli qre qlu qga = true)
    {fch : Addr} (CHN : PySem.W.nsIn K mainGlobals "by_steps" = some (some (.ref fch)))
    {tt cch : Addr} {occh kVch docch pmch ctch : Value} {odch anch : Option Addr} {oslch : Array (Option Value)} (qlch : K.lookup fch = some ⟨occh, odch, .func (PySem.W.fnOf "by_steps" "by_steps" (defArgs sBy) (defBody sBy) (defScope sBy) .none kVch docch pmch anch (.ref cch) ctch), oslch⟩)
    (qcch : PySem.W.codeIn K (.ref cch) "by_steps" = true)
    (kpch : PySem.W.keepIn K (.ref fch) = true)
    {fbl : Addr} {ocbl kVbl docbl pmbl cdbl ctbl : Value} {odbl anbl : Option Addr} {oslbl : Array (Option Value)} (BLN : PySem.W.nsIn K mainGlobals "by_layers" = some (some (.ref fbl)))
    (qlbl : K.lookup fbl = some ⟨ocbl, odbl, .func (PySem.W.fnOf "by_layers" "by_layers" (defArgs sBl) (defBody sBl) (defScope sBl) .none kVbl docbl pmbl anbl cdbl ctbl), oslbl⟩)
    (qcbl : PySem.W.codeIn K cdbl "by_layers" = true)
    (kpbl : PySem.W.keepIn K (.ref fbl) = true)
    {dS : Addr} (SD : PySem.W.nsIn K mainGlobals "STEPS" = some (some (.ref dS)))
    {h0 h1 h2 h3 h4 h5 h6 h7 : Int} {kp0 kp1 kp2 kp3 kp4 kp5 kp6 kp7 : Addr} {nS : Nat} (SL : K.lookup dS = some ⟨.type "dict", none, .dict #[⟨h0, .ref kp0, .ref f13⟩, ⟨h1, .ref kp1, .ref f14⟩, ⟨h2, .ref kp2, .ref f15⟩, ⟨h3, .ref kp3, .ref f16⟩, ⟨h4, .ref kp4, .ref f17⟩, ⟨h5, .ref kp5, .ref f18⟩, ⟨h6, .ref kp6, .ref f19⟩, ⟨h7, .ref kp7, .ref f20⟩] nS, #[]⟩)
    (SH : ∀ (prog : Program) (w : World), h0 = (tupleKind (intKind prog w)).hash [(1 : Int), 0] ∧ h1 = (tupleKind (intKind prog w)).hash [(2 : Int), 0] ∧ h2 = (tupleKind (intKind prog w)).hash [(1 : Int), 1] ∧ h3 = (tupleKind (intKind prog w)).hash [(3 : Int), 0] ∧ h4 = (tupleKind (intKind prog w)).hash [(2 : Int), 1] ∧ h5 = (tupleKind (intKind prog w)).hash [(4 : Int), 0] ∧ h6 = (tupleKind (intKind prog w)).hash [(3 : Int), 1] ∧ h7 = (tupleKind (intKind prog w)).hash [(2 : Int), 2])
    {dd0 : Option Addr} {ta0 tb0 : Tok} {nn0 : Nat} {sl0 : Array (Option Value)} (ST0 : K.lookup kp0 = some ⟨.type "tuple", dd0, .seq #[.int 1 ta0, .int 0 tb0] nn0, sl0⟩)
    {dd1 : Option Addr} {ta1 tb1 : Tok} {nn1 : Nat} {sl1 : Array (Option Value)} (ST1 : K.lookup kp1 = some ⟨.type "tuple", dd1, .seq #[.int 2 ta1, .int 0 tb1] nn1, sl1⟩)
    {dd2 : Option Addr} {ta2 tb2 : Tok} {nn2 : Nat} {sl2 : Array (Option Value)} (ST2 : K.lookup kp2 = some ⟨.type "tuple", dd2, .seq #[.int 1 ta2, .int 1 tb2] nn2, sl2⟩)
    {dd3 : Option Addr} {ta3 tb3 : Tok} {nn3 : Nat} {sl3 : Array (Option Value)} (ST3 : K.lookup kp3 = some ⟨.type "tuple", dd3, .seq #[.int 3 ta3, .int 0 tb3] nn3, sl3⟩)
    {dd4 : Option Addr} {ta4 tb4 : Tok} {nn4 : Nat} {sl4 : Array (Option Value)} (ST4 : K.lookup kp4 = some ⟨.type "tuple", dd4, .seq #[.int 2 ta4, .int 1 tb4] nn4, sl4⟩)
    {dd5 : Option Addr} {ta5 tb5 : Tok} {nn5 : Nat} {sl5 : Array (Option Value)} (ST5 : K.lookup kp5 = some ⟨.type "tuple", dd5, .seq #[.int 4 ta5, .int 0 tb5] nn5, sl5⟩)
    {dd6 : Option Addr} {ta6 tb6 : Tok} {nn6 : Nat} {sl6 : Array (Option Value)} (ST6 : K.lookup kp6 = some ⟨.type "tuple", dd6, .seq #[.int 3 ta6, .int 1 tb6] nn6, sl6⟩)
    {dd7 : Option Addr} {ta7 tb7 : Tok} {nn7 : Nat} {sl7 : Array (Option Value)} (ST7 : K.lookup kp7 = some ⟨.type "tuple", dd7, .seq #[.int 2 ta7, .int 2 tb7] nn7, sl7⟩)
    (F4 : DF K "members" sMembers f4 d4) (F5 : DF K "set_of" sSetOf f5 d5) (F6 : DF K "turned" sTurned f6 d6) (F7 : DF K "word_layers" sLayers f7 d7) (F9 : DF K "sign_values" sSv f9 d9) (F13 : DF K "one_more" sS1 f13 d13) (F14 : DF K "two_more" sS2 f14 d14) (F15 : DF K "one_more_one_less" sS3 f15 d15) (F16 : DF K "three_more" sS4 f16 d16) (F17 : DF K "two_more_one_less" sS5 f17 d17) (F18 : DF K "four_more" sS6 f18 d18) (F19 : DF K "three_more_one_less" sS7 f19 d19) (F20 : DF K "two_more_two_less" sS8 f20 d20) (F23 : DF K "product_sum" sPs f23 d23) (F24 : DF K "by_squares" sSq f24 d24) (F26 : DF K "signed_sum" sSs2 f26 d26) (F28 : DF K "count" sCo2 f28 d28) (F29 : DF K "signed" sSd2 f29 d29) (F31 : DF K "_law_deck" sDeck f31 d31) (F32 : DF K "_law_draw" sDraw f32 d32) (F33 : DF K "_law_one" sOne f33 d33) (F34 : DF K "_law_machine" sMach f34 d34) (F35 : DF K "_law_read" sRead f35 d35) (F36 : DF K "_law_texts" sTexts f36 d36) (F37 : DF K "_law_sign" sSign f37 d37) (F38 : DF K "_law_signs" sSigns f38 d38) (F39 : DF K "_law_sums" sSums f39 d39) (F40 : DF K "law" sLaw f40 d40)
    (z0 : PySem.W.nsIn K mainGlobals "int" = some none) (z1 : PySem.W.nsIn K mainGlobals "tuple" = some none) (z2 : PySem.W.nsIn K mainGlobals "len" = some none) (z3 : PySem.W.nsIn K mainGlobals "abs" = some none) (z4 : PySem.W.nsIn K mainGlobals "range" = some none) (z5 : PySem.W.nsIn K mainGlobals "enumerate" = some none) (z6 : PySem.W.nsIn K mainGlobals "reversed" = some none) (z7 : PySem.W.nsIn K mainGlobals "zip" = some none) (z8 : PySem.W.nsIn K mainGlobals "sum" = some none) (z9 : PySem.W.nsIn K mainGlobals "repr" = some none)
    (m0 : PySem.W.nsIn K mainGlobals "CHUNK" = some (some (.int 8 t0))) (m1 : PySem.W.nsIn K mainGlobals "FULL" = some (some (.int 255 t1))) (m2 : PySem.W.nsIn K mainGlobals "FEW" = some (some (.int 100 t2))) (m3 : PySem.W.nsIn K mainGlobals "SQUARED" = some (some (.int 15 t3))) :
    ∃ fd : FuncData, (∀ (s : Shared) (v : Value), BindsTo s fd ⟨[v], []⟩ [("_law_script", v)]) ∧ ∀ base : Heap, K.In base → base.Ns mainGlobals mg → LamX.TabB base mg cch tt → Fg l.prog w K mg base CX0 21 fa fd ["_law_script"] (spLaw K tt) := by
  have e := hfa.symm.trans (PySem.W.mg_of X G F40.ns)
  cases e
  have C : TxC mg := ⟨PySem.W.mg_none_of X G z0, PySem.W.mg_none_of X G z1, PySem.W.mg_none_of X G z2, PySem.W.mg_none_of X G z3, PySem.W.mg_none_of X G z4⟩
  have TE := PySem.W.mg_none_of X G z5
  have TV := PySem.W.mg_none_of X G z6
  have TZ := PySem.W.mg_none_of X G z7
  have msum := PySem.W.mg_none_of X G z8
  have T : Txt mg := ⟨C, PySem.W.mg_none_of X G z9, msum⟩
  have mSt := PySem.W.mg_of X G SD
  have m8 := PySem.W.mg_of X G m0
  have m255 := PySem.W.mg_of X G m1
  have mFew := PySem.W.mg_of X G m2
  have mSq := PySem.W.mg_of X G m3
  have mCL := PySem.W.mg_of X G CL
  obtain ⟨kl, mks, kcL, fnsL⟩ := liB_ok bq
  refine ⟨d40, fun s v => ?_, fun base _ _ tb => ?_⟩
  · obtain ⟨oc, od, kV, doc, pm, an, cdv, ct, osl, rfl, _, _⟩ := F40.fn.ex
    exact .of_eq rfl
  have B4 : L2.Binds K d4 ["states"] [] := F4.fn.binds fun _ _ _ _ _ _ us hl => match us, hl with | [_], _ => rfl
  have D4 : Dfn l.prog w K mg base "members" 1 f4 d4 ["states"] spMembers := ⟨ok_members F4.fn, B4, PySem.W.mg_of X G F4.ns, F4.fn.kp⟩
  have B5 : L2.Binds K d5 ["states"] [] := F5.fn.binds fun _ _ _ _ _ _ us hl => match us, hl with | [_], _ => rfl
  have D5 : Dfn l.prog w K mg base "set_of" 1 f5 d5 ["states"] spSetOf := ⟨ok_setof F5.fn, B5, PySem.W.mg_of X G F5.ns, F5.fn.kp⟩
  have B6 : L2.Binds K d6 ["goals"] [] := F6.fn.binds fun _ _ _ _ _ _ us hl => match us, hl with | [_], _ => rfl
  have D6 : Dfn l.prog w K mg base "turned" 1 f6 d6 ["goals"] spTurned := ⟨ok_turned F6.fn TE, B6, PySem.W.mg_of X G F6.ns, F6.fn.kp⟩
  have Gli : Fun K "__init__" "Links.__init__" sInit qli _ := fun_mk qlli qcli (fnsL qli (by simp)).2
  have Bli : L2.Binds K _ ["self", "masks"] [] := Gli.binds fun _ _ _ _ _ _ us hl => match us, hl with | [_, _], _ => rfl
  have Kli : FnOk l.prog w K mg base CX0 1 qli _ ["self", "masks"] (spMkL cL) := ok_linit Gli kl m8 ⟨_, rfl⟩ C.range C.len
  have mk : Mk K cL qli := ⟨mks, qali, (fnsL qli (by simp)).1, kcL⟩
  have Gga : Fun K "gather" "Links.gather" sGather qga _ := fun_mk qlga qcga (fnsL qga (by simp)).2
  have Bga : L2.Binds K _ ["self", "first", "part"] [] := Gga.binds fun _ _ _ _ _ _ us hl => match us, hl with | [_, _, _], _ => rfl
  have Kga : FnOk l.prog w K mg base CX0 2 qga _ ["self", "first", "part"] (spGather cL) := ok_gather Gga kl D4
  have mGa : Meth K cL "gather" qga := ⟨qaga, (fnsL qga (by simp)).1, (fnsL qga (by simp)).2⟩
  have Glu : Fun K "look_up" "Links.look_up" sLook qlu _ := fun_mk qllu qclu (fnsL qlu (by simp)).2
  have Blu : L2.Binds K _ ["self", "states"] [] := Glu.binds fun _ _ _ _ _ _ us hl => match us, hl with | [_, _], _ => rfl
  have Klu : FnOk l.prog w K mg base CX0 3 qlu _ ["self", "states"] (spLook cL) := ok_look Glu kl mGa Kga Bga m8 ⟨_, rfl⟩ m255 ⟨_, rfl⟩
  have mLu : Meth K cL "look_up" qlu := ⟨qalu, (fnsL qlu (by simp)).1, (fnsL qlu (by simp)).2⟩
  have Gre : Fun K "reach" "Links.reach" sReach qre _ := fun_mk qlre qcre (fnsL qre (by simp)).2
  have Bre : L2.Binds K _ ["self", "states"] [] := Gre.binds fun _ _ _ _ _ _ us hl => match us, hl with | [_, _], _ => rfl
  have Kre : FnOk l.prog w K mg base CX0 4 qre _ ["self", "states"] (spReach cL) := ok_reach Gre kl mLu Klu Blu
  have mRe : Meth K cL "reach" qre := ⟨qare, (fnsL qre (by simp)).1, (fnsL qre (by simp)).2⟩
  have B7 : L2.Binds K d7 ["goals", "ends", "length"] [] := F7.fn.binds fun _ _ _ _ _ _ us hl => match us, hl with | [_, _, _], _ => rfl
  have D7 : Dfn l.prog w K mg base "word_layers" 5 f7 d7 ["goals", "ends", "length"] (spLayers K) := ⟨ok_layers F7.fn kl mk Kli Bli mCL mRe Kre Bre D5 D6 TE C.range TV, B7, PySem.W.mg_of X G F7.ns, F7.fn.kp⟩
  have B9 : L2.Binds K d9 ["signs"] [] := F9.fn.binds fun _ _ _ _ _ _ us hl => match us, hl with | [_], _ => rfl
  have D9 : Dfn l.prog w K mg base "sign_values" 1 f9 d9 ["signs"] spSv := ⟨ok_sv F9.fn C, B9, PySem.W.mg_of X G F9.ns, F9.fn.kp⟩
  have B13 : L2.Binds K d13 ["goals", "sums"] [] := F13.fn.binds fun _ _ _ _ _ _ us hl => match us, hl with | [_, _], _ => rfl
  have D13 : Dfn l.prog w K mg base "one_more" 1 f13 d13 ["goals", "sums"] (spStep (sgOf 1 0)) := ⟨ok_s1 F13.fn C, B13, PySem.W.mg_of X G F13.ns, F13.fn.kp⟩
  have B14 : L2.Binds K d14 ["goals", "sums"] [] := F14.fn.binds fun _ _ _ _ _ _ us hl => match us, hl with | [_, _], _ => rfl
  have D14 : Dfn l.prog w K mg base "two_more" 1 f14 d14 ["goals", "sums"] (spStep (sgOf 2 0)) := ⟨ok_s2 F14.fn C, B14, PySem.W.mg_of X G F14.ns, F14.fn.kp⟩
  have B15 : L2.Binds K d15 ["goals", "sums"] [] := F15.fn.binds fun _ _ _ _ _ _ us hl => match us, hl with | [_, _], _ => rfl
  have D15 : Dfn l.prog w K mg base "one_more_one_less" 1 f15 d15 ["goals", "sums"] (spStep (sgOf 1 1)) := ⟨ok_s3 F15.fn C, B15, PySem.W.mg_of X G F15.ns, F15.fn.kp⟩
  have B16 : L2.Binds K d16 ["goals", "sums"] [] := F16.fn.binds fun _ _ _ _ _ _ us hl => match us, hl with | [_, _], _ => rfl
  have D16 : Dfn l.prog w K mg base "three_more" 1 f16 d16 ["goals", "sums"] (spStep (sgOf 3 0)) := ⟨ok_s4 F16.fn C, B16, PySem.W.mg_of X G F16.ns, F16.fn.kp⟩
  have B17 : L2.Binds K d17 ["goals", "sums"] [] := F17.fn.binds fun _ _ _ _ _ _ us hl => match us, hl with | [_, _], _ => rfl
  have D17 : Dfn l.prog w K mg base "two_more_one_less" 1 f17 d17 ["goals", "sums"] (spStep (sgOf 2 1)) := ⟨ok_s5 F17.fn C, B17, PySem.W.mg_of X G F17.ns, F17.fn.kp⟩
  have B18 : L2.Binds K d18 ["goals", "sums"] [] := F18.fn.binds fun _ _ _ _ _ _ us hl => match us, hl with | [_, _], _ => rfl
  have D18 : Dfn l.prog w K mg base "four_more" 1 f18 d18 ["goals", "sums"] (spStep (sgOf 4 0)) := ⟨ok_s6 F18.fn C, B18, PySem.W.mg_of X G F18.ns, F18.fn.kp⟩
  have B19 : L2.Binds K d19 ["goals", "sums"] [] := F19.fn.binds fun _ _ _ _ _ _ us hl => match us, hl with | [_, _], _ => rfl
  have D19 : Dfn l.prog w K mg base "three_more_one_less" 1 f19 d19 ["goals", "sums"] (spStep (sgOf 3 1)) := ⟨ok_s7 F19.fn C, B19, PySem.W.mg_of X G F19.ns, F19.fn.kp⟩
  have B20 : L2.Binds K d20 ["goals", "sums"] [] := F20.fn.binds fun _ _ _ _ _ _ us hl => match us, hl with | [_, _], _ => rfl
  have D20 : Dfn l.prog w K mg base "two_more_two_less" 1 f20 d20 ["goals", "sums"] (spStep (sgOf 2 2)) := ⟨ok_s8 F20.fn C, B20, PySem.W.mg_of X G F20.ns, F20.fn.kp⟩
  have B23 : L2.Binds K d23 ["one", "other"] [] := F23.fn.binds fun _ _ _ _ _ _ us hl => match us, hl with | [_, _], _ => rfl
  have D23 : Dfn l.prog w K mg base "product_sum" 1 f23 d23 ["one", "other"] spPs := ⟨ok_ps F23.fn msum TZ, B23, PySem.W.mg_of X G F23.ns, F23.fn.kp⟩
  have B24 : L2.Binds K d24 ["machine", "values", "length"] [] := F24.fn.binds fun _ _ _ _ _ _ us hl => match us, hl with | [_, _, _], _ => rfl
  have D24 : Dfn l.prog w K mg base "by_squares" 2 f24 d24 ["machine", "values", "length"] spSq := ⟨ok_sq F24.fn C TZ D23, B24, PySem.W.mg_of X G F24.ns, F24.fn.kp⟩
  have SA : GSp.StepsAt K dS [([(1 : Int), 0], kp0, f13), ([(2 : Int), 0], kp1, f14), ([(1 : Int), 1], kp2, f15), ([(3 : Int), 0], kp3, f16), ([(2 : Int), 1], kp4, f17), ([(4 : Int), 0], kp5, f18), ([(3 : Int), 1], kp6, f19), ([(2 : Int), 2], kp7, f20)] := by
    refine ⟨⟨_, nS, SL, fun prog w => ?_⟩, fun x hx => ?_, (by decide : ([[1, 0], [2, 0], [1, 1], [3, 0], [2, 1], [4, 0], [3, 1], [2, 2]] : List (List Int)).Nodup)⟩
    · obtain ⟨e0, e1, e2, e3, e4, e5, e6, e7⟩ := SH prog w
      show [(⟨h0, .ref kp0, .ref f13⟩ : DictEntry), (⟨h1, .ref kp1, .ref f14⟩ : DictEntry), (⟨h2, .ref kp2, .ref f15⟩ : DictEntry), (⟨h3, .ref kp3, .ref f16⟩ : DictEntry), (⟨h4, .ref kp4, .ref f17⟩ : DictEntry), (⟨h5, .ref kp5, .ref f18⟩ : DictEntry), (⟨h6, .ref kp6, .ref f19⟩ : DictEntry), (⟨h7, .ref kp7, .ref f20⟩ : DictEntry)] = [(⟨(tupleKind (intKind prog w)).hash [(1 : Int), 0], .ref kp0, .ref f13⟩ : DictEntry), (⟨(tupleKind (intKind prog w)).hash [(2 : Int), 0], .ref kp1, .ref f14⟩ : DictEntry), (⟨(tupleKind (intKind prog w)).hash [(1 : Int), 1], .ref kp2, .ref f15⟩ : DictEntry), (⟨(tupleKind (intKind prog w)).hash [(3 : Int), 0], .ref kp3, .ref f16⟩ : DictEntry), (⟨(tupleKind (intKind prog w)).hash [(2 : Int), 1], .ref kp4, .ref f17⟩ : DictEntry), (⟨(tupleKind (intKind prog w)).hash [(4 : Int), 0], .ref kp5, .ref f18⟩ : DictEntry), (⟨(tupleKind (intKind prog w)).hash [(3 : Int), 1], .ref kp6, .ref f19⟩ : DictEntry), (⟨(tupleKind (intKind prog w)).hash [(2 : Int), 2], .ref kp7, .ref f20⟩ : DictEntry)]
      rw [← e0, ← e1, ← e2, ← e3, ← e4, ← e5, ← e6, ← e7]
    · rcases List.mem_cons.mp hx with rfl | hx
      · exact ⟨_, _, _, ST0, rfl, rfl, .cons ⟨_, rfl⟩ (.cons ⟨_, rfl⟩ .nil)⟩
      rcases List.mem_cons.mp hx with rfl | hx
      · exact ⟨_, _, _, ST1, rfl, rfl, .cons ⟨_, rfl⟩ (.cons ⟨_, rfl⟩ .nil)⟩
      rcases List.mem_cons.mp hx with rfl | hx
      · exact ⟨_, _, _, ST2, rfl, rfl, .cons ⟨_, rfl⟩ (.cons ⟨_, rfl⟩ .nil)⟩
      rcases List.mem_cons.mp hx with rfl | hx
      · exact ⟨_, _, _, ST3, rfl, rfl, .cons ⟨_, rfl⟩ (.cons ⟨_, rfl⟩ .nil)⟩
      rcases List.mem_cons.mp hx with rfl | hx
      · exact ⟨_, _, _, ST4, rfl, rfl, .cons ⟨_, rfl⟩ (.cons ⟨_, rfl⟩ .nil)⟩
      rcases List.mem_cons.mp hx with rfl | hx
      · exact ⟨_, _, _, ST5, rfl, rfl, .cons ⟨_, rfl⟩ (.cons ⟨_, rfl⟩ .nil)⟩
      rcases List.mem_cons.mp hx with rfl | hx
      · exact ⟨_, _, _, ST6, rfl, rfl, .cons ⟨_, rfl⟩ (.cons ⟨_, rfl⟩ .nil)⟩
      rcases List.mem_cons.mp hx with rfl | hx
      · exact ⟨_, _, _, ST7, rfl, rfl, .cons ⟨_, rfl⟩ (.cons ⟨_, rfl⟩ .nil)⟩
      cases hx
  have hS : ∀ a b : Nat, b ≤ a → 1 ≤ a + b → a + b ≤ 4 → ∃ p f, ([(a : Int), (b : Int)], p, f) ∈ ([([(1 : Int), 0], kp0, f13), ([(2 : Int), 0], kp1, f14), ([(1 : Int), 1], kp2, f15), ([(3 : Int), 0], kp3, f16), ([(2 : Int), 1], kp4, f17), ([(4 : Int), 0], kp5, f18), ([(3 : Int), 1], kp6, f19), ([(2 : Int), 2], kp7, f20)] : List (List Int × Addr × Addr)) ∧ Held l.prog w K mg base 1 f (spStep (sgOf a b)) := fun a b h1 h2 h3 => by
    have c : (a = 1 ∧ b = 0) ∨ (a = 2 ∧ b = 0) ∨ (a = 1 ∧ b = 1) ∨ (a = 3 ∧ b = 0) ∨ (a = 2 ∧ b = 1) ∨ (a = 4 ∧ b = 0) ∨ (a = 3 ∧ b = 1) ∨ (a = 2 ∧ b = 2) := by omega
    rcases c with ⟨rfl, rfl⟩ | ⟨rfl, rfl⟩ | ⟨rfl, rfl⟩ | ⟨rfl, rfl⟩ | ⟨rfl, rfl⟩ | ⟨rfl, rfl⟩ | ⟨rfl, rfl⟩ | ⟨rfl, rfl⟩
    · exact ⟨kp0, f13, (List.Mem.head _), ⟨_, _, D13.ok, D13.kp, D13.b⟩⟩
    · exact ⟨kp1, f14, (List.Mem.tail _ (List.Mem.head _)), ⟨_, _, D14.ok, D14.kp, D14.b⟩⟩
    · exact ⟨kp2, f15, (List.Mem.tail _ (List.Mem.tail _ (List.Mem.head _))), ⟨_, _, D15.ok, D15.kp, D15.b⟩⟩
    · exact ⟨kp3, f16, (List.Mem.tail _ (List.Mem.tail _ (List.Mem.tail _ (List.Mem.head _)))), ⟨_, _, D16.ok, D16.kp, D16.b⟩⟩
    · exact ⟨kp4, f17, (List.Mem.tail _ (List.Mem.tail _ (List.Mem.tail _ (List.Mem.tail _ (List.Mem.head _))))), ⟨_, _, D17.ok, D17.kp, D17.b⟩⟩
    · exact ⟨kp5, f18, (List.Mem.tail _ (List.Mem.tail _ (List.Mem.tail _ (List.Mem.tail _ (List.Mem.tail _ (List.Mem.head _)))))), ⟨_, _, D18.ok, D18.kp, D18.b⟩⟩
    · exact ⟨kp6, f19, (List.Mem.tail _ (List.Mem.tail _ (List.Mem.tail _ (List.Mem.tail _ (List.Mem.tail _ (List.Mem.tail _ (List.Mem.head _))))))), ⟨_, _, D19.ok, D19.kp, D19.b⟩⟩
    · exact ⟨kp7, f20, (List.Mem.tail _ (List.Mem.tail _ (List.Mem.tail _ (List.Mem.tail _ (List.Mem.tail _ (List.Mem.tail _ (List.Mem.tail _ (List.Mem.head _)))))))), ⟨_, _, D20.ok, D20.kp, D20.b⟩⟩
  have Fbl : Fun K "by_layers" "by_layers" sBl fbl _ := fun_mk qlbl qcbl kpbl
  have Bbl : L2.Binds K _ ["machine", "length", "prepared", "step"] [] := Fbl.binds fun _ _ _ _ _ _ us hl => match us, hl with | [_, _, _, _], _ => rfl
  have DBL : DfW l.prog w K mg base "by_layers" 6 fbl _ ["machine", "length", "prepared", "step"] (spBl l.prog w K mg base) := ⟨ok_bl Fbl C TZ D7 D4, Bbl, PySem.W.mg_of X G BLN, kpbl⟩
  have Gch : Fun K "by_steps" "by_steps" sBy fch _ := fun_mk qlch qcch kpch
  have Bch : L2.Binds K _ ["machine", "values", "length"] [] := Gch.binds fun _ _ _ _ _ _ us hl => match us, hl with | [_, _, _], _ => rfl
  have DBY : Dfn l.prog w K mg base "by_steps" 7 fch _ ["machine", "values", "length"] (spBy2 tt) := ⟨ok_by2 qlch qcch tb C mSt mFew SA hS DBL, Bch, PySem.W.mg_of X G CHN, kpch⟩
  have B26 : L2.Binds K d26 ["machine", "signs", "length"] [] := F26.fn.binds fun _ _ _ _ _ _ us hl => match us, hl with | [_, _, _], _ => rfl
  have D26 : Dfn l.prog w K mg base "signed_sum" 8 f26 d26 ["machine", "signs", "length"] (spSig2 tt) := ⟨ok_ss2 F26.fn C mSq D9 DBY D24, B26, PySem.W.mg_of X G F26.ns, F26.fn.kp⟩
  have B28 : L2.Binds K d28 ["machine", "length"] [] := F28.fn.binds fun _ _ _ _ _ _ us hl => match us, hl with | [_, _], _ => rfl
  have D28 : Dfn l.prog w K mg base "count" 9 f28 d28 ["machine", "length"] (spCo tt) := ⟨ok_co F28.fn D26, B28, PySem.W.mg_of X G F28.ns, F28.fn.kp⟩
  have B29 : L2.Binds K d29 ["machine", "signs", "length"] [] := F29.fn.binds fun _ _ _ _ _ _ us hl => match us, hl with | [_, _, _], _ => rfl
  have D29 : Dfn l.prog w K mg base "signed" 9 f29 d29 ["machine", "signs", "length"] (spSig2 tt) := ⟨ok_sd2 F29.fn D26, B29, PySem.W.mg_of X G F29.ns, F29.fn.kp⟩
  have B31 : L2.Binds K d31 ["_law_script"] [] := F31.fn.binds fun _ _ _ _ _ _ us hl => match us, hl with | [_], _ => rfl
  have D31 : Dfn l.prog w K mg base "_law_deck" 1 f31 d31 ["_law_script"] (spDeck K) := ⟨ok_deck F31.fn C, B31, PySem.W.mg_of X G F31.ns, F31.fn.kp⟩
  have B32 : L2.Binds K d32 ["_law_deck_here", "_law_many"] [] := F32.fn.binds fun _ _ _ _ _ _ us hl => match us, hl with | [_, _], _ => rfl
  have D32 : Dfn l.prog w K mg base "_law_draw" 1 f32 d32 ["_law_deck_here", "_law_many"] spDraw := ⟨ok_draw F32.fn C, B32, PySem.W.mg_of X G F32.ns, F32.fn.kp⟩
  have B33 : L2.Binds K d33 ["_law_deck_here", "_law_items"] [] := F33.fn.binds fun _ _ _ _ _ _ us hl => match us, hl with | [_, _], _ => rfl
  have D33 : Dfn l.prog w K mg base "_law_one" 2 f33 d33 ["_law_deck_here", "_law_items"] spOne := ⟨ok_one F33.fn C D32, B33, PySem.W.mg_of X G F33.ns, F33.fn.kp⟩
  have D33s : Dfn l.prog w K mg base "_law_one" 2 f33 d33 ["_law_deck_here", "_law_items"] spOneT := ⟨ok_oneT F33.fn T D32, B33, PySem.W.mg_of X G F33.ns, F33.fn.kp⟩
  have B34 : L2.Binds K d34 ["_law_deck_here", "_law_letters", "_law_many"] [] := F34.fn.binds fun _ _ _ _ _ _ us hl => match us, hl with | [_, _, _], _ => rfl
  have D34 : Dfn l.prog w K mg base "_law_machine" 3 f34 d34 ["_law_deck_here", "_law_letters", "_law_many"] (spMach K) := ⟨ok_mach F34.fn C D32 D33, B34, PySem.W.mg_of X G F34.ns, F34.fn.kp⟩
  have B35 : L2.Binds K d35 ["_law_machine_here", "_law_word"] [] := F35.fn.binds fun _ _ _ _ _ _ us hl => match us, hl with | [_, _], _ => rfl
  have D35 : Dfn l.prog w K mg base "_law_read" 1 f35 d35 ["_law_machine_here", "_law_word"] spIs := ⟨ok_read F35.fn, B35, PySem.W.mg_of X G F35.ns, F35.fn.kp⟩
  have B36 : L2.Binds K d36 ["_law_letters", "_law_length"] [] := F36.fn.binds fun _ _ _ _ _ _ us hl => match us, hl with | [_, _], _ => rfl
  have D36 : Dfn l.prog w K mg base "_law_texts" 1 f36 d36 ["_law_letters", "_law_length"] spTexts := ⟨ok_texts F36.fn T, B36, PySem.W.mg_of X G F36.ns, F36.fn.kp⟩
  have B37 : L2.Binds K d37 ["_law_signs_here", "_law_word"] [] := F37.fn.binds fun _ _ _ _ _ _ us hl => match us, hl with | [_, _], _ => rfl
  have D37 : Dfn l.prog w K mg base "_law_sign" 1 f37 d37 ["_law_signs_here", "_law_word"] spSgn := ⟨ok_lsign F37.fn, B37, PySem.W.mg_of X G F37.ns, F37.fn.kp⟩
  have B38 : L2.Binds K d38 ["_law_deck_here", "_law_letters"] [] := F38.fn.binds fun _ _ _ _ _ _ us hl => match us, hl with | [_, _], _ => rfl
  have D38 : Dfn l.prog w K mg base "_law_signs" 3 f38 d38 ["_law_deck_here", "_law_letters"] spSigns := ⟨ok_signs F38.fn T D33s, B38, PySem.W.mg_of X G F38.ns, F38.fn.kp⟩
  have B39 : L2.Binds K d39 ["_law_machine_here", "_law_signs_here", "_law_most"] [] := F39.fn.binds fun _ _ _ _ _ _ us hl => match us, hl with | [_, _, _], _ => rfl
  have D39 : Dfn l.prog w K mg base "_law_sums" 1 f39 d39 ["_law_machine_here", "_law_signs_here", "_law_most"] spSums := ⟨ok_sums F39.fn T, B39, PySem.W.mg_of X G F39.ns, F39.fn.kp⟩
  exact ok_law (kc := 9) (by decide) F40.fn T D31 D32 D34 D35 D36 D37 D38 D39 D28 D29
end K25
open PySem PySem.W PyProof.Rows
set_option maxRecDepth 100000 in
set_option maxHeartbeats 0 in
theorem PySem.Challenge.cw_pairedaway_k25_counts_holds : PySem.Challenge.rw_pairedaway_k25_counts.Holds := by
  w_on; o_law; k_head; (case hw => w_witness2)
  k_fill
  refine' GL.walk_gT (c := ?cc) (l := PySem.Challenge.rw_pairedaway_k25_counts) (n := 63) (k := 21) (x := "_law_script") (sp := K25.spLaw) rfl (by decide) rfl ⟨rfl, by decide, by decide⟩ (fun w h Y => PySem.W.km_in_of Y) (fun w h Y => PySem.W.km_tabs_of Y _ List.mem_cons_self) ?nT ?hC ?F (fun K H a ns hl hT hS => ⟨a, ns, rfl, hS, hl, hT, fun _ => rfl⟩)
  case F =>
    intro w mg fa h KX G hmg
    refine' K25.all_mk KX G hmg ?CL ?qali ?qlli ?qcli ?qare ?qlre ?qcre ?qalu ?qllu ?qclu ?qaga ?qlga ?qcga ?bq ?CHN ?qlch ?qcch ?kpch ?BLN ?qlbl ?qcbl ?kpbl ?SD ?SL ?SH ?ST0 ?ST1 ?ST2 ?ST3 ?ST4 ?ST5 ?ST6 ?ST7 (KC.df ?a4 ?n4 ?e4 ?k4) (KC.df ?a5 ?n5 ?e5 ?k5) (KC.df ?a6 ?n6 ?e6 ?k6) (KC.df ?a7 ?n7 ?e7 ?k7) (KC.df ?a9 ?n9 ?e9 ?k9) (KC.df ?a13 ?n13 ?e13 ?k13) (KC.df ?a14 ?n14 ?e14 ?k14) (KC.df ?a15 ?n15 ?e15 ?k15) (KC.df ?a16 ?n16 ?e16 ?k16) (KC.df ?a17 ?n17 ?e17 ?k17) (KC.df ?a18 ?n18 ?e18 ?k18) (KC.df ?a19 ?n19 ?e19 ?k19) (KC.df ?a20 ?n20 ?e20 ?k20) (KC.df ?a23 ?n23 ?e23 ?k23) (KC.df ?a24 ?n24 ?e24 ?k24) (KC.df ?a26 ?n26 ?e26 ?k26) (KC.df ?a28 ?n28 ?e28 ?k28) (KC.df ?a29 ?n29 ?e29 ?k29) (KC.df ?a31 ?n31 ?e31 ?k31) (KC.df ?a32 ?n32 ?e32 ?k32) (KC.df ?a33 ?n33 ?e33 ?k33) (KC.df ?a34 ?n34 ?e34 ?k34) (KC.df ?a35 ?n35 ?e35 ?k35) (KC.df ?a36 ?n36 ?e36 ?k36) (KC.df ?a37 ?n37 ?e37 ?k37) (KC.df ?a38 ?n38 ?e38 ?k38) (KC.df ?a39 ?n39 ?e39 ?k39) (KC.df ?a40 ?n40 ?e40 ?k40) ?z0 ?z1 ?z2 ?z3 ?z4 ?z5 ?z6 ?z7 ?z8 ?z9 ?m0 ?m1 ?m2 ?m3
    (case CL => k_is)
    (case qali => k_is)
    (case qlli => k_is)
    (case qcli => k_is)
    (case qare => k_is)
    (case qlre => k_is)
    (case qcre => k_is)
    (case qalu => k_is)
    (case qllu => k_is)
    (case qclu => k_is)
    (case qaga => k_is)
    (case qlga => k_is)
    (case qcga => k_is)
    (case bq => kernel_rfl)
    (case CHN => k_is)
    (case qlch => k_is)
    (case qcch => k_is)
    (case kpch => k_is)
    (case BLN => k_is)
    (case qlbl => k_is)
    (case qcbl => k_is)
    (case kpbl => k_is)
    (case SD => k_is)
    (case SL => k_is)
    (case SH => intro prog w; refine ⟨?_, ?_, ?_, ?_, ?_, ?_, ?_, ?_⟩ <;> kernel_rfl)
    (case ST0 => k_is)
    (case ST1 => k_is)
    (case ST2 => k_is)
    (case ST3 => k_is)
    (case ST4 => k_is)
    (case ST5 => k_is)
    (case ST6 => k_is)
    (case ST7 => k_is)
    (case a4 => k_is); (case n4 => k_is); (case e4 => k_is); (case k4 => k_is)
    (case a5 => k_is); (case n5 => k_is); (case e5 => k_is); (case k5 => k_is)
    (case a6 => k_is); (case n6 => k_is); (case e6 => k_is); (case k6 => k_is)
    (case a7 => k_is); (case n7 => k_is); (case e7 => k_is); (case k7 => k_is)
    (case a9 => k_is); (case n9 => k_is); (case e9 => k_is); (case k9 => k_is)
    (case a13 => k_is); (case n13 => k_is); (case e13 => k_is); (case k13 => k_is)
    (case a14 => k_is); (case n14 => k_is); (case e14 => k_is); (case k14 => k_is)
    (case a15 => k_is); (case n15 => k_is); (case e15 => k_is); (case k15 => k_is)
    (case a16 => k_is); (case n16 => k_is); (case e16 => k_is); (case k16 => k_is)
    (case a17 => k_is); (case n17 => k_is); (case e17 => k_is); (case k17 => k_is)
    (case a18 => k_is); (case n18 => k_is); (case e18 => k_is); (case k18 => k_is)
    (case a19 => k_is); (case n19 => k_is); (case e19 => k_is); (case k19 => k_is)
    (case a20 => k_is); (case n20 => k_is); (case e20 => k_is); (case k20 => k_is)
    (case a23 => k_is); (case n23 => k_is); (case e23 => k_is); (case k23 => k_is)
    (case a24 => k_is); (case n24 => k_is); (case e24 => k_is); (case k24 => k_is)
    (case a26 => k_is); (case n26 => k_is); (case e26 => k_is); (case k26 => k_is)
    (case a28 => k_is); (case n28 => k_is); (case e28 => k_is); (case k28 => k_is)
    (case a29 => k_is); (case n29 => k_is); (case e29 => k_is); (case k29 => k_is)
    (case a31 => k_is); (case n31 => k_is); (case e31 => k_is); (case k31 => k_is)
    (case a32 => k_is); (case n32 => k_is); (case e32 => k_is); (case k32 => k_is)
    (case a33 => k_is); (case n33 => k_is); (case e33 => k_is); (case k33 => k_is)
    (case a34 => k_is); (case n34 => k_is); (case e34 => k_is); (case k34 => k_is)
    (case a35 => k_is); (case n35 => k_is); (case e35 => k_is); (case k35 => k_is)
    (case a36 => k_is); (case n36 => k_is); (case e36 => k_is); (case k36 => k_is)
    (case a37 => k_is); (case n37 => k_is); (case e37 => k_is); (case k37 => k_is)
    (case a38 => k_is); (case n38 => k_is); (case e38 => k_is); (case k38 => k_is)
    (case a39 => k_is); (case n39 => k_is); (case e39 => k_is); (case k39 => k_is)
    (case a40 => k_is); (case n40 => k_is); (case e40 => k_is); (case k40 => k_is)
    (case z0 => k_is)
    (case z1 => k_is)
    (case z2 => k_is)
    (case z3 => k_is)
    (case z4 => k_is)
    (case z5 => k_is)
    (case z6 => k_is)
    (case z7 => k_is)
    (case z8 => k_is)
    (case z9 => k_is)
    (case m0 => k_is)
    (case m1 => k_is)
    (case m2 => k_is)
    (case m3 => k_is)
  case nT => intro w; kernel_rfl
  case hC => intro w; kernel_rfl
