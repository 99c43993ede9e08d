import PyProof.Rows.All
import Wide.All
import OpenK.AllK
import Wide.FinOn
import PyProof.GenCompD
import PyProof.WalksMore
import HandS.ForMost
import HandS.EndTab
import HandS.EndOwn
import HandS.AnyAll
import HandS.IsInst
import PyProof.ReprRoads
import KE.KIndexOf
import KE.KRevSl
import HandS.Conv
import HandS.Style
import KE.KNest
import KE.DataEq
import KE.GoesEnum
import KE.GoesMore
import HandS.TupAny
import HandS.Walk
import KE.DataMinMax
import HandS.Zip
import KE.GoesZip
import PySem.Challenge.RW_lowerboards_k42_whole_put_in_and_taken_o
set_option Elab.async false
set_option linter.all false
set_option maxRecDepth 100000
set_option maxHeartbeats 2000000
namespace Lb
open PySem PySem.Spec PyProof.Rows L2 GxR

section
variable {X : Cx} {pins : List (Addr × Obj)} {σ : L2.St} {H : Hp} {s : Shared}

/-- the element of a generator expression: a test of the item v, told for any frame of it -/
def EltD (X : Cx) (scope : Scope) (x : Str) (elt : Expr) (ok : V → Prop) (pb : V → Bool) : Prop :=
  ∀ (cenv : Env) (A' : Around) (E' : Value → Shared → Prop) (v : V) (u : Value) (s₂ : Shared) (m₂ : Str → Option Value),
    L2.Mod X.K X.mg X.base → RelV v u → ok v → A'.handled = none → A'.depth ≤ X.A.depth + 1 → A'.units ≤ X.A.units + 8 → cenv.scope = scope → cenv.globals = mainGlobals → cenv.builtins = builtinsNs →
    (∀ b o, X.base.get? b = some o → s₂.heap.get? b = some o) → s₂.heap.Ns cenv.locals m₂ → m₂ x = some u →
    wpAny (model X.prog X.w) A' (eval elt cenv) (fun y s₃ => y = .bool (pb v) ∧ Keeps s₂ s₃) E' s₂

def trL (pb : V → Bool) (l : List V) (j : Nat) : Bool := (l[j]?.map pb).getD false
theorem trL_some {pb : V → Bool} {l : List V} {j : Nat} {b : V} (h : l[j]? = some b) : trL pb l j = pb b := by
  unfold trL
  rw [h]
  rfl
theorem all_trL (pb : V → Bool) : ∀ l : List V, (List.range l.length).all (trL pb l) = l.all pb
  | [] => rfl
  | b :: r => by
    rw [List.length_cons, List.range_succ_eq_map, List.all_cons, List.all_map, List.all_cons, ← all_trL pb r]
    rfl

/-- the generator at g yields a truth for each item of xs; once it has been walked, the heap is as it was but for its def's table -/
def ReadyL (X : Cx) (pins : List (Addr × Obj)) (σ : L2.St) (H1 : Hp) (P : Addr) (xs : List V) (pb : V → Bool) (g : Addr) (s5 : Shared) : Prop :=
  ∃ fp wr Gs Yl At, WalksS X.prog X.w X.A.in1 g fp wr Gs xs.length Yl At ∧ At 0 s5 ∧ TruthOf X.prog X.w X.A.in1 Yl (trL pb xs) ∧ ∀ z, Moved wr Gs s5 z → ∃ H2, Tabbed P H1 H2 ∧ Inv X pins σ H2 z

/-- a list or a tuple, as it is read -/
def SeqLT (K : PySem.W.Frag) (H : Hp) (a : Addr) (xs : List V) : Prop := SqL K H a xs ∨ SqT K H a xs

/-- what the iterator over a seq at a is, as the generator sees it: the iterator is the next object, o -/
structure Feed (P : Program) (w : World) (h : Heap) (a : Addr) (xs : List V) (o : Obj) (its : List Value) (At : Nat → Heap → Prop) : Prop where
  rel : Vals xs its
  low : a < h.objs.size
  cls : ∀ p u, h.get? p = some u → u.cls = .none → p ≠ a
  walk : ∀ B : Around, B.handled = none → Walks P w B h.objs.size [h.objs.size, a] [h.objs.size] xs.length (fun i v => its[i]? = some v) At
  at0 : At 0 (h.push o)
theorem iter_seq {a : Addr} {xs : List V} {Q : Value → Shared → Prop} {E : Value → Shared → Prop} (I : Inv X pins σ H s) (hq : SeqLT X.K H a xs)
    (done : ∀ o its At, Feed X.prog X.w s.heap a xs o its At → Q (.ref s.heap.objs.size) { s with heap := s.heap.push o }) : wpAny (model X.prog X.w) X.A (pyIter (.ref a)) Q E s := by
  rcases hq with hq | hq
  · obtain ⟨its, rel, laid, _⟩ := I.list hq
    have isL := laid.isList
    obtain ⟨oa, ga, ca, _⟩ := id isL
    have nsz : its.toArray.size = xs.length := by rw [List.size_toArray, rel.length]
    refine wpAny_pyIter_list isL (done _ its (fun i m => m.IsListIter s.heap.objs.size a i ∧ m.IsList a its.toArray) ⟨rel, Heap.lt_size ga, fun p u gp cp e => ?_, fun B hB => ?_, ⟨⟨_, Heap.get?_push_size _ rfl, rfl, rfl⟩, isL.push _⟩⟩)
    · rw [e, ga] at gp
      cases gp
      rw [cp] at ca
      cases ca
    · have W := Walks.list (prog := X.prog) (w := X.w) hB s.heap.objs.size a (Nat.ne_of_lt (Heap.lt_size ga)) its.toArray
      rw [nsz] at W
      simpa using W
  · obtain ⟨its, rel, laid, _⟩ := I.tuple hq
    have isT : s.heap.IsTuple a its.toArray := laid
    obtain ⟨oa, ga, ca, _⟩ := id isT
    have nsz : its.toArray.size = xs.length := by rw [List.size_toArray, rel.length]
    refine wpAny_pyIter_tuple isT (done _ its (fun i m => m.IsTupleIter s.heap.objs.size a i ∧ m.IsTuple a its.toArray) ⟨rel, Heap.lt_size ga, fun p u gp cp e => ?_, fun B hB => ?_, ⟨⟨_, Heap.get?_push_size _ rfl, rfl, rfl⟩, isT.at fun _ e => Heap.get?_push_of_some _ e⟩⟩)
    · rw [e, ga] at gp
      cases gp
      rw [cp] at ca
      cases ca
    · have W := Walks.tuple (prog := X.prog) (w := X.w) hB s.heap.objs.size a (Nat.ne_of_lt (Heap.lt_size ga)) its.toArray
      rw [nsz] at W
      simpa using W

/-- the generator expression's code object is the one in the def's table, or one that is put there -/
theorem code_in_table {env : Env} {c P : Addr} {tab : Array Value} {pos : Pos} {qn : Str} {scope : Scope} {Q : Value → Shared → Prop} {E : Value → Shared → Prop} {P0 : Program} {w0 : World} {A : Around} (hc : env.code = .ref c) (cd : PySem.W.CodeHd s.heap c P)
    (gP : s.heap.get? P = some { cls := .none, data := .fields tab }) (tr : TriplesOk tab.toList)
    (done : ∀ code h' tk more, Heap.ExtBut P s.heap h' → s.heap.objs.size ≤ h'.objs.size → h'.get? P = some { cls := .none, data := .fields (tab ++ more) } → TriplesOk (tab ++ more).toList → Q code { s with heap := h', toks := tk }) :
    wpAny (model P0 w0) A (genexprCode env pos qn scope) Q E s := by
  match q : codeAmong pos tab.toList with
  | some k => exact wpAny_genexprCode_hit hc (cd.code gP tr) q (done k s.heap s.toks #[] (.refl _ _) (Nat.le_refl _) (by rw [Array.append_empty]; exact gP) (by rw [Array.append_empty]; exact tr))
  | none =>
    refine wpAny_genexprCodeX hc (cd.code gP tr) (cd.tab gP) q fun k h' tk ext ge lt is _ at_ _ => ?_
    obtain ⟨_, _, _, _, _, _, _, _, _, _, _, _, _, _, _, _, _, _, _, tr', _⟩ := is
    exact done _ h' tk _ ext (Nat.le_of_lt (Nat.lt_of_le_of_lt ge lt)) at_.2 tr'

theorem gen_seq {c P : Addr} {elt iter : Expr} {x : Str} {px gpos : Pos} {scope : Scope} {ok : V → Prop} {pb : V → Bool} {te : TE} {k : Nat} {Q' : Value → Shared → Prop} {R : List V → Hp → Prop}
    (room : Room k X.A) (TB : GxR.TabB X.base X.mg c P) (own : X.env.code = .ref c) (S : GenS X.env scope x) (src : PE X iter te) (hel : EltD X scope x elt ok pb) (nofold : ∀ v, genFold iter X.env v = pure v) (I : Inv X pins σ H s)
    (h : te σ H fun v H1 => ∃ (a : Addr) (xs : List V), v = .ref a ∧ SeqLT X.K H1 a xs ∧ (∀ v ∈ xs, ok v) ∧ TabG H1 P ∧ R xs H1) (hQ : ∀ xs H1 g s5, R xs H1 → ReadyL X pins σ H1 P xs pb g s5 → Q' (.ref g) s5) :
    wpAny (model X.prog X.w) X.A (eval (.GeneratorExp elt [⟨.Name x px, iter, [], 0⟩] scope gpos) X.env) Q' X.xe s := by
  have deep : X.A.depth < recursionLimit := by have := room.dp; omega
  refine wpAny_GeneratorExp_walksQD room.hd S.co (closure_ok S.free) S.cell S.dot S.loc S.kind deep (thn (src.run pins s σ H _ I h) fun u0 s1 ⟨v0, H1, I1, r0, a, xs, e0, hq, oks, ⟨tab, tP, tr⟩, hR⟩ => ?_) nofold
  subst e0
  cases (show u0 = Value.ref a from r0)
  refine iter_seq I1 hq fun o its At F => ?_
  -- the table's own place, and what stands elsewhere
  have gP : s1.heap.get? P = some { cls := .none, data := .fields tab } := I1.hok P _ tP
  have lowP := Heap.lt_size gP
  have grow : ∀ b u, s1.heap.get? b = some u → (s1.heap.push o).get? b = some u := fun b u e => Heap.get?_push_of_some _ e
  have nl := I1.nolimit.push o
  have stat : cStatics < s1.heap.objs.size ∧ cStatics ≠ P := by
    obtain ⟨_, ns, _⟩ := I1.nolimit
    refine ⟨ns.lt, fun e => ?_⟩
    obtain ⟨ob, _, _, g, d, _⟩ := ns
    rw [e, gP] at g
    cases g
    cases d
  refine ⟨nl, code_in_table own (TB.code.keeps fun b u e => grow b u (I1.bk b u e)) (grow P _ gP) tr fun code h3 tk more ext big gP3 tr3 => ?_⟩
  have szo : (s1.heap.push o).objs.size = s1.heap.objs.size + 1 := Heap.size_push ..
  have room3 : s1.heap.objs.size < h3.objs.size := by
    have b2 := big
    rw [szo] at b2
    exact b2
  have stays : ∀ b u, b ≠ P → s1.heap.get? b = some u → h3.get? b = some u := fun b u nb e => ext b u nb (grow b u e)
  have based : ∀ b u, X.base.get? b = some u → b ≠ P ∧ s1.heap.get? b = some u := fun b u e => by
    refine ⟨fun z => ?_, I1.bk b u e⟩
    have no := (I1.bs b u e).2
    rw [z, tP] at no
    cases no
  obtain ⟨bm, ob, b1, b2, b3, b4, b5, b6, b7, b8⟩ := TB.bm
  refine wpAny_builtinsFor (m := X.mg) (by rw [I1.ok.glob]; exact Heap.Ns.extBut ((I1.mod.glob.keeps I1.bk).push o) ext TB.gP) b1 b2 (stays _ _ b4 (I1.bk _ _ b5)) b6 b7 b8 ?_
  have foot : ∀ b ∈ [s1.heap.objs.size, a], b ≠ P ∧ b < h3.objs.size := fun b hb => by
    simp only [List.mem_cons, List.not_mem_nil, or_false] at hb
    rcases hb with e | e <;> rw [e]
    · exact ⟨(Nat.ne_of_lt lowP).symm, room3⟩
    · exact ⟨(F.cls P _ gP rfl).symm, Nat.lt_trans F.low room3⟩
  refine ⟨_, _, [s1.heap.objs.size], xs.length, fun i y => its[i]? = some y, At, fun _ => true, fun i y => ∃ d, xs[i]? = some d ∧ y = .bool (pb d), rfl, F.walk, ?_, fun b hb => (foot b hb).2, nl.extBut ext stat.2, fun e => Nat.ne_of_lt stat.1 (List.mem_singleton.mp e), fun later kept => ⟨?_, ?_⟩, ?_⟩
  · exact (F.walk X.A room.hd).frame _ _ _ F.at0 fun b hb u e => ext b u (foot b hb).1 e
  · intro B E' i y t mt _ _ _ _ _ _ _
    simp only [List.forIn_nil]
    exact wpAny_pure ⟨rfl, keeps_refl _⟩
  · intro B E' i y t mt hB dB uB hy _ ln lm lk
    have lt : i < xs.length := by
      rw [F.rel.length]
      exact (List.getElem?_eq_some_iff.mp hy).1
    have at_ := List.getElem?_eq_getElem lt
    obtain ⟨y', hy', ry⟩ := F.rel.get at_
    cases hy.symm.trans hy'
    refine wpAny_mono (hel _ B E' xs[i] y t mt I1.ok.mod ry (oks _ (List.getElem_mem lt)) hB dB uB rfl I1.ok.glob rfl (fun b u e => ?_) ln lm) (fun z t' r => ⟨⟨_, at_, r.1⟩, r.2⟩) fun _ _ e => e
    obtain ⟨nb, eb⟩ := based b u e
    have e3 := stays b u nb eb
    exact lk b (List.mem_range.mpr (Heap.lt_size e3)) (fun z => Nat.ne_of_lt (Heap.lt_size eb) (List.mem_singleton.mp z)) u (kept b u e3)
  · intro g h5 tk5 gen bare gt sz5 keep5 W5 start
    simp only [GxR.passing_true, List.length_range] at W5
    refine hQ xs H1 g _ hR ⟨_, _, _, _, _, W5.in4_1, start, fun j y t Qj Ej hy hj => ?_, fun z mv => ?_⟩
    · obtain ⟨i, hi, d, hd, rfl⟩ := hy
      obtain ⟨_, ei⟩ := List.getElem?_eq_some_iff.mp hi
      rw [List.getElem_range] at ei
      subst ei
      rw [trL_some hd] at hj
      exact wpAny_truthy_bool hj
    · have apart : ∀ b u, s1.heap.get? b = some u → b ∉ h3.objs.size :: [s1.heap.objs.size] := fun b u e hb => by
        have lb : (b : Nat) < s1.heap.objs.size := Heap.lt_size e
        simp only [List.mem_cons, List.not_mem_nil, or_false] at hb
        rcases hb with e' | e' <;> rw [e'] at lb
        · exact Nat.lt_irrefl _ (Nat.lt_trans lb room3)
        · exact Nat.lt_irrefl _ lb
      have fin := inv_tab (more := more) (h' := z.heap) (g' := z.gens) (d' := z.drawn) (t' := z.toks) I1 tP (fun b u nb e => mv.heap b u (apart b u e) (keep5 b u (stays b u nb e))) (mv.heap P _ (apart P _ gP) (keep5 P _ gP3)) (AllBare.movedS (I1.bare.push bare) mv)
      rw [sh_eta s1 z mv.os] at fin
      exact ⟨upd H1 P (.tbl (tab ++ more)), ⟨⟨tab ++ more, upd_same, tr3⟩, fun b hb => upd_ne hb⟩, fin⟩

/-- all(test for x in e), e a list or a tuple; behind it the def's table may have grown -/
def tAllD (K : PySem.W.Frag) (P : Addr) (ok : V → Prop) (pb : V → Bool) (te : TE) : TE := fun σ H Q => te σ H fun v H1 => ∃ (a : Addr) (xs : List V), v = .ref a ∧ SeqLT K H1 a xs ∧ (∀ v ∈ xs, ok v) ∧ TabG H1 P ∧ ∀ H2, Tabbed P H1 H2 → Q (.bl (xs.all pb)) H2
theorem pe_allD {c P : Addr} {elt iter : Expr} {x : Str} {px p pos gpos : Pos} {scope : Scope} {ok : V → Prop} {pb : V → Bool} {te : TE} {k : Nat}
    (hr : Room k X.A) (hg : Gl X "all") (hm : X.mg "all" = none) (hb : bootBuiltins "all" = some (.builtin "all")) (TB : GxR.TabB X.base X.mg c P) (hcode : X.env.code = .ref c) (S : GenS X.env scope x) (hi : PE X iter te) (hel : EltD X scope x elt ok pb)
    (hs : ∀ v, genFold iter X.env v = pure v)
    (he : starEach [.GeneratorExp elt [⟨.Name x px, iter, [], 0⟩] scope gpos] X.env = (false, eval (.GeneratorExp elt [⟨.Name x px, iter, [], 0⟩] scope gpos) X.env) :: starEach [] X.env := by rfl) :
    PE X (.Call (.Name "all" p) [.GeneratorExp elt [⟨.Name x px, iter, [], 0⟩] scope gpos] [] pos) (tAllD X.K P ok pb te) := by
  refine ⟨fun pins s σ H Q I h => ?_⟩
  refine wpAny_Call_Name_kw (ld_blt I hg hm hb ?_)
  refine PyProof.Rows.callWith_builtin1 ?_ he (by rfl)
  rw [he]
  show wpAny _ _ (spliced ((false, eval (.GeneratorExp elt [⟨.Name x px, iter, [], 0⟩] scope gpos) X.env) :: backTo pos (starEach [] X.env))) _ _ s
  refine Calls.spliced_cons (gen_seq (R := fun xs H1 => ∀ H2, Tabbed P H1 H2 → Q (.bl (xs.all pb)) H2) hr TB hcode S hi hel hs I h fun xs H1 g s5 hR hG => ?_)
  obtain ⟨fp, wr, G, F, St, W, hst, htr, hI⟩ := hG
  refine Calls.spliced_nil ?_
  refine call_all_walkS (W.self 0 _ _ _ hst ⟨g, fp, wr, G, _, F, St, _, rfl, W, hst, htr, fun s' hmv => ?_⟩)
  obtain ⟨H2, hT, J⟩ := hI s' hmv
  refine ⟨.bl _, H2, J, rfl, ?_⟩
  rw [all_trL pb xs]
  exact hR H2 hT
end
end Lb

set_option Elab.async false
set_option linter.all false
set_option maxRecDepth 100000
set_option maxHeartbeats 2000000
namespace Lb
open PySem PySem.Spec PyProof.Rows L2

section
variable {X : Cx}

/-! repr of data, where no repr is under way -/
def rReprD (K : PySem.W.Frag) (n : Nat) : List V → Hp → VK → Prop := fun xs H Q => ∃ (a : Addr) (d : PyData), xs = [.ref a] ∧ Dp K H (.ref a) d ∧ d.showable = true ∧ d.hasDict = false ∧ d.depth ≤ n ∧ d.shown.length ≤ sizeLine ∧ Q (.str d.shown) H
theorem cr_reprD {n : Nat} (hg : X.A.guards = some []) (hu : X.A.units + (n + 1) < cLine) : CallR X (.builtin "repr") (rReprD X.K n) := by
  intro pins s σ H xs us Q I r h
  obtain ⟨a, d, rfl, dp, hs, hd, hn, hz, q⟩ := h
  rw [Vals.ref1 r]
  obtain ⟨as, rd⟩ := Dp.reads I d (.ref a) (.ref a) dp rfl
  refine repr_of_reads' rd hs (fun e => ?_) hg (by omega) (fun _ _ e => e) (fun h' u tk hk => ?_) hz
  · rw [hd] at e
    cases e
  · exact ⟨.str d.shown, H, I.kept hk, ⟨u, rfl⟩, q⟩

/-! sorted of ints in a list or a tuple -/
theorem collect_tup {P : Program} {w : World} {A : Around} {E : Value → Shared → Prop} {s : Shared} {t : Addr} {vs : List Value} {Q : List Value → Shared → Prop} (ht : s.heap.IsTuple t vs.toArray) (hz : vs.length ≤ sizeLine)
    (h : Q vs { s with heap := (s.heap.push (seqObj "list" #[] 0)).update s.heap.objs.size (Obj.mapSeq (· ++ vs.toArray)) }) :
    wpAny (model P w) A (collect (.ref t)) Q E s := by
  obtain ⟨o, ho, hc, n, hd⟩ := id ht
  have hnew : (s.heap.push (seqObj "list" #[] 0)).get? s.heap.objs.size = some (seqObj "list" #[] 0) := Heap.get?_push_size _ rfl
  have hold : (s.heap.push (seqObj "list" #[] 0)).get? t = some o := Heap.get?_push_of_some _ ho
  unfold collect
  refine wpAny_bind (wpAny_runValue (codeAny_builtin entry_proto_collect' ?_))
  refine wpAny_bind (m := newList []) (wpAny_newList (wpAny_pure ⟨Code.quiet_builtin _ (by decide +kernel), codeAny_builtin entry_list_iadd' ?_⟩))
  show wpAny _ _ (Builtin.List.listExtendWith (.ref s.heap.objs.size) (.ref t) (.ref s.heap.objs.size)) _ _ ⟨s.heap.push (seqObj "list" #[] 0), _, _, _, _⟩
  unfold Builtin.List.listExtendWith
  refine wpAny_bind (wpAny_typeOf (T := "tuple") ⟨o, hold, hc⟩ ?_)
  have e2 : (Value.type "tuple" == Value.type "tuple") = true := rfl
  rw [if_pos (by rw [e2, Bool.or_true])]
  refine wpAny_bind (listItems_at hold hd (wpAny_bind (listItems_at (xs := #[]) (n := 0) hnew rfl ?_)))
  rw [if_neg (by simp)]
  refine wpAny_bind (listUpdate_at (xs := #[]) (n := 0) hnew rfl (wpAny_pure ?_) (Nat.zero_le _) (by show (#[] ++ vs.toArray).size ≤ sizeLine + 1; simp only [Array.size_append, List.size_toArray, List.length_nil]; omega))
  refine wpAny_bind (m := load s.heap.objs.size) (wpAny_load (get?_update_seq hnew _) ?_)
  have e3 : ((#[] : Array Value) ++ vs.toArray).toList = vs := by simp
  show wpAny _ _ (pure ((#[] : Array Value) ++ vs.toArray).toList) Q E _
  rw [e3]
  exact wpAny_pure h

theorem sorted_tupI {P : Program} {w : World} {A : Around} {E : Value → Shared → Prop} {s : Shared} {t : Addr} {vs : List Value} {ns : List Int} {Q : Value → Shared → Prop} (ht : s.heap.IsTuple t vs.toArray) (hI : IntsAre vs ns) (h64 : vs.length < 64)
    (h : ∀ (out : Array Value) (ns' : List Int), IntsAre out.toList ns' → ns'.Perm ns → ns'.Pairwise (· ≤ ·) → Q (.ref (s.heap.objs.size + 1)) { s with heap := sortedAll s.heap vs out }) :
    wpAny (model P w) A (call (.builtin "sorted") [.ref t]) Q E s := by
  refine Calls.call_function_entry kind_sorted plain_sorted entry_sorted (args_sorted1 _) ?_
  unfold Builtin.«sorted»
  refine wpAny_bind (m := checkCount "sorted" 1 1 _) (wpAny_pure (wpAny_bind (collect_tup ht (small64 h64) (wpAny_bind (wpAny_newList ?_)))))
  have z1 : ((s.heap.push (seqObj "list" #[] 0)).update s.heap.objs.size (Obj.mapSeq (· ++ vs.toArray))).objs.size = s.heap.objs.size + 1 := by rw [Heap.size_update, size_push']
  have z2 : (((s.heap.push (seqObj "list" #[] 0)).update s.heap.objs.size (Obj.mapSeq (· ++ vs.toArray))).push (seqObj "list" vs.toArray 0)).get? (s.heap.objs.size + 1) = some (seqObj "list" vs.toArray 0) := by
    rw [← z1]
    exact Heap.get?_push_size _ rfl
  show wpAny _ _ _ _ _ ⟨((s.heap.push (seqObj "list" #[] 0)).update s.heap.objs.size (Obj.mapSeq (· ++ vs.toArray))).push (seqObj "list" vs.toArray 0), _, _, _, _⟩
  rw [z1]
  exact wpAny_bind (wpAny_holding (wpAny_call_entry slot_list_sort ⟨_, z2, rfl⟩ entry_list_sort (list_sort_tree z2 hI h64 fun out ns' a1 a2 a3 => ⟨_, rfl, wpAny_pure ⟨_, rfl, h out ns' a1 a2 a3⟩⟩) (args_list_sort _)))

def rSortLT (K : PySem.W.Frag) : List V → Hp → VK → Prop := fun vs H Q => ∃ (a : Addr) (ns : List Int), vs = [V.ref a] ∧ SeqLT K H a (ns.map V.int) ∧ ns.length < 64 ∧
  ∀ (ns' : List Int) (p : Addr), ns'.Perm ns → ns'.Pairwise (· ≤ ·) → H p = none → Q (.ref p) (upd H p (.lst (ns'.map V.int)))
theorem cr_sortLT : CallR X (.builtin "sorted") (rSortLT X.K) := by
  intro pins s σ H vs us Q I r h
  obtain ⟨a, ns, rfl, hs, h64, q⟩ := h
  rcases hs with hs | hs
  · exact cr_sorted pins s σ H _ us Q I r ⟨a, ns, rfl, hs, h64, q⟩
  · obtain ⟨its, rv, pl, _⟩ := I.tuple hs
    rw [Vals.ref1 r]
    have hi := rv.ints
    refine sorted_tupI (show s.heap.IsTuple a its.toArray from pl) hi (by rw [hi.length]; exact h64) fun out ns' h1 h2 h3 => ?_
    obtain ⟨ep, he⟩ := sortedAll_at s.heap its out
    have hl : (ns'.map V.int).length ≤ sizeLine := by
      rw [List.length_map, h2.length_eq]
      exact small64 h64
    exact ⟨.ref _, upd H (s.heap.objs.size + 1) (.lst (ns'.map V.int)), I.laid (t' := s.toks) (fun _ _ => sortedAll_old) (Nat.le_succ _) ⟨hl, out.toList, ep, vals_of_ints h1, he⟩, rfl, q ns' _ h2 h3 (I.hok.fresh (Nat.le_succ _))⟩

/-- an order as a value: a list (false), or a tuple (true) that is known to have no dict of its own -/
def OrdK : Bool → Hp → Addr → List V → Prop
  | false, H, a, xs => H a = some (.lst xs)
  | true, H, a, xs => ∃ o : Obj, o.dict = none ∧ H a = some (.frz o (.tup xs))
theorem OrdK.lt {K : PySem.W.Frag} {b : Bool} {H : Hp} {a : Addr} {xs : List V} (h : OrdK b H a xs) : SeqLT K H a xs := by
  cases b with
  | false => exact .inl (.inl (.inl h))
  | true =>
    obtain ⟨o, _, h⟩ := h
    exact .inr (.inl (.inr ⟨o, h⟩))
theorem OrdK.sqT {K : PySem.W.Frag} {H : Hp} {a : Addr} {xs : List V} (h : OrdK true H a xs) : SqT K H a xs := by
  obtain ⟨o, _, h⟩ := h
  exact .inl (.inr ⟨o, h⟩)
theorem OrdK.sqL {K : PySem.W.Frag} {H : Hp} {a : Addr} {xs : List V} (h : OrdK false H a xs) : SqL K H a xs := .inl (.inl h)

/-! seq.index(k), seq a list or a tuple of ints that has k -/
theorem idx_run {pins : List (Addr × Obj)} {s : Shared} {σ : L2.St} {H : Hp} {a : Addr} {us : List Value} {ns : List Int} {k : Int} {Q : VK} (I : L2.Inv X pins σ H s) (ru : Vals [V.int k] us) (hk : k ∈ ns) (q : Q (.int ((ns.idxOf k : Nat) : Int)) H) :
    (SqL X.K H a (ns.map V.int) → wpAny (model X.prog X.w) X.A (call (.builtin "list.index") (.ref a :: us)) (EP X pins σ Q) X.xe s) ∧
    (SqT X.K H a (ns.map V.int) → wpAny (model X.prog X.w) X.A (call (.builtin "tuple.index") (.ref a :: us)) (EP X pins σ Q) X.xe s) := by
  obtain ⟨u, rfl, t, rfl⟩ := vals1 ru
  refine ⟨fun hl => ?_, fun ht => ?_⟩
  · obtain ⟨its, rv, pl, hz⟩ := I.list hl
    rw [List.length_map] at hz
    exact PySem.SeqAt.list_index_ints pl.isList rv.ints hz hk ⟨.int _, H, I.tok _, ⟨_, rfl⟩, q⟩
  · obtain ⟨its, rv, pl, hz⟩ := I.tuple ht
    exact PySem.SeqAt.tuple_index_ints (show s.heap.IsTuple a its.toArray from pl) rv.ints hk ⟨.int _, H, I.tok _, ⟨_, rfl⟩, q⟩
def tIdx (to : TE) (ta : TA) : TE := fun σ H Q => to σ H fun x H1 => ∃ (b : Bool) (a : Addr) (ns : List Int), x = .ref a ∧ OrdK b H1 a (ns.map V.int) ∧ ta σ H1 fun vs H2 => ∃ k : Int, vs = [.int k] ∧ OrdK b H2 a (ns.map V.int) ∧ k ∈ ns ∧ Q (.int ((ns.idxOf k : Nat) : Int)) H2
theorem pe_idx {o e : Expr} {to : TE} {ta : TA} {apos cpos : Pos} (ho : PE X o to) (ha : PA X [e] ta)
    (hbase : attributeBase o "index" X.env (eval o X.env) = eval o X.env := by rfl)
    (hfew : ((backTo cpos (starEach [e] X.env)).all (fun x => !x.1) && (backToKw cpos (keywordEach [] X.env)).all (fun x => x.1.isSome) && decide ([e].length + ([] : List Keyword).length + (if ([] : List Keyword).isEmpty then 0 else 1) < 30)) = true := by rfl)
    (hline : (apos.endLine == cpos.line) = true := by rfl) (hs : starEach [e] X.env = (false, eval e X.env) :: starEach [] X.env := by rfl) :
    PE X (.Call (.Attribute o "index" apos) [e] [] cpos) (tIdx to ta) := by
  refine ⟨fun pins s σ H Q I h => ?_⟩
  refine wpAny_Call_method_late hbase hfew hline rfl (thn (ho.run pins s σ H _ I h) fun v s1 ⟨x, H1, I1, r1, q0⟩ => ?_)
  obtain ⟨b, a, ns, ex, oa, q1⟩ := q0
  subst ex
  cases r1
  have arg := ha.run cpos pins s1 σ H1 _ I1 q1
  rw [hs] at arg ⊢
  cases b with
  | false =>
    obtain ⟨hz, its, n, rv, hob⟩ := I1.hok a _ oa
    refine ⟨"list", "list.index", PySem.F.plainAttrs_list, PySem.F.slot_list_index, PySem.F.type_list_index, ⟨_, hob, rfl⟩, fun b eb => ?_, ?_⟩
    · cases eb
      exact ⟨_, hob, rfl⟩
    · refine Calls.callWith_builtin (by rfl) (Calls.evalArgs_plain (thn arg fun us s2 ⟨vs, H2, I2, r2, k, ev, oa2, hk, q2⟩ => ?_))
      subst ev
      exact (idx_run I2 r2 hk q2).1 oa2.sqL
  | true =>
    obtain ⟨ob, hd, oa⟩ := oa
    obtain ⟨hob, _⟩ := I1.hok a _ oa
    obtain ⟨_, its, _, o3, e3, c3, _⟩ := (show ObjOk X.prog X.w H1 s1.heap a (.frz ob (.tup (ns.map V.int))) from I1.hok a _ oa).2
    rw [hob] at e3
    cases e3
    refine ⟨"tuple", "tuple.index", PySem.F.plainAttrs_tuple, PySem.F.slot_tuple_index, PySem.F.type_tuple_index, ⟨_, hob, c3⟩, fun b eb => ?_, ?_⟩
    · cases eb
      exact ⟨_, hob, hd⟩
    · refine Calls.callWith_builtin (by rfl) (Calls.evalArgs_plain (thn arg fun us s2 ⟨vs, H2, I2, r2, k, ev, oa2, hk, q2⟩ => ?_))
      subst ev
      exact (idx_run I2 r2 hk q2).2 oa2.sqT

/-! seq[::-1], seq a list or a tuple: a new one of the same kind -/
theorem applied_back {P : Program} {w : World} {A : Around} {E : Value → Shared → Prop} {s : Shared} {sl : Addr} {u : Tok} {n : Nat} {Q : Int × Int × Nat → Shared → Prop} (hs : s.heap.IsSliceOf sl .none .none (.int (-1) u)) (h : Q ((n : Int) - 1, -1, n) s) :
    wpAny (model P w) A (Builtin.Slice.sliceApplied (.ref sl) (pure (n : Int))) Q E s := by
  obtain ⟨os, hos, _, hds⟩ := id hs
  unfold Builtin.Slice.sliceApplied Builtin.Slice.sliceFields
  refine wpAny_bind (wpAny_bind (wpAny_field hos hds (x := .none) rfl (wpAny_bind (wpAny_field hos hds (x := .none) rfl (wpAny_bind (wpAny_field hos hds (x := .int (-1) u) rfl (wpAny_pure ?_)))))))
  refine wpAny_bind (slicePart_int ?_)
  show wpAny _ _ (if ((-1 : Int) == 0) = true then _ else _) _ _ s
  rw [if_neg (by decide)]
  refine wpAny_bind (slicePart_none (wpAny_bind (slicePart_none (wpAny_bind (wpAny_pure (wpAny_pure ?_))))))
  have e : Builtin.Slice.slicePlaces ((n : Int) - 1) (-1) (-1) = n := by
    unfold Builtin.Slice.slicePlaces
    rw [if_neg (by decide)]
    by_cases hn : (n : Int) - 1 > -1
    · rw [if_pos hn, show (- -1 : Int) = 1 by decide, Int.ediv_one]
      omega
    · rw [if_neg hn]
      omega
  show Q ((n : Int) - 1, -1, Builtin.Slice.slicePlaces ((n : Int) - 1) (-1) (-1)) s
  rw [e]
  exact h
theorem fm_congr {α β : Type} {f g : α → Option β} : ∀ l : List α, (∀ x ∈ l, f x = g x) → l.filterMap f = l.filterMap g
  | [], _ => rfl
  | x :: r, h => by
    rw [List.filterMap_cons, List.filterMap_cons, h x (.head _), fm_congr r fun y hy => h y (.tail _ hy)]
theorem pick_back (xs : Array Value) : ((List.range xs.size).filterMap fun (k : Nat) => xs[((xs.size : Int) - 1 + (k : Int) * (-1)).toNat]?).toArray = xs.toList.reverse.toArray := by
  have e : ((List.range xs.size).filterMap fun (k : Nat) => xs[((xs.size : Int) - 1 + (k : Int) * (-1)).toNat]?) = ((List.range xs.size).map fun k => xs.size - 1 - k).filterMap (xs[·]?) := by
    rw [List.filterMap_map]
    refine fm_congr _ fun k hk => ?_
    have hk2 := List.mem_range.mp hk
    have e1 : ((xs.size : Int) - 1 + (k : Int) * (-1)).toNat = xs.size - 1 - k := by omega
    rw [e1]
    rfl
  rw [e, PySem.W.krv_range, List.filterMap_reverse, PySem.W.krv_all]
theorem getItem_tuple_back {P : Program} {w : World} {A : Around} {E : Value → Shared → Prop} {s : Shared} {t sl : Addr} {xs : List Value} {u : Tok} {Q : Value → Shared → Prop} (ht : IsTup s.heap t xs.toArray) (hs : s.heap.IsSliceOf sl .none .none (.int (-1) u)) (hz : xs.length ≤ sizeLine)
    (h : Q (.ref s.heap.objs.size) { s with heap := s.heap.push { cls := .type "tuple", data := .seq xs.reverse.toArray } }) : wpAny (model P w) A (getItem (.ref t) (.ref sl)) Q E s := by
  have zOk : sizeOk (.seq xs.reverse.toArray) := by
    show xs.reverse.toArray.size ≤ sizeLine
    rw [List.size_toArray, List.length_reverse]
    exact hz
  obtain ⟨os, hos, hcs, _⟩ := id hs
  unfold getItem
  try with_reducible refine wpAny_holding ?_
  first | refine wpAny_bind (wpAny_pure ?_) | skip
  refine wpAny_bind (wpAny_sequenceKey ht.typeIs (by decide) ?_)
  refine wpAny_bind (wpAny_callSpecial?_slot (name := Str.ofString "__getitem__") ht.typeIs slot_tuple_getitem (wpAny_call_entry slot_tuple_getitem ht.typeIs entry_tuple_getitem ?_ (args_tuple_getitem _ _)))
  refine wpAny_bind (m := Builtin.Tuple.tupleItemsOf (.ref t)) (tupleItemsOf_ ht (wpAny_bind (wpAny_typeOf (show s.TypeIs (.ref sl) "slice" from ⟨os, hos, hcs⟩) ?_)))
  rw [if_pos (by decide)]
  refine wpAny_bind (applied_back hs ?_)
  have off : ¬ ((((xs.toArray.size : Int) - 1) == 0 && (-1 : Int) == 1 && xs.toArray.size == xs.toArray.size) = true) := by
    rw [show ((-1 : Int) == 1) = false by decide, Bool.and_false, Bool.false_and]
    exact Bool.false_ne_true
  show wpAny _ _ (if (((xs.toArray.size : Int) - 1) == 0 && (-1 : Int) == 1 && xs.toArray.size == xs.toArray.size) = true then _ else _) _ _ s
  rw [if_neg off, pick_back]
  exact wpAny_bind (m := Builtin.Tuple.tupleExact _) (wpAny_newObj_type (wpAny_pure ⟨_, rfl, wpAny_pure h⟩) zOk)
def tRev (te : TE) : TE := fun σ H Q => te σ H fun x H1 => ∃ (b : Bool) (a : Addr) (xs : List V), x = .ref a ∧ OrdK b H1 a xs ∧ ∀ p, H1 p = none → Q (.ref p) (upd H1 p (if b = true then .tup xs.reverse else .lst xs.reverse))
theorem pe_rev {e : Expr} {te : TE} {k : Nat} {p1 p2 p3 pos : Pos} (he : PE X e te) : PE X (.Subscript e (.Slice none none (some (.UnaryOp .USub (.Constant (.int 1) k p1) p2)) p3) pos) (tRev te) := by
  refine ⟨fun pins s σ H Q I h => ?_⟩
  refine Subscript_ (thn (he.run pins s σ H _ I h) fun v s1 ⟨x, H1, I1, r1, q0⟩ => ?_)
  obtain ⟨b, a, xs, ex, oa, q⟩ := q0
  subst ex
  cases r1
  have step : PO X (some (.UnaryOp .USub (.Constant (.int 1) k p1) p2)) (tPart (tUn (rU fun i => .int (-i)) (tC (.int 1)))) := po_some (pe_un un_neg pe_int)
  refine wpAny_Slice (thn (po_none.run pins s1 σ H1 (fun o H2 => o = none ∧ H2 = H1) I1 ⟨rfl, rfl⟩) fun vl s2 ⟨l, H2, I2, pl, el, e2⟩ => ?_)
  subst el e2
  refine thn (po_none.run pins s2 σ H2 (fun o H3 => o = none ∧ H3 = H2) I2 ⟨rfl, rfl⟩) fun vu s3 ⟨u, H3, I3, pu, eu, e3⟩ => ?_
  subst eu e3
  refine thn (step.run pins s3 σ H3 (fun o H4 => o = some (-1) ∧ H4 = H3) I3 ⟨1, rfl, -1, rfl, rfl, rfl⟩) fun vs s4 ⟨o, H4, I4, ps, eo, e4⟩ => ?_
  subst eo e4
  cases pl
  cases pu
  cases ps with
  | int _ tk =>
    have I5 : L2.Inv X pins σ H4 { s4 with heap := s4.heap.push { cls := .type "slice", data := .fields #[.none, .none, .int (-1) tk] } } := I4.kept (t' := s4.toks) fun b ob q => Heap.get?_push_of_some _ q
    cases b with
    | false =>
      obtain ⟨its, r, ht, hz⟩ := I5.list oa.sqL
      refine tail_any (ops := [.ref a, .ref s4.heap.objs.size]) ht.isList.typeIs (PySem.slot_list_getitem.lookup) ?_ (by with_unfolding_all rfl)
      refine wpAny_getItem_list_slice ht.isList (Heap.IsSliceOf.new _ _ _ _) .none .none (.int _ _) (by decide) ?_ (by rw [List.size_toArray, ← r.length]; exact hz)
      rw [PySem.W.krv_pick]
      refine ⟨.ref _, _, I5.laid (t' := s4.toks) (o := .lst xs.reverse) (fun b ob q => Heap.get?_push_of_some _ q) (Nat.le_refl _) ?_, rfl, q _ (I5.hok.fresh (Nat.le_refl _))⟩
      exact ⟨by rw [List.length_reverse]; exact hz, _, 0, r.reverse, Heap.get?_push_size _ rfl⟩
    | true =>
      obtain ⟨its, r, ht, hz⟩ := I5.tuple oa.sqT
      refine tail_any (ops := [.ref a, .ref s4.heap.objs.size]) (show IsTup _ a its.toArray from ht).typeIs (slot_tuple_getitem.lookup) ?_ (by with_unfolding_all rfl)
      refine getItem_tuple_back ht (Heap.IsSliceOf.new _ _ _ _) (by rw [← r.length]; exact hz) ?_
      refine ⟨.ref _, _, I5.laid (t' := s4.toks) (o := .tup xs.reverse) (fun b ob q => Heap.get?_push_of_some _ q) (Nat.le_refl _) ?_, rfl, q _ (I5.hok.fresh (Nat.le_refl _))⟩
      exact ⟨by rw [List.length_reverse]; exact hz, _, r.reverse, IsTup.new _ _⟩

/-! tuple(list), tuple(range): new tuples of which the object is told -/
/-- the object is known and has no dict of its own -/
theorem inv_frz {pins : List (Addr × Obj)} {σ : L2.St} {H : Hp} {s : Shared} {h' : Heap} {xs : List V} {its : List Value} (I : L2.Inv X pins σ H s) (hk : ∀ b o, s.heap.get? b = some o → h'.get? b = some o) (hz : xs.length ≤ sizeLine) (rv : Vals xs its) (tk : Nat) :
    L2.Inv X pins σ (upd H h'.objs.size (.frz { cls := .type "tuple", data := .seq its.toArray } (.tup xs))) { s with heap := h'.push { cls := .type "tuple", data := .seq its.toArray }, toks := tk } := by
  have I1 : L2.Inv X pins σ H { s with heap := h', toks := tk } := I.kept hk
  refine I1.laid (t' := tk) (fun b o e => Heap.get?_push_of_some _ e) (Nat.le_refl _) ?_
  exact ⟨Heap.get?_push_size _ rfl, hz, its, rv, IsTup.new _ _⟩
def kTupF (x : V) (H : Hp) (Q : VK) : Prop := ∃ (b : Bool) (p : Addr) (xs : List V), x = .ref p ∧ OrdK b H p xs ∧ (b = true → Q (.ref p) H) ∧ (b = false → ∀ (q : Addr) (o : Obj), o.dict = none → H q = none → Q (.ref q) (upd H q (.frz o (.tup xs))))
theorem pe_tupF {a : Expr} {ta : TE} {p pos : Pos} (hg : Gl X "tuple") (hm : X.mg "tuple" = none) (ha : PE X a ta) (na : starEach [a] X.env = (false, eval a X.env) :: starEach [] X.env := by rfl) :
    PE X (.Call (.Name "tuple" p) [a] [] pos) (tThen ta kTupF) := by
  refine ⟨fun pins s σ H Q I h => ?_⟩
  refine Call_ (ld_blt I hg hm boot_tuple (PyProof.Rows.callWith_type1 (one_arg ha I h (fun v s2 x H2 I2 r q => ?_) na) na))
  obtain ⟨b, t, xs, rfl, oa, q1, q2⟩ := q
  obtain rfl : v = .ref t := r
  cases b with
  | true =>
    obtain ⟨its, rv, pl, hz⟩ := I2.tuple oa.sqT
    exact call_tuple_tup pl ⟨.ref t, H2, I2, rfl, q1 rfl⟩
  | false =>
    obtain ⟨its, rv, pl, hz⟩ := I2.list oa.sqL
    refine call_tuple_list pl.isList (fun h' hk => ?_) (by rw [List.size_toArray, ← rv.length]; exact hz)
    have I1 : L2.Inv X pins σ H2 { s2 with heap := h' } := I2.kept (t' := s2.toks) hk
    exact ⟨.ref h'.objs.size, _, inv_frz I2 hk hz rv s2.toks, rfl, q2 rfl _ _ rfl (I1.hok.fresh (Nat.le_refl _))⟩
def tTupRF (te : L2.St → Hp → (Int → Int → Hp → Prop) → Prop) : TE := fun σ H Q => te σ H fun a b H1 => RgOk a b ∧ ∀ (q : Addr) (o : Obj), o.dict = none → H1 q = none → Q (.ref q) (upd H1 q (.frz o (.tup (rgV a b))))
theorem pe_tupRF {e : Expr} {te : L2.St → Hp → (Int → Int → Hp → Prop) → Prop} {p pos : Pos} (hc : X.calm = true) (hg : Gl X "tuple") (hm : X.mg "tuple" = none) (he : PRg X e te) (na : starEach [e] X.env = (false, eval e X.env) :: starEach [] X.env := by rfl) : PE X (.Call (.Name "tuple" p) [e] [] pos) (tTupRF te) := by
  refine ⟨fun pins s σ H Q I h => ?_⟩
  refine Call_ (ld_blt I hg hm boot_tuple (PyProof.Rows.callWith_type1 (args_cons (thn (he pins s σ H _ I h) fun x s1 ⟨r, a, b, t, u, v, H1, ex, hr, I1, ok, q⟩ => args_nil ?_) na) na))
  subst ex
  obtain ⟨b1, b2, b3, b4, b5⟩ := ok
  refine call_tuple_range (n := (b - a).toNat) (I1.ok.hd hc) hr (small_one b1 b2 b3 b4) (rangeSize_nat a b) b5 fun h' tk acc hk hi => ?_
  have I2 : L2.Inv X pins σ H1 { s1 with heap := h', toks := tk } := I1.kept hk
  have z := inv_frz (xs := rgV a b) (its := acc.toList) I1 hk (by rw [rgV_length, sizeLine_eq]; omega) (vals_rg hi) tk
  rw [Array.toArray_toList] at z
  exact ⟨.ref h'.objs.size, _, z, rfl, q _ _ rfl (I2.hok.fresh (Nat.le_refl _))⟩
end
end Lb

set_option Elab.async false
set_option linter.all false
set_option maxRecDepth 100000
set_option maxHeartbeats 2000000
namespace Lb
open PySem PySem.Spec PyProof.Rows L2

/-! ### promises that are kept where no repr is under way -/
structure FnG (P : Program) (w : World) (K : PySem.W.Frag) (mg : Str → Option Value) (base : Heap) (k : Nat) (f : Addr) (fd : FuncData) (ps : List Str) (sp : Sp) : Prop where
  len : ∀ vs H Q E, sp vs H Q E → vs.length = ps.length
  run : ∀ (A : Around) (outer : List Env) (s : Shared) (H : Hp) (args : Args) (us : List Value) (vs : List V) (Q : VK) (E : XK), A.guards = some [] → Room k A → Env0 P w K mg base A outer s H → BindsTo s fd args (ps.zip us) → Vals vs us → sp vs H Q E →
    codeAny (model P w) A (.call (.ref f) args) (CR CX0 outer P w H s Q E) s

section
variable {P : Program} {w : World} {K : PySem.W.Frag} {mg : Str → Option Value} {base : Heap}
theorem okG {x qual : Str} {st : Stmt} {f : Addr} {fd : FuncData} {N ps : List Str} {k : Nat} {sp : Sp} (F : Fun K x qual st f fd) (S : FnScope N ps (defScope st)) (len : ∀ vs H Q E, sp vs H Q E → vs.length = ps.length)
    (body : ∀ (cdv : Value) (A : Around) (outer : List Env) (s : Shared) (H : Hp) (vs : List V) (Q : VK) (E : XK), A.guards = some [] → Room k (A.deeper (envOfC qual (defScope st) s.heap.objs.size f cdv)) → sp vs H Q E →
      ∃ t, PSs (cxOf CX0 P w K mg base N qual (defScope st) f cdv A outer s H E).nox (defBody st) t ∧ t { nx := fun _ H' => Q .non H', rt := Q } (start N vs) H) : FnG P w K mg base (k + 1) f fd ps sp := by
  obtain ⟨oc, od, kV, doc, pm, an, cdv, ct, osl, rfl, lk, hcd⟩ := F.ex
  refine ⟨len, fun A outer s H args us vs Q E hg hr e0 hb r hsp => ?_⟩
  have lenV := len _ _ _ _ hsp
  have old : ∀ b o, base.get? b = some o → s.heap.get? b = some o := fun b o e => (e0.bs b o e).1
  have kIn := e0.mod.kin.keeps old
  have params : ∀ y ∈ ps.zip us, (defScope st).names.lookup y.1 = some .local ∨ ((defScope st).names.lookup y.1 = some .cell ∧ ((cellsFrom (s.heap.objs.size + 1) (defScope st).names []).lookup y.1).isSome = true) := by
    rintro ⟨n, v⟩ hy
    rcases S.par n (List.of_mem_zip hy).1 with z | z
    · exact .inl z
    · exact .inr ⟨z, PySem.W.cellsFrom_some _ _ _ (.inl z)⟩
  refine codeAny_call_function hr.depth (kIn _ _ lk) rfl S.co S.gen rfl (PySem.W.codeRec_of kIn hcd) (hb _ _ _ _ (wpAny_newFunctionEnv_cells S.kind params fun env he s1 x => ?_))
  subst he
  obtain ⟨t, ht, hq⟩ := body cdv A outer s H vs Q E hg (hr.deeper _) hsp
  refine ⟨(e0.mod.nolimit.keeps old).keeps x.toInCall.keep, codeAny_func (wpAny_mono (ht.nox.run [] s1 (start N vs) H _ (inv_start S hr.hd e0 lenV r x) hq) (fun fl s' hs => ?_) fun _ _ z => z)⟩
  have done : ∀ {σ' : L2.St} {H' : Hp} {v : V} {u : Value}, L2.Inv (cxOf CX0 P w K mg base N qual (defScope st) f cdv A outer s H E) [] σ' H' s' → RelV v u → Q v H' → CE outer P w H s Q u s' := fun J rv q => ⟨_, _, J.os, J.bare, J.base, J.hok, rv, q⟩
  match fl, hs with
  | .ret u, ⟨v, σ', H', J, rv, q⟩ => exact done J rv q
  | .next, ⟨σ', H', J, q⟩ => exact done (v := .non) (u := .none) J rfl q
  | .brk, ⟨_, _, _, q⟩ => exact q.elim
  | .cont, ⟨_, _, _, q⟩ => exact q.elim
end

section
variable {X : Cx} {k : Nat} {f : Addr} {fd : FuncData} {ps ks : List Str} {sp : Sp} {x : Str} {p pos : Pos} {e : Expr} {es : List Expr} {t : TA}
/-- g(e, ..) of such a def -/
theorem pe_callG (F : FnG X.prog X.w X.K X.mg X.base k f fd ps sp) (hu : X.A.guards = some []) (hr : Room k X.A) (hg : Gl X x) (hm : X.mg x = some (.ref f)) (hk : PySem.W.keepIn X.K (.ref f) = true) (hb : Binds X.K fd ps [])
    (ha : PA X (e :: es) t) (hdb : (x == ("__debug__" : Str)) = false := by decide) (he : starEach (e :: es) X.env = (false, eval e X.env) :: starEach es X.env := by rfl) (hpl : (backTo pos (starEach es X.env)).any (·.1) = false := by rfl) :
    PE X (.Call (.Name x p) (e :: es) [] pos) (tCall sp [] E0 t) := by
  refine ⟨fun pins s σ H Q I h => wpAny_Call_Name_kw (ld_glob I hg hm ?_ hdb)⟩
  refine PySem.W.callWith_K (h₀ := X.base) I.ok.mod.kin hk (thn (ha.run pos pins s σ H _ I h) fun us s1 ⟨vs, H1, I1, r, q⟩ => ⟨I1.kIn, ?_⟩) he hpl
  have q' : sp vs H1 Q E0 := by
    have z : sp (vs ++ []) H1 Q E0 := q
    rw [List.append_nil] at z
    exact z
  have hl : (us ++ []).length = ps.length := by
    rw [List.append_nil, ← r.length]
    exact F.len _ _ _ _ q'
  have bd := hb s1 us I1.kIn hl
  rw [List.append_nil] at bd
  refine wpAny_call (codeAny_mono (F.run X.A X.stack s1 H1 ⟨us, []⟩ us vs Q E0 hu hr I1.env0 bd r q') fun z s' hq => ?_)
  match z, hq with
  | .ok (.ret u), hq => exact I1.after hq
/-- g(k = e, ..), keywords alone -/
theorem pe_callKW {CX : CXT} {E : XK} {kws : List Keyword} {tk : TA} {g : List Value → List Value → List Value} {gV : List V → List V → List V} (F : FnOk X.prog X.w X.K X.mg X.base CX k f fd ps sp) (hr : Room k X.A) (hg : Gl X x) (hm : X.mg x = some (.ref f)) (hk : PySem.W.keepIn X.K (.ref f) = true) (hb : KBinds X.K fd ps ks g gV) (hx : Passes CX X E)
    (hkw : PK X kws tk) (hall : (backToKw pos (keywordEach kws X.env)).all (·.1.isSome) = true := by rfl) (hks : (backToKw pos (keywordEach kws X.env)).filterMap (·.1) = ks := by rfl)
    (hdb : (x == ("__debug__" : Str)) = false := by decide) (hpl : ((backTo pos (starEach [] X.env)).any (·.1) || (backToKw pos (keywordEach kws X.env)).any (·.1.isNone)) = false := by rfl) :
    PE X (.Call (.Name x p) [] kws pos) (tCallK sp gV E tNil tk) := by
  refine ⟨fun pins s σ H Q I h => wpAny_Call_Name_kw (ld_glob I hg hm ?_ hdb)⟩
  refine PySem.W.callWith_KW0 (h₀ := X.base) I.ok.mod.kin hk hall (thn (hkw.run pos pins s σ H _ I h) fun ws s2 ⟨zs, H2, I2, rz, q2⟩ => ⟨I2.kIn, ?_⟩) hpl
  rw [hks]
  exact run_fnk F hr hb hx I2 .nil rz q2
end

/-! ### the end of a law that asks for reprs -/
/-- what is tracked at a law's entry: the tables of T, and (if t) the script at a, known as it is -/
def H0 (T : List Addr) (t : Bool) (a : Addr) (o : Obj) (xs : List V) : Hp := fun b => if b ∈ T then some (.tbl #[]) else if t = true ∧ b = a then some (.frz o (.lst xs)) else none
theorem H0_tab {T : List Addr} {t : Bool} {a : Addr} {o : Obj} {xs : List V} {b : Addr} (h : b ∈ T) : H0 T t a o xs b = some (.tbl #[]) := if_pos h
theorem H0_a {T : List Addr} {a : Addr} {o : Obj} {xs : List V} (h : a ∉ T) : H0 T true a o xs a = some (.frz o (.lst xs)) := (if_neg h).trans (if_pos ⟨rfl, rfl⟩)
theorem H0_some {T : List Addr} {t : Bool} {a : Addr} {o : Obj} {xs : List V} {b : Addr} {u : HO} (h : H0 T t a o xs b = some u) : (b ∈ T ∧ u = .tbl #[]) ∨ (t = true ∧ b = a ∧ u = .frz o (.lst xs)) := by
  unfold H0 at h
  by_cases h1 : b ∈ T
  · rw [if_pos h1] at h
    cases h
    exact .inl ⟨h1, rfl⟩
  · rw [if_neg h1] at h
    by_cases h2 : t = true ∧ b = a
    · rw [if_pos h2] at h
      cases h
      exact .inr ⟨h2.1, h2.2, rfl⟩
    · rw [if_neg h2] at h
      cases h

/-- the state at the entry of a law's call -/
structure Entry (P : Program) (w : World) (K : PySem.W.Frag) (mg mb : Str → Option Value) (cs : List (Addr × Addr)) (a : Addr) (vs : List Value) (ns : List Int) (s : Shared) : Prop where
  kin : K.In s.heap
  glob : s.heap.Ns mainGlobals mg
  blt : s.heap.Ns builtinsNs mb
  bltIs : ∀ x : Str, x ≠ "__name__" → mb x = bootBuiltins x
  lim : s.heap.NoLimit
  gens : s.gens = #[]
  tab : ∀ p ∈ cs, s.heap.get? p.2 = some { cls := .none, data := .fields #[] }
  tabK : ∀ p ∈ cs, K.lookup p.2 = none
  hd : ∀ p ∈ cs, PySem.W.CodeHd s.heap p.1 p.2
  bm : ∃ (bm : Addr) (ob : Obj), mg "__builtins__" = some (.ref bm) ∧ bm ≠ builtinsNs ∧ s.heap.get? bm = some ob ∧ ob.cls = .type "module" ∧ ob.dict = some builtinsNs ∧ ob.data = .plain
  scr : s.heap.get? a = some { cls := .type "list", data := .seq vs.toArray }
  isInt : IntsAre vs ns
  len : ns.length ≤ sizeLine

theorem law_callG {P : Program} {w : World} {K : PySem.W.Frag} {mg mb : Str → Option Value} {k : Nat} {fa a : Addr} {cs : List (Addr × Addr)} {fd : FuncData} {x : Str} {sp : Sp} {s₁ : Shared} {vs : List Value} {ns : List Int}
    (En : Entry P w K mg mb cs a vs ns s₁) (hr : Room k callerA)
    (F : ∀ base : Heap, K.In base → base.Ns mainGlobals mg → (∀ p ∈ cs, GxR.TabB base mg p.1 p.2) → FnG P w K mg base k fa fd [x] sp) (hb : ∀ (s : Shared) (u : Value), BindsTo s fd ⟨[u], []⟩ [(x, u)])
    (hsp : ∀ H : Hp, (∀ p ∈ cs, H p.2 = some (.tbl #[])) → SqL K H a (ns.map V.int) → sp [.ref a] H (fun v _ => v = .bl true) fun _ _ _ => False) :
    codeAny (model P w) callerA (.call (.ref fa) ⟨[.ref a], []⟩) (fun r s' => r = .ok (.ret (.bool true)) ∧ OldK s₁.heap s'.heap ∧ s'.os = s₁.os ∧ AllBare s'.gens) s₁ := by
  have rv := vals_ints En.isInt
  let T := cs.map (·.2)
  have tabT : ∀ b ∈ T, s₁.heap.get? b = some { cls := .none, data := .fields #[] } := fun b hbT => by
    obtain ⟨p, hp, e⟩ := List.mem_map.mp hbT
    rw [← e]
    exact En.tab p hp
  have tabN : ∀ b ∈ T, K.lookup b = none := fun b hbT => by
    obtain ⟨p, hp, e⟩ := List.mem_map.mp hbT
    rw [← e]
    exact En.tabK p hp
  have inT : ∀ p ∈ cs, p.2 ∈ T := fun p hp => List.mem_map.mpr ⟨p, hp, rfl⟩
  have aT : a ∉ T := fun z => by
    have q := tabT a z
    rw [En.scr] at q
    cases (congrArg Obj.data (Option.some.inj q) : Data.seq vs.toArray _ = Data.fields #[])
  have lenXs : (ns.map V.int).length ≤ sizeLine := by
    rw [List.length_map]
    exact En.len
  -- by whether the script is an object of the written part
  obtain ⟨t, ht, hS⟩ : ∃ t : Bool, (t = true → K.lookup a = none) ∧ SqL K (H0 T t a { cls := .type "list", data := .seq vs.toArray } (ns.map V.int)) a (ns.map V.int) := by
    cases hk : K.lookup a with
    | none => exact ⟨true, fun _ => rfl, .inl (.inr ⟨_, H0_a aT⟩)⟩
    | some o =>
      have e := En.kin a o hk
      rw [En.scr] at e
      cases e
      exact ⟨false, fun z => (nomatch z), .inr ⟨_, vs.toArray, _, hk, rfl, rfl, rfl, by rw [List.size_toArray, En.isInt.length]; exact En.len, by simpa using rv⟩⟩
  let H : Hp := H0 T t a { cls := .type "list", data := .seq vs.toArray } (ns.map V.int)
  have tabH : ∀ p ∈ cs, H p.2 = some (.tbl #[]) := fun p hp => H0_tab (inT p hp)
  have hok : HOk P w H s₁.heap := fun b u e => by
    rcases H0_some e with ⟨h1, rfl⟩ | ⟨_, rfl, rfl⟩
    · exact tabT b h1
    · exact ⟨En.scr, lenXs, vs, _, rv, En.scr⟩
  -- what is neither a table's nor the script's form is not tracked
  have free : ∀ {b : Addr} {o : Obj}, s₁.heap.get? b = some o → o.data ≠ .fields #[] → (∀ xs n, o.data ≠ .seq xs n) → H b = none := fun {b o} e h1 h2 => by
    cases q : H b with
    | none => rfl
    | some u =>
      rcases H0_some q with ⟨z, _⟩ | ⟨_, rfl, _⟩
      · rw [tabT b z] at e
        cases e
        exact absurd rfl h1
      · rw [En.scr] at e
        cases e
        exact absurd rfl (h2 _ _)
  have freeNs : ∀ {b : Addr} {m : Str → Option Value}, s₁.heap.Ns b m → (hidT s₁.heap H).Ns b m := fun {b m} ⟨o, es, ep, e, d, r⟩ => by
    refine ⟨o, es, ep, hidT_get e (free e (fun z => ?_) fun xs n z => ?_), d, r⟩ <;> (rw [d] at z; cases z)
  have kinB : K.In (hidT s₁.heap H) := fun b o e => hidT_get (En.kin b o e) (by
    cases q : H b with
    | none => rfl
    | some u =>
      rcases H0_some q with ⟨z, _⟩ | ⟨z, rfl, _⟩
      · rw [tabN b z] at e
        cases e
      · rw [ht z] at e
        cases e)
  have md : L2.Mod K mg (hidT s₁.heap H) := ⟨kinB, freeNs En.glob, ⟨mb, freeNs En.blt, En.bltIs⟩, let ⟨mc, h1, h2⟩ := En.lim; ⟨mc, freeNs h1, h2⟩⟩
  have notTab : ∀ {b p : Addr} {m : Str → Option Value}, p ∈ T → s₁.heap.Ns b m → b ≠ p := fun {b p m} hp ⟨o, es, ep, e, d, _⟩ z => by
    rw [z, tabT p hp] at e
    cases e
    cases d
  have tb : ∀ p ∈ cs, GxR.TabB (hidT s₁.heap H) mg p.1 p.2 := fun p hp => by
    obtain ⟨bm, ob, b1, b2, b3, b4, b5, b6⟩ := En.bm
    refine ⟨?_, ⟨bm, ob, b1, b2, fun q => ?_, fun q => ?_, hidT_get b3 (free b3 (fun z => ?_) fun xs n z => ?_), b4, b5, b6⟩, notTab (inT p hp) En.glob⟩
    · obtain ⟨o, us, file, tf, flags, tg, inF, text, tt, e1, r1, r2, r3, rest⟩ := En.hd p hp
      refine ⟨o, us, file, tf, flags, tg, inF, text, tt, hidT_get e1 (free e1 (fun z => ?_) fun xs n z => ?_), r1, r2, r3, rest⟩
      · rw [r2] at z
        cases z
        simp at r3
      · rw [r2] at z
        cases z
    · obtain ⟨o, es, ep, e, d, _⟩ := En.glob
      rw [q, e] at b3
      cases b3
      rw [d] at b6
      cases b6
    · rw [q, En.tab p hp] at b3
      cases b3
      cases b6
    · rw [b6] at z
      cases z
    · rw [b6] at z
      cases z
  have e0 : Env0 P w K mg (hidT s₁.heap H) callerA [] s₁ H := ⟨rfl, md, fun b o e => of_hidT e, Nat.le_of_eq (hidT_size _ _), trivial, fun b z => absurd (show b ∈ ([] : List Addr) from z) List.not_mem_nil, hok, .of_eq En.gens⟩
  refine codeAny_mono ((F _ kinB (freeNs En.glob) tb).run callerA [] s₁ H ⟨[.ref a], []⟩ [.ref a] [.ref a] _ _ rfl hr e0 (hb s₁ (.ref a)) (.cons rfl .nil) (hsp H tabH hS)) fun z s' hq => ?_
  match z, hq with
  | .ok (.ret u), ⟨v, H', os, bare, un, hok', ru, qv⟩ =>
    have qv' : v = .bl true := qv
    subst qv'
    have eu : u = .bool true := ru
    subst eu
    have nofr : ∀ b : Addr, b ∉ frs ([] : List Env) := fun b z => absurd (show b ∈ ([] : List Addr) from z) List.not_mem_nil
    have grown : ∀ p ∈ cs, ∃ more : Array Value, s'.heap.get? p.2 = some { cls := .none, data := .fields more } := fun p hp => by
      obtain ⟨more, e⟩ := un.tbls p.2 #[] (tabH p hp)
      exact ⟨_, hok' p.2 _ e⟩
    have kept : ∀ b o, b ∉ T → s₁.heap.get? b = some o → s'.heap.get? b = some o := fun b o nb e => by
      cases q : H b with
      | none => exact un.keep b o e q (nofr b) List.not_mem_nil
      | some u =>
        rcases H0_some q with ⟨z, _⟩ | ⟨_, rfl, rfl⟩
        · exact absurd z nb
        · rw [En.scr] at e
          cases e
          exact (hok' b _ (un.frzs b _ _ q)).1
    refine ⟨rfl, ⟨fun b o e => ?_, fun b o e => ?_⟩, os, bare⟩
    · by_cases hbT : b ∈ T
      · obtain ⟨p, hp, rfl⟩ := List.mem_map.mp hbT
        obtain ⟨more, hm⟩ := grown p hp
        have e' := En.tab p hp
        rw [e'] at e
        cases e
        exact .inr (.inl ⟨((En.hd p hp).tab e').isCodeTable, rfl, #[], more, rfl, by rw [Array.empty_append]; exact hm⟩)
      · exact .inl (kept b o hbT e)
    · by_cases hbT : b ∈ T
      · obtain ⟨p, hp, rfl⟩ := List.mem_map.mp hbT
        obtain ⟨more, hm⟩ := grown p hp
        exact ⟨_, hm⟩
      · exact ⟨o, kept b o hbT e⟩

/-- what is to be known of a law's def at the head's end; Tb: the tables of the defs of the view -/
def LawG (l : PySem.W.OpenLaw) (w : World) (K : PySem.W.Frag) (k n : Nat) (x : Str) (mg : Str → Option Value) (fa : Addr) (h : Heap) : Prop :=
  ∃ (fd : FuncData) (cs : List (Addr × Addr)) (sp : Sp), (∀ p ∈ cs, h.get? p.2 = some { cls := .none, data := .fields #[] }) ∧ (∀ p ∈ cs, K.lookup p.2 = none) ∧ (∀ p ∈ cs, PySem.W.CodeHd h p.1 p.2) ∧ (∀ (s : Shared) (u : Value), BindsTo s fd ⟨[u], []⟩ [(x, u)]) ∧
    (∀ (H : Hp) (a : Addr) (ns : List Int), ns.length ≤ n → (∀ z ∈ ns, Builtin.Int.intBits z ≤ 1048576) → (∀ p ∈ cs, H p.2 = some (.tbl #[])) → SqL K H a (ns.map V.int) → sp [.ref a] H (fun v _ => v = .bl true) fun _ _ _ => False) ∧
    ∀ base : Heap, K.In base → base.Ns mainGlobals mg → (∀ p ∈ cs, GxR.TabB base mg p.1 p.2) → FnG l.prog w K mg base k fa fd [x] sp
theorem walkG {l : PySem.W.OpenLaw} {n k : Nat} {q : Program} {loose : List Str} {XP : (Str → Option Value) → Heap → Prop} {YP : World → Heap → Prop} {d : DefRec} {K : Params → PySem.W.Frag} {x : Str}
    (hn : l.most = some n) (hn2 : n ≤ sizeLine) (hdf : d.params.defaults = []) (hr : Room k callerA) (hY : ∀ (w : World) (h : Heap), YP w h → (K w.params).In h)
    (F : ∀ (w : World) (mg : Str → Option Value) (fa : Addr) (h : Heap), (K w.params).In h → h.Ns mainGlobals mg → mg d.name = some (.ref fa) →
      (∀ (y : Str) (dr : DefRec) (c P : Addr), (recsOf q).find? (fun e => e.name == y) = some dr → PySem.W.tabIn (K w.params) y = some (c, P) → PySem.W.CodeHd h c P ∧ h.get? P = some { cls := .none, data := .fields #[] }) → LawG l w (K w.params) k n x mg fa h) :
    PySem.W.WalkO q loose XP YP l.row.toRowW d [] (fun f vs => PySem.call f vs) := by
  refine Att.attach_callB hn hdf fun w s₀ s₁ mg mb fa o pm cd doc a vs ns G Y ho hd hcd hmg hobj hints hlen hbits hg => ?_
  have kin := hY w _ Y
  obtain ⟨fd, cs, sp, h1, h2, h3, hb, hsp, hF⟩ := F w mg fa _ kin G.T.g hmg fun y dr c P e1 e2 => PySem.W.tab_of G.T kin e1 e2
  exact law_callG ⟨kin, G.T.g, G.T.b, G.T.builtins, G.T.nolimit, hg, h1, h2, h3, G.T.bmain, hobj, hints, Nat.le_trans hlen hn2⟩ hr hF hb fun H hH hS => hsp H a ns hlen hbits hH hS
end Lb

set_option Elab.async false
set_option linter.all false
set_option maxRecDepth 100000
set_option maxHeartbeats 2000000
namespace Lb
open PySem PySem.Spec PyProof.Rows L2

/-! ### small data: depth at most n, text at most m signs -/
structure Nice (n m : Nat) (d : PyData) : Prop where
  dep : d.depth ≤ n
  lay : d.canLay0 = true
  shw : d.showable = true
  txt : d.shown.length ≤ m
theorem Nice.mono {n m n' m' : Nat} {d : PyData} (h : Nice n m d) (h1 : n ≤ n') (h2 : m ≤ m') : Nice n' m' d := ⟨Nat.le_trans h.dep h1, h.lay, h.shw, Nat.le_trans h.txt h2⟩
theorem Nice.shaped {n m : Nat} {d : PyData} (h : Nice n m d) (hn : n ≤ 64) : SeqAt.shaped d = true := by
  unfold SeqAt.shaped
  rw [h.lay, decide_eq_true (Nat.le_trans h.dep hn)]
  rfl
theorem Nice.refl {n m : Nat} {d : PyData} (h : Nice n m d) : PyData.eqv d d = true := PySem.SeqAt.eqv_refl_plain d (PyData.plain_of_canLay0 d h.lay)
theorem Nice.noDict {n m : Nat} {d : PyData} (h : Nice n m d) : d.hasDict = false := PyData.hasDict_of_canLay d h.lay
theorem small_text : ∀ k : Fin 100, ((toString ((k.val : Nat) : Int) : String) : Str).length ≤ 2 := by decide +kernel
theorem nice_int {k : Nat} (h : k < 100) : Nice 0 2 (.int (k : Int)) := by
  refine ⟨Nat.le_refl _, rfl, ?_, small_text ⟨k, h⟩⟩
  show decide (((k : Int)).natAbs.log2 < 1920) = true
  refine decide_eq_true ?_
  rw [Int.natAbs_natCast]
  by_cases h0 : k = 0
  · subst h0
    decide
  · have := (Nat.log2_lt h0 (k := 1920)).mpr (Nat.lt_of_lt_of_le h (Nat.le_trans (by decide : 100 ≤ 2 ^ 7) (Nat.pow_le_pow_right (by decide) (by decide))))
    exact this
theorem textFrom_le : ∀ (ts : List Str) (k : Nat) (acc : Str), (textFrom k acc ts).length ≤ acc.length + piled ts
  | [], k, acc => Nat.le_refl _
  | t :: r, k, acc => by
    have h := textFrom_le r (k + 1) (acc ++ (if k > 0 then ", " else "" : String) ++ t)
    have e : (acc ++ (if k > 0 then ", " else "" : String) ++ t : Str).length ≤ acc.length + 2 + t.length := by
      rw [strLen_append, strLen_append]
      split
      · exact Nat.le_refl _
      · show acc.length + 0 + t.length ≤ _
        omega
    rw [piled_cons]
    exact Nat.le_trans h (by omega)
theorem piled_bound {m : Nat} : ∀ ts : List Str, (∀ t ∈ ts, t.length ≤ m) → piled ts ≤ (m + 2) * ts.length
  | [], _ => Nat.le_refl _
  | t :: r, h => by
    rw [piled_cons, List.length_cons, Nat.mul_add]
    have h1 := h t (.head _)
    have h2 := piled_bound r fun x hx => h x (.tail _ hx)
    omega
theorem shownAll_map : ∀ ds : List PyData, PyData.shownAll ds = ds.map PyData.shown
  | [] => by rw [PyData.shownAll]; rfl
  | d :: r => by rw [PyData.shownAll, shownAll_map r]; rfl
theorem all_nice {n m : Nat} : ∀ ds : List PyData, (∀ d ∈ ds, Nice n m d) → PyData.depthAll ds ≤ n ∧ PyData.canLayAll0 ds = true ∧ PyData.showableAll ds = true
  | [], _ => ⟨by rw [PyData.depthAll]; exact Nat.zero_le _, by rw [PyData.canLayAll0], by rw [PyData.showableAll]⟩
  | d :: r, h => by
    have h1 := h d (.head _)
    obtain ⟨a, b, c⟩ := all_nice r fun x hx => h x (.tail _ hx)
    refine ⟨?_, ?_, ?_⟩
    · rw [PyData.depthAll]
      exact Nat.max_le.mpr ⟨h1.dep, a⟩
    · rw [PyData.canLayAll0, h1.lay, b]
      rfl
    · rw [PyData.showableAll, h1.shw, c]
      rfl
theorem shown_pile {n m : Nat} {ds : List PyData} (h : ∀ d ∈ ds, Nice n m d) : piled (PyData.shownAll ds) ≤ (m + 2) * ds.length := by
  have z := piled_bound (m := m) (PyData.shownAll ds) (by
    rw [shownAll_map]
    intro t ht
    obtain ⟨d, hd, rfl⟩ := List.mem_map.mp ht
    exact (h d hd).txt)
  rw [shownAll_map, List.length_map] at z
  rw [shownAll_map]
  exact z
theorem nice_list {n m : Nat} {ds : List PyData} (h : ∀ d ∈ ds, Nice n m d) : Nice (n + 1) ((m + 2) * ds.length + 4) (.list ds) := by
  obtain ⟨a, b, c⟩ := all_nice ds h
  refine ⟨?_, ?_, ?_, ?_⟩
  · rw [PyData.depth]
    omega
  · rw [PyData.canLay0]
    exact b
  · rw [PyData.showable]
    exact c
  · rw [PyData.shown]
    unfold listText
    rw [strLen_append]
    have z := textFrom_le (PyData.shownAll ds) 0 "["
    have z2 := shown_pile h
    have e1 : (("[" : String) : Str).length = 1 := rfl
    have e2 : (("]" : String) : Str).length = 1 := rfl
    omega
theorem nice_tup {n m : Nat} {ds : List PyData} (h : ∀ d ∈ ds, Nice n m d) : Nice (n + 1) ((m + 2) * ds.length + 4) (.tuple ds) := by
  obtain ⟨a, b, c⟩ := all_nice ds h
  refine ⟨?_, ?_, ?_, ?_⟩
  · rw [PyData.depth]
    omega
  · rw [PyData.canLay0]
    exact b
  · rw [PyData.showable]
    exact c
  · rw [PyData.shown]
    unfold tupleText
    rw [strLen_append, strLen_append]
    have z2 := shown_pile h
    have e1 : (("(" : String) : Str).length = 1 := rfl
    have e3 : ((if ((PyData.shownAll ds).length == 1) = true then (",)" : String) else ")" : String) : Str).length ≤ 2 := by split <;> decide
    have z : (Str.join ", " (PyData.shownAll ds)).length ≤ piled (PyData.shownAll ds) := by
      by_cases e : PyData.shownAll ds = []
      · rw [e]
        decide
      · have := join_length_add _ e
        omega
    omega

/-! ### orders as data -/
def dl (o : List Nat) : List PyData := o.map fun k : Nat => PyData.int (k : Int)
theorem nice_ord {o : List Nat} (h : ∀ k ∈ o, k < 100) (hl : o.length ≤ 100) : Nice 1 404 (.list (dl o)) ∧ Nice 1 404 (.tuple (dl o)) := by
  have z : ∀ d ∈ dl o, Nice 0 2 d := fun d hd => by
    obtain ⟨k, hk, rfl⟩ := List.mem_map.mp hd
    exact nice_int (h k hk)
  have e : (dl o).length = o.length := List.length_map _
  exact ⟨(nice_list z).mono (Nat.le_refl _) (by rw [e]; omega), (nice_tup z).mono (Nat.le_refl _) (by rw [e]; omega)⟩
end Lb

set_option Elab.async false
set_option linter.all false
set_option maxRecDepth 100000
set_option maxHeartbeats 2000000
namespace Lb
open PySem PySem.Spec PyProof.Rows L2

/-! ### orders as lists of whole numbers -/
def vl (o : List Nat) : List V := (o.map fun k : Nat => (k : Int)).map V.int
theorem vl_len (o : List Nat) : (vl o).length = o.length := by unfold vl; rw [List.length_map, List.length_map]
theorem vl_get {o : List Nat} {i k : Nat} (h : o[i]? = some k) : (vl o)[i]? = some (.int (k : Int)) := by
  unfold vl
  rw [List.getElem?_map, List.getElem?_map, h]
  rfl
theorem rg_vl (n : Nat) : rgV 1 ((n : Int) + 1) = vl (List.range' 1 n) := by
  unfold rgV vl
  rw [show ((n : Int) + 1 - 1).toNat = n by omega, List.range'_eq_map_range, List.map_map, List.map_map]
  apply List.map_congr_left
  intro k _
  show V.int (1 + (k : Int)) = V.int (((1 + k : Nat)) : Int)
  rw [show ((1 + k : Nat) : Int) = 1 + (k : Int) by omega]
structure IsOrd (o : List Nat) : Prop where
  lo : 1 ≤ o.length
  hi : o.length ≤ 9
  perm : o.Perm (List.range' 1 o.length)

theorem dp_vl {K : PySem.W.Frag} {H : Hp} : ∀ o : List Nat, DpAll K H (vl o) (dl o)
  | [] => .nil
  | k :: r => .cons (.int _) (dp_vl r)
theorem IsOrd.small {o : List Nat} (h : IsOrd o) : ∀ k ∈ o, 1 ≤ k ∧ k ≤ o.length := fun k hk => by
  have z := (h.perm.mem_iff (a := k)).mp hk
  obtain ⟨i, hi, e⟩ := List.mem_range'.mp z
  omega
theorem IsOrd.nice {o : List Nat} (h : IsOrd o) : Nice 1 404 (.list (dl o)) ∧ Nice 1 404 (.tuple (dl o)) := nice_ord (fun k hk => by have := h.small k hk; have := h.hi; omega) (by have := h.hi; omega)
/-- the code tables of the defs that make generators -/
def Tabs (H : Hp) (T : Addr → Prop) : Prop := ∀ t, T t → GxR.TabG H t
theorem Tabs.put {T : Addr → Prop} {H : Hp} {p : Addr} {o : HO} (h : Tabs H T) (n : ¬ T p) : Tabs (upd H p o) T := fun t ht => by
  obtain ⟨ps, e, q⟩ := h t ht
  have ne : p ≠ t := fun z => n (by rw [z]; exact ht)
  exact ⟨ps, by rw [upd_ne ne.symm]; exact e, q⟩
def Go (T : Addr → Prop) (H H' : Hp) : Prop := Tabs H' T ∧ ∀ b u, ¬ T b → H b = some u → H' b = some u
theorem Go.refl {T : Addr → Prop} {H : Hp} (h : Tabs H T) : Go T H H := ⟨h, fun _ _ _ e => e⟩
theorem Go.trans {T : Addr → Prop} {H H1 H2 : Hp} (a : Go T H H1) (b : Go T H1 H2) : Go T H H2 := ⟨b.1, fun c u n e => b.2 c u n (a.2 c u n e)⟩
theorem Go.tabbed {T : Addr → Prop} {t : Addr} {H H' : Hp} (ht : T t) (h0 : Tabs H T) (h : GxR.Tabbed t H H') : Go T H H' := by
  refine ⟨fun x hx => ?_, fun b u n e => by rw [h.2 b fun z => n (by rw [z]; exact ht)]; exact e⟩
  by_cases e : x = t
  · rw [e]
    exact h.1
  · obtain ⟨ps, e2, q⟩ := h0 x hx
    exact ⟨ps, by rw [h.2 x e]; exact e2, q⟩
theorem tab_ne {T : Addr → Prop} {p : Addr} {H : Hp} (h : Tabs H T) (n : H p = none) : ¬ T p := fun z => by
  obtain ⟨ps, e, _⟩ := h p z
  rw [e] at n
  cases n
theorem Go.new {T : Addr → Prop} {p : Addr} {H : Hp} {o : HO} (h : Tabs H T) (n : H p = none) : Go T H (upd H p o) :=
  ⟨h.put (tab_ne h n), fun b u _ e => by
    rw [upd_ne (ne_of_none e n)]
    exact e⟩
theorem Go.free {T : Addr → Prop} {p : Addr} {H H' : Hp} (g : Go T H H') (n : H' p = none) : H p = none := by
  cases e : H p with
  | none => rfl
  | some u =>
    have := g.2 p u (tab_ne g.1 n) e
    rw [n] at this
    cases this
theorem ne_tab {T : Addr → Prop} {a : Addr} {H : Hp} {u : HO} (h : Tabs H T) (e : H a = some u) (nu : ∀ ps, u ≠ .tbl ps) : ¬ T a := fun z => by
  obtain ⟨ps, e2, _⟩ := h a z
  rw [e2] at e
  cases e
  exact nu ps rfl
theorem Go.ord {T : Addr → Prop} {a : Addr} {H H' : Hp} {b : Bool} {xs : List V} (g : Go T H H') (t : Tabs H T) (h : OrdK b H a xs) : OrdK b H' a xs := by
  cases b with
  | false => exact g.2 a _ (ne_tab t h fun _ z => by cases z) h
  | true =>
    obtain ⟨o, d, h⟩ := h
    exact ⟨o, d, g.2 a _ (ne_tab t h fun _ z => by cases z) h⟩
theorem Go.seqL {K : PySem.W.Frag} {T : Addr → Prop} {a : Addr} {H H' : Hp} {xs : List V} (g : Go T H H') (t : Tabs H T) (h : SqL K H a xs) : SqL K H' a xs := by
  rcases h with (h | ⟨o, h⟩) | h
  · exact .inl (.inl (g.2 a _ (ne_tab t h fun _ z => by cases z) h))
  · exact .inl (.inr ⟨o, g.2 a _ (ne_tab t h fun _ z => by cases z) h⟩)
  · exact .inr h
theorem Go.seqT {K : PySem.W.Frag} {T : Addr → Prop} {a : Addr} {H H' : Hp} {xs : List V} (g : Go T H H') (t : Tabs H T) (h : SqT K H a xs) : SqT K H' a xs := by
  rcases h with (h | ⟨o, h⟩) | h
  · exact .inl (.inl (g.2 a _ (ne_tab t h fun _ z => by cases z) h))
  · exact .inl (.inr ⟨o, g.2 a _ (ne_tab t h fun _ z => by cases z) h⟩)
  · exact .inr h
theorem Go.lt {K : PySem.W.Frag} {T : Addr → Prop} {a : Addr} {H H' : Hp} {xs : List V} (g : Go T H H') (t : Tabs H T) (h : SeqLT K H a xs) : SeqLT K H' a xs := h.imp (g.seqL t) (g.seqT t)

/-! ### the text -/
def topS (i : Nat) : Stmt := PySem.Challenge.pw_lowerboards_k42_whole_put_in_and_taken_o.main.body.getD i (.Pass ⟨0, 0, 0, 0⟩)
abbrev s_is_integer : Stmt := topS 2
abbrev s_is_order : Stmt := topS 3
theorem sc_is_order : FnScope ["value"] ["value"] (defScope s_is_order) := ⟨rfl, rfl, rfl, by decide +kernel, rfl, by decide +kernel, by decide +kernel⟩

section
variable {P : Program} {w : World} {K : PySem.W.Frag} {mg : Str → Option Value} {base : Heap} {T : Addr → Prop}

/-- what of the built-ins the program leaves as it is -/
structure Bl (mg : Str → Option Value) : Prop where
  isinstance : mg "isinstance" = none
  int : mg "int" = none
  bool : mg "bool" = none
  list : mg "list" = none
  tuple : mg "tuple" = none
  len : mg "len" = none
  all : mg "all" = none
  sorted : mg "sorted" = none
  range : mg "range" = none

/-- is_integer of an int, at the library's level -/
theorem isint_call {fI : Addr} {fdI : FuncData} (FI : Fun K "is_integer" "is_integer" s_is_integer fI fdI) (B : Bl mg) (M : L2.Mod K mg base) {A : Around} {R : Result → Shared → Prop} {s : Shared} {i : Int} {t : Tok} (hd : A.depth < recursionLimit) (hk : ∀ b o, base.get? b = some o → s.heap.get? b = some o)
    (h : ∀ s', PySem.Keeps s s' → R (.ok (.ret (.bool true))) s') : codeAny (model P w) A (.call (.ref fI) ⟨[.int i t], []⟩) R s := by
  obtain ⟨oc, od, kV, doc, pm, an, cdv, ct, osl, rfl, lk, hcd⟩ := FI.ex
  refine Att.call_fn (binds := [("value", .int i t)]) (M.kin.keeps hk) (M.nolimit.keeps hk) lk hcd hd (BindsTo.of_eq (by first | rfl | with_unfolding_all rfl)) (by first | rfl | decide | with_unfolding_all rfl) (fun s₁ IC => ?_) rfl rfl rfl
  obtain ⟨h₁, tk₁, rfl⟩ := IC.toInCall.same
  have k1 : ∀ b o, s.heap.get? b = some o → h₁.get? b = some o := IC.toInCall.keep
  have hn := IC.toInCall.ns
  have kb : ∀ b o, base.get? b = some o → h₁.get? b = some o := fun b o e => k1 b o (hk b o e)
  obtain ⟨mb, n1, n2⟩ := M.blt
  have isi : ∀ {tp : String} {b : Bool} {p1 p2 p3 p4 : Pos} {x : Str} {tk : Nat} {E' : Value → Shared → Prop} {Q : Value → Shared → Prop} (_ : mg x = none) (_ : bootBuiltins x = some (.type tp)) (_ : x ≠ "__name__") (_ : (x == ("__debug__" : Str)) = false)
      (_ : (envOfC "is_integer" (defScope s_is_integer) s.heap.objs.size fI cdv).kindOf x = some .globalImplicit) (_ : PySem.W.kitOne K (.type "int") (.type tp) = some b) (_ : ∀ tk', Q (.bool b) ⟨h₁, s.gens, s.drawn, tk', s.os⟩),
      wpAny (model P w) (A.deeper (envOfC "is_integer" (defScope s_is_integer) s.heap.objs.size fI cdv)) (eval (.Call (.Name "isinstance" p1) [.Name "value" p2, .Name x p3] [] p4) (envOfC "is_integer" (defScope s_is_integer) s.heap.objs.size fI cdv)) Q E' ⟨h₁, s.gens, s.drawn, tk, s.os⟩ := by
    intro tp b p1 p2 p3 p4 x tk E' Q m1 m2 m3 m4 m5 m6 q
    refine wpAny_Call_Name_kw (Calls.Name_function_global rfl (by rfl) (Calls.loadGlobal_builtin (M.glob.keeps kb) B.isinstance (n1.keeps kb) ((n2 _ (by decide)).trans (by decide +kernel : bootBuiltins "isinstance" = some (.builtin "isinstance"))) ?_) (by decide))
    refine PyProof.Rows.callWith_builtin1 ?_ (by rfl) (by rfl)
    show wpAny _ _ (spliced ((false, eval (.Name "value" p2) _) :: (false, eval (.Name x p3) _) :: [])) _ _ _
    refine Calls.spliced_cons (wpAny_Name (wpAny_loadName_local (v := .int i t) rfl (by rfl) hn (by rfl) (Calls.spliced_cons (Calls.Name_function_global rfl m5 (Calls.loadGlobal_builtin (M.glob.keeps kb) m1 (n1.keeps kb) ((n2 _ m3).trans m2) (Calls.spliced_nil ?_)) m4))) (by decide))
    exact PySem.W.kia_one (PySem.W.kitx_int) (M.kin.keeps kb) True.intro m6 (fun z => nomatch z) q
  refine wpAny_execs_cons (wpAny_Return_some ?_)
  refine BoolOp_and (isi (tp := "int") B.int (by decide +kernel) (by decide) (by decide) (by rfl) (kit_ty (r := true) (by decide +kernel)) fun tk => ?_)
  refine wpAny_truthy_bool ?_
  refine BoolOp_one (UnaryOp_ (isi (tp := "bool") B.bool (by decide +kernel) (by decide) (by decide) (by rfl) (kit_ty (r := false) (by decide +kernel)) fun tk => ?_))
  exact not_of (wpAny_truthy_bool (h _ ⟨h₁, tk, rfl, k1⟩))
/-- the elements of is_order's generator -/
theorem elt_isint {X : Cx} {fI : Addr} {fdI : FuncData} {scope : Scope} {p1 p2 p3 : Pos} {k : Nat} (FI : Fun X.K "is_integer" "is_integer" s_is_integer fI fdI) (B : Bl X.mg) (gI : X.mg "is_integer" = some (.ref fI)) (hr : Room k X.A)
    (hk : scope.kind = .function) (h1 : scope.names.lookup ("is_integer" : Str) = some .globalImplicit) (h2 : scope.names.lookup ("thing" : Str) = some .local) :
    EltD X scope "thing" (.Call (.Name "is_integer" p1) [.Name "thing" p2] [] p3) (fun v => ∃ i, v = .int i) (fun _ => true) := by
  rintro cenv A' E' v u s₂ m₂ M rv ⟨i, rfl⟩ hA hD hU hsc hgl hbl hb hn hm
  obtain ⟨t, rfl⟩ := rv
  have kd : cenv.scope.kind = .function := by rw [hsc]; exact hk
  have kI : cenv.kindOf "is_integer" = some .globalImplicit := by show cenv.scope.names.lookup _ = _; rw [hsc]; exact h1
  have kT : cenv.kindOf "thing" = some .local := by show cenv.scope.names.lookup _ = _; rw [hsc]; exact h2
  refine wpAny_Call_Name_kw (Calls.Name_function_global kd kI (Calls.loadGlobal_global (by rw [hgl]; exact M.glob.keeps hb) gI ?_) (by decide))
  refine PySem.W.callWith_K (h₀ := X.base) M.kin FI.kp ?_ (by rfl) (by rfl)
  show wpAny _ _ (spliced ((false, eval (.Name "thing" p2) cenv) :: [])) _ _ _
  refine Calls.spliced_cons (wpAny_Name (wpAny_loadName_local kd kT hn hm (Calls.spliced_nil ⟨M.kin.keeps hb, ?_⟩)) (by decide))
  refine wpAny_call (isint_call FI B M (by have := hr.dp; omega) hb fun s' hs => ⟨rfl, hs⟩)

theorem gens_of {env : Env} {scope : Scope} {x : Str} (h1 : scope.kind = .function) (h2 : scope.isCoroutine = false) (h3 : ∀ y ∈ scope.names, y.2 ≠ .cell ∧ y.2 ≠ .free) (h4 : scope.names.lookup (".0" : Str) = some NameKind.local) (h5 : scope.names.lookup x = some .local) : GxR.GenS env scope x :=
  ⟨h1, h2, fun y hy => (h3 y hy).1, h4, h5, fun y hy e => absurd e (h3 y hy).2⟩
theorem ty_seq {H : Hp} {a : Addr} {xs : List V} (h : SeqLT K H a xs) : ∃ t, TyX K H (.ref a) t ∧ PySem.W.kitAny K t [.type "list", .type "tuple"] = some true := by
  have kl : PySem.W.kitAny K (.type "list") [.type "list", .type "tuple"] = some true := kitAny_cons (b := true) (kit_ty (by decide +kernel)) (fun z => nomatch z) fun _ => rfl
  have kt : PySem.W.kitAny K (.type "tuple") [.type "list", .type "tuple"] = some true := kitAny_cons (b := false) (kit_ty (by decide +kernel)) (fun _ => kitAny_cons (b := true) (kit_ty (by decide +kernel)) (fun z => nomatch z) fun _ => rfl) fun z => nomatch z
  rcases h with h | h
  · rcases h with (h | ⟨o, h⟩) | ⟨o, _, _, h, hc, _⟩
    · exact ⟨_, .base (.lst h), kl⟩
    · exact ⟨_, .base (.frz h), kl⟩
    · exact ⟨_, .kList h hc, kl⟩
  · rcases h with (h | ⟨o, h⟩) | ⟨o, _, _, h, hc, _⟩
    · exact ⟨_, .base (.tup h), kt⟩
    · exact ⟨_, .fTuple h, kt⟩
    · exact ⟨_, .kTuple h hc, kt⟩
theorem lenV_seq {H : Hp} {a : Addr} {xs : List V} (h : SeqLT K H a xs) : LenV K (.ref a) H xs.length := by
  rcases h with h | h
  · exact .inl ⟨_, h, rfl⟩
  · exact .inr ⟨_, h, rfl⟩
def spIsOrder (K : PySem.W.Frag) (T : Addr → Prop) : Sp := fun vs H Q _ => ∃ (a : Addr) (o : List Nat), vs = [.ref a] ∧ SeqLT K H a (vl o) ∧ IsOrd o ∧ Tabs H T ∧ ∀ H', Go T H H' → Q (.bl true) H'
theorem sorted_is {o : List Nat} (h : IsOrd o) {ns : List Int} (hp : ns.Perm (o.map fun k : Nat => (k : Int))) (hs : ns.Pairwise (· ≤ ·)) : ns.map V.int = rgV 1 ((o.length : Int) + 1) := by
  have e : ns = (List.range' 1 o.length).map fun k : Nat => (k : Int) := by
    refine List.Perm.eq_of_pairwise (le := (· ≤ ·)) (fun a b _ _ h1 h2 => Int.le_antisymm h1 h2) hs ?_ (hp.trans (h.perm.map _))
    rw [List.pairwise_map]
    exact (List.pairwise_lt_range' (s := 1) (n := o.length) (step := 1)).imp fun h => by omega
  rw [e]
  unfold rgV
  have e2 : ((o.length : Int) + 1 - 1).toNat = o.length := by omega
  rw [e2, List.range'_eq_map_range, List.map_map, List.map_map]
  apply List.map_congr_left
  intro k _
  show V.int (((1 + k : Nat)) : Int) = V.int (1 + (k : Int))
  congr 1
theorem ok_is_order {f fI c : Addr} {fd fdI : FuncData} {tN : Tok} (F : Fun K "is_order" "is_order" s_is_order f fd) (hc : fd.code = .ref c) {t1 : Addr} (hT1 : T t1) (TB : GxR.TabB base mg c t1) (FI : Fun K "is_integer" "is_integer" s_is_integer fI fdI) (gI : mg "is_integer" = some (.ref fI)) (B : Bl mg) (mN : mg "MOST_THINGS" = some (.int 9 tN)) :
    FnOk P w K mg base CX0 2 f fd ["value"] (spIsOrder K T) := by
  obtain ⟨oc, od, kV, doc, pm, an, cdv, ct, osl, rfl, lk, hcd⟩ := F.ex
  have hc' : cdv = .ref c := hc
  subst hc'
  refine fn_of lk hcd sc_is_order (fun vs H Q E h => ?_) (fun A outer s H vs Q E hr h => ?_)
  · obtain ⟨a, o, rfl, _⟩ := h
    rfl
  · obtain ⟨a, o, rfl, hs, ho, ht, q⟩ := h
    refine ⟨_, pss_cons (ps_if (PW.pt (pw_or (pt_not (pt_val (pe_callB call_isiT (by rfl) B.isinstance (by decide +kernel) (pa_cons (pv 0) (pa_cons (pe_tup (pa_cons (pe_bltn (v := .ty "list") (by rfl) B.list (by decide +kernel) rfl) (pa_cons (pe_bltn (v := .ty "tuple") (by rfl) B.tuple (by decide +kernel) rfl) pa_nil))) pa_nil)))))
          (pw_or1 (pt_not (pt_chain op_le op_le pe_int (pe_callB call_len (by rfl) B.len PySem.boot_len (pa_cons (pv 0) pa_nil)) (pe_glob (v := .int 9) (by rfl) mN ⟨_, rfl⟩))))))
        (pss_one (ps_ret pe_bl)) pss_nil)
      (pss_cons (ps_if (pt_not (pt_val (pe_allD hr (by rfl) B.all (by decide +kernel) TB rfl (gens_of rfl rfl (by decide +kernel) (by rfl) (by rfl)) (pv 0) (elt_isint FI B gI hr rfl (by rfl) (by rfl)) (fun _ => rfl)))) (pss_one (ps_ret pe_bl)) pss_nil)
      (pss_one (ps_ret (pe_cmpR (op_eqD hr.units) (pe_callB cr_sortLT (by rfl) B.sorted (by decide +kernel) (pa_cons (pv 0) pa_nil)) (pe_listRg rfl (by rfl) B.list (prg_2 (by rfl) B.range pe_int (pe_op op_add (pe_callB call_len (by rfl) B.len PySem.boot_len (pa_cons (pv 0) pa_nil)) pe_int))) (nomark _))))), ?_⟩
    -- isinstance(value, (list, tuple))
    refine ⟨.ref a, rfl, Nat.le_of_ble_eq_true rfl, fun p hp => ?_⟩
    have g1 := Go.new (o := .tup [V.ty "list", V.ty "tuple"]) ht hp
    obtain ⟨t1, ty1, k1⟩ := ty_seq (g1.lt ht hs)
    refine ⟨.ref a, p, _, t1, _, true, rfl, upd_same, .cons (.ty _) (.cons (.ty _) .nil), ty1, k1, true, rfl, ?_⟩
    refine iteF ?_
    have l1 := lenV_seq (g1.lt ht hs)
    rw [vl_len] at l1
    have b1 := ho.lo
    have b9 := ho.hi
    refine ⟨.ref a, rfl, .ref a, o.length, rfl, l1, 1, (o.length : Int), rfl, rfl, true, congrArg V.bl (decide_eq_true (by omega)), ?_⟩
    refine iteT ⟨(o.length : Int), 9, rfl, rfl, true, congrArg V.bl (decide_eq_true (by omega)), iteF ?_⟩
    -- all(is_integer(thing) for thing in value)
    refine ⟨.ref a, rfl, a, vl o, rfl, g1.lt ht hs, fun v hv => ?_, g1.1 _ hT1, fun H2 hT => ⟨true, ?_, iteF ?_⟩⟩
    · obtain ⟨i, hi, rfl⟩ := List.mem_map.mp hv
      exact ⟨i, rfl⟩
    · rw [List.all_eq_true.mpr (fun _ _ => rfl)]
    have g2 := g1.trans (Go.tabbed hT1 g1.1 hT)
    -- sorted(value) == list(range(1, len(value) + 1))
    refine ⟨.ref a, rfl, a, _, rfl, g2.lt ht hs, by rw [List.length_map]; omega, fun ns' p2 hp1 hp2 hn2 => ?_⟩
    have g3 := g2.trans (Go.new (o := .lst (ns'.map V.int)) g2.1 hn2)
    have l3 := lenV_seq (g3.lt ht hs)
    rw [vl_len] at l3
    refine ⟨.ref a, rfl, .ref a, o.length, rfl, l3, (o.length : Int), 1, rfl, rfl, 1, (o.length : Int) + 1, rfl, rfl, RgOk.of_le (by omega) (by omega) (by omega) (by omega), fun p4 hn4 => ?_⟩
    have nt : PySem.W.Frag := K
    have e := sorted_is ho hp1 hp2
    have n42 : p2 ≠ p4 := ne_of_none upd_same hn4
    have dS : (PyData.list ((List.range' 1 o.length).map fun k : Nat => PyData.int (k : Int))) = .list (dl (List.range' 1 o.length)) := rfl
    have rg := rg_vl o.length
    have nc := (nice_ord (o := List.range' 1 o.length) (fun k hk => by obtain ⟨i, hi, e⟩ := List.mem_range'.mp hk; omega) (by rw [List.length_range']; omega)).1
    refine ⟨.list (dl (List.range' 1 o.length)), .list (dl (List.range' 1 o.length)), .lst (xs := vl (List.range' 1 o.length)) (.inl (.inl ?_)) (dp_vl _), .lst (xs := vl (List.range' 1 o.length)) (.inl (.inl ?_)) (dp_vl _), nc.shaped (by decide), nc.shaped (by decide), ?_⟩
    · rw [upd_ne n42, upd_same, ← rg, ← e]
    · rw [upd_same, rg]
    · rw [nc.refl]
      exact q _ (g3.trans (Go.new g3.1 hn4))
end
end Lb

set_option Elab.async false
set_option linter.all false
set_option maxRecDepth 100000
set_option maxHeartbeats 2000000
namespace Lb
open PySem PySem.Spec PyProof.Rows L2

def und (o : List Nat) : List Nat := (List.range' 1 o.length).map fun k => o.idxOf k + 1
def trn (o : List Nat) : List Nat := o.reverse.map fun k => o.length + 1 - k
def beh (a b : List Nat) : List Nat := b.map fun p => a.getD (p - 1) 0
def exch (o : List Nat) (i j : Nat) : List Nat := (o.set i (o.getD j 0)).set j (o.getD i 0)
theorem idx_cast (k : Nat) : ∀ o : List Nat, (o.map fun k : Nat => (k : Int)).idxOf (k : Int) = o.idxOf k
  | [] => rfl
  | x :: r => by
    rw [List.map_cons, List.idxOf_cons, List.idxOf_cons, idx_cast k r]
    by_cases e : x = k
    · subst e
      simp
    · have e2 : ¬ ((x : Int) = (k : Int)) := fun z => e (Int.ofNat.inj z)
      rw [beq_eq_false_iff_ne.mpr e2, beq_eq_false_iff_ne.mpr e]
theorem IsOrd.mem {o : List Nat} (h : IsOrd o) {k : Nat} (h1 : 1 ≤ k) (h2 : k ≤ o.length) : k ∈ o := (h.perm.mem_iff (a := k)).mpr (List.mem_range'.mpr ⟨k - 1, by omega, by omega⟩)
theorem vl_snoc (l : List Nat) (k : Nat) : vl l ++ [V.int (k : Int)] = vl (l ++ [k]) := by
  unfold vl
  rw [List.map_append, List.map_append]
  rfl
theorem take_snoc {α : Type} {l : List α} {i : Nat} {x : α} (h : l[i]? = some x) : l.take (i + 1) = l.take i ++ [x] := by
  rw [List.take_add_one, h]
  rfl
theorem small9 {n : Nat} (h : n ≤ 100) : n < sizeLine := small1000 (by omega)

theorem ix_in {n j : Nat} (hj : j < n) : ixN n (j : Int) = some j := by
  unfold ixN
  first
    | (rw [if_pos ⟨by omega, by omega⟩, Int.toNat_natCast]; done)
    | (rw [if_pos (by omega), Int.toNat_natCast]; done)
    | (simp; omega)
abbrev s_is_within_bounds : Stmt := topS 16
abbrev s_check_order : Stmt := topS 19
theorem sc_is_integer : FnScope ["value"] ["value"] (defScope s_is_integer) := ⟨rfl, rfl, rfl, by decide +kernel, rfl, by decide +kernel, by decide +kernel⟩
theorem sc_is_within_bounds : FnScope ["value", "low", "high"] ["value", "low", "high"] (defScope s_is_within_bounds) := ⟨rfl, rfl, rfl, by decide +kernel, rfl, by decide +kernel, by decide +kernel⟩
theorem sc_check_order : FnScope ["order"] ["order"] (defScope s_check_order) := ⟨rfl, rfl, rfl, by decide +kernel, rfl, by decide +kernel, by decide +kernel⟩
section
variable {P : Program} {w : World} {K : PySem.W.Frag} {mg : Str → Option Value} {base : Heap} {T : Addr → Prop}

/-- a def that stands under its name, and how its arguments bind -/
structure Df (K : PySem.W.Frag) (mg : Str → Option Value) (x : Str) (st : Stmt) (ps : List Str) (f : Addr) (fd : FuncData) : Prop where
  fn : Fun K x x st f fd
  at_ : mg x = some (.ref f)
  bind : Binds K fd ps []

def spIsInt : Sp := fun vs H Q _ => ∃ i, vs = [.int i] ∧ Q (.bl true) H
theorem ok_is_integer {f : Addr} {fd : FuncData} (F : Fun K "is_integer" "is_integer" s_is_integer f fd) (B : Bl mg) : FnOk P w K mg base CX0 1 f fd ["value"] spIsInt := by
  refine F.ok sc_is_integer (fun vs H Q E h => ?_) (fun cdv A outer s H vs Q E hr h => ?_)
  · obtain ⟨i, rfl, _⟩ := h
    rfl
  · obtain ⟨i, rfl, q⟩ := h
    refine ⟨_, pss_one (ps_ret (pe_and (pe_callB call_isi (by rfl) B.isinstance (by decide +kernel) (pa_cons (pv 0) (pa_cons (pe_bltn (v := .ty "int") (by rfl) B.int (by decide +kernel) rfl) pa_nil)))
      (pe_one (pe_not (pe_callB call_isi (by rfl) B.isinstance (by decide +kernel) (pa_cons (pv 0) (pa_cons (pe_bltn (v := .ty "bool") (by rfl) B.bool (by decide +kernel) rfl) pa_nil))))))), ?_⟩
    refine ⟨.int i, rfl, .int i, .ty "int", _, _, true, rfl, .ty _, .base (.int i), kit_ty (by decide +kernel), true, rfl, ?_⟩
    refine iteT ⟨.int i, rfl, .int i, .ty "bool", _, _, false, rfl, .ty _, .base (.int i), kit_ty (by decide +kernel), false, rfl, q⟩

def spWithin : Sp := fun vs H Q _ => ∃ i lo hi : Int, vs = [.int i, .int lo, .int hi] ∧ lo ≤ i ∧ i ≤ hi ∧ Q (.bl true) H
theorem ok_is_within_bounds {f fI : Addr} {fd fdI : FuncData} (F : Fun K "is_within_bounds" "is_within_bounds" s_is_within_bounds f fd) (DI : Df K mg "is_integer" s_is_integer ["value"] fI fdI) (B : Bl mg) : FnOk P w K mg base CX0 2 f fd ["value", "low", "high"] spWithin := by
  have GI : FnOk P w K mg base CX0 1 fI fdI ["value"] spIsInt := ok_is_integer DI.fn B
  refine F.ok sc_is_within_bounds (fun vs H Q E h => ?_) (fun cdv A outer s H vs Q E hr h => ?_)
  · obtain ⟨i, lo, hi, rfl, _⟩ := h
    rfl
  · obtain ⟨i, lo, hi, rfl, h1, h2, q⟩ := h
    refine ⟨_, pss_one (ps_ret (pe_and (pe_call GI hr (by rfl) DI.at_ DI.fn.kp DI.bind .nil pass0 (pa_cons (pv 0) pa_nil)) (pe_one (pe_chain op_le op_le (pv 1) (pv 0) (pv 2))))), ?_⟩
    refine ⟨.int i, rfl, i, rfl, true, rfl, iteT ⟨.int lo, rfl, .int i, rfl, lo, i, rfl, rfl, true, congrArg V.bl (decide_eq_true h1), iteT ⟨.int hi, rfl, i, hi, rfl, rfl, ?_⟩⟩⟩
    show Q (V.bl (decide (i ≤ hi))) H
    rw [decide_eq_true h2]
    exact q

def spChk (K : PySem.W.Frag) (T : Addr → Prop) : Sp := fun vs H Q _ => ∃ (a : Addr) (o : List Nat), vs = [.ref a] ∧ SeqLT K H a (vl o) ∧ IsOrd o ∧ Tabs H T ∧ ∀ H', Go T H H' → Q .non H'
/-- the facts of is_order's def -/
structure Io (K : PySem.W.Frag) (mg : Str → Option Value) (base : Heap) (T : Addr → Prop) (c f fI : Addr) (fd fdI : FuncData) : Prop where
  f : Df K mg "is_order" s_is_order ["value"] f fd
  code : fd.code = .ref c
  TB : ∃ t, T t ∧ GxR.TabB base mg c t
  I : Df K mg "is_integer" s_is_integer ["value"] fI fdI
  N : ∃ t, mg "MOST_THINGS" = some (.int 9 t)
  B : Bl mg
variable {c fO fI : Addr} {fdO fdI : FuncData}
theorem Io.ok (O : Io K mg base T c fO fI fdO fdI) : FnOk P w K mg base CX0 2 fO fdO ["value"] (spIsOrder K T) := by
  obtain ⟨t, hN⟩ := O.N
  obtain ⟨t1, hT1, tb⟩ := O.TB
  exact ok_is_order O.f.fn O.code hT1 tb O.I.fn O.I.at_ O.B hN
theorem ok_check_order {f : Addr} {fd : FuncData} (F : Fun K "check_order" "check_order" s_check_order f fd) (O : Io K mg base T c fO fI fdO fdI) : FnOk P w K mg base CX0 3 f fd ["order"] (spChk K T) := by
  have G : FnOk P w K mg base CX0 2 fO fdO ["value"] (spIsOrder K T) := O.ok
  refine F.ok sc_check_order (fun vs H Q E h => ?_) (fun cdv A outer s H vs Q E hr h => ?_)
  · obtain ⟨a, o, rfl, _⟩ := h
    rfl
  · obtain ⟨a, o, rfl, hs, ho, ht, q⟩ := h
    refine ⟨_, pss_one (ps_if (pt_not (pt_val (pe_call G hr (by rfl) O.f.at_ O.f.fn.kp O.f.bind .nil pass0 (pa_cons (pv 0) pa_nil)))) (pss_one ps_never) pss_nil), ?_⟩
    exact ⟨.ref a, rfl, a, o, rfl, hs, ho, ht, fun H' g => ⟨true, rfl, iteF (q H' g)⟩⟩

theorem getD_of {o : List Nat} {i : Nat} (h : i < o.length) : o[i]? = some (o.getD i 0) := by
  rw [List.getElem?_eq_getElem h, List.getD_eq_getElem?_getD, List.getElem?_eq_getElem h]
  rfl
theorem vl_set (o : List Nat) (i k : Nat) : (vl o).set i (V.int (k : Int)) = vl (o.set i k) := by
  unfold vl
  rw [List.map_set, List.map_set]
end
end Lb

set_option Elab.async false
set_option linter.all false
set_option maxRecDepth 100000
set_option maxHeartbeats 2000000
namespace Lb
open PySem PySem.Spec PyProof.Rows L2


/-! for x in seq, seq a list (false) or a tuple (true) -/
def SqB (K : PySem.W.Frag) : Bool → Hp → Addr → List V → Prop
  | false, H, a, xs => SqL K H a xs
  | true, H, a, xs => SqT K H a xs
def ItB (K : PySem.W.Frag) (b : Bool) (a : Addr) : It := if b = true then Itt K a else Itl K a
theorem OrdK.sqB {K : PySem.W.Frag} {b : Bool} {H : Hp} {a : Addr} {xs : List V} (h : OrdK b H a xs) : SqB K b H a xs := by
  cases b with
  | false => exact h.sqL
  | true => exact h.sqT
theorem Go.sqB {K : PySem.W.Frag} {b : Bool} {T : Addr → Prop} {a : Addr} {H H' : Hp} {xs : List V} (g : Go T H H') (t : Tabs H T) (h : SqB K b H a xs) : SqB K b H' a xs := by
  cases b with
  | false => exact g.seqL t h
  | true => exact g.seqT t h
def iSeq (K : PySem.W.Frag) (tl : TE) : TI := fun σ H R => tl σ H fun x H1 => ∃ (b : Bool) (a : Addr), x = .ref a ∧ (∃ xs, SqB K b H1 a xs) ∧ R (ItB K b a) H1
theorem pi_seq {X : Cx} {tg l : Expr} {tl : TE} (hl : PE X l tl) : PI X tg l (iSeq X.K tl) := by
  refine ⟨fun pins s σ H R I h => thn (hl.run pins s σ H _ I h) fun v s1 ⟨x, H1, I1, r1, q1⟩ => ?_⟩
  obtain ⟨b, a, rfl, ⟨xs, hq⟩, q⟩ := q1
  cases r1
  have at_ : ∀ c ∈ [s1.heap.objs.size], FpOk X pins H1 c := fun c hc => by
    cases List.mem_singleton.mp hc
    exact I1.fpOk (Nat.le_refl _) (I1.hok.fresh (Nat.le_refl _))
  cases b with
  | false =>
    obtain ⟨its, rv, p, hz⟩ := I1.list hq
    exact wpAny_pyIter_list p.isList ⟨s1.heap.objs.size, [s1.heap.objs.size], _, _, H1, rfl, I1.kept (t' := s1.toks) fun b o e => Heap.get?_push_of_some _ e, turn_list a _, ⟨_, Heap.get?_push_size _ rfl, rfl, rfl⟩, at_, q⟩
  | true =>
    obtain ⟨its, rv, p, hz⟩ := I1.tuple hq
    exact wpAny_pyIter_tuple (show s1.heap.IsTuple a its.toArray from p) ⟨s1.heap.objs.size, [s1.heap.objs.size], _, _, H1, rfl, I1.kept (t' := s1.toks) fun b o e => Heap.get?_push_of_some _ e, turn_tuple a _, ⟨_, Heap.get?_push_size _ rfl, rfl, rfl⟩, at_, q⟩
theorem lc_seq {K : PySem.W.Frag} {b : Bool} {a : Addr} {xs : List V} {g : TG} {tt : TT} {te : TE} {vs : List Nat} {σ : L2.St} {H1 : Hp} {D : Addr} {Qd : Hp → Prop} (Pv : Nat → Hp → Prop) (h0 : Pv 0 (upd H1 D (.lst []))) (hl : ∀ i H, i ≤ xs.length → Pv i H → SqB K b H a xs)
    (hs : ∀ i x H, xs[i]? = some x → Pv i H → g x (wipe σ vs) H fun σ2 H2 => wipe σ2 vs = wipe σ vs ∧ tt σ2 H2 fun b H3 =>
      if b = true then te σ2 H3 fun y H4 => ∃ acc, H4 D = some (.lst acc) ∧ acc.length < sizeLine ∧ Pv (i + 1) (upd H4 D (.lst (acc ++ [y]))) else Pv (i + 1) H3) (hd : ∀ H, Pv xs.length H → Qd H) :
    ∃ W : Nat → Nat → Hp → Prop, (∃ m, W 0 m (upd H1 D (.lst []))) ∧ ∀ i m H, W i m H →
      ((ItB K b a).stop i H ∧ Qd H) ∨ ((ItB K b a).go i H ∧ ∃ Nx : Hp → Prop, (∀ H', Nx H' → ∃ m', m' < m ∧ W (i + 1) m' H') ∧ ∀ x H', (ItB K b a).yld i H x H' → g x (wipe σ vs) H' fun σ2 H2 => wipe σ2 vs = wipe σ vs ∧ tt σ2 H2 fun b H3 =>
        if b = true then te σ2 H3 fun y H4 => ∃ acc, H4 D = some (.lst acc) ∧ acc.length < sizeLine ∧ Nx (upd H4 D (.lst (acc ++ [y]))) else Nx H3) := by
  cases b with
  | false => exact lc_list Pv h0 hl hs hd
  | true => exact lc_tup Pv h0 hl hs hd
/-- len, where the written part is told -/
def rLen (K : PySem.W.Frag) : List V → Hp → VK → Prop := fun xs H Q => ∃ x n, xs = [x] ∧ LenV K x H n ∧ Q (V.int (n : Nat)) H
theorem lenK {X : Cx} : CallR X (.builtin "len") (rLen X.K) := call_len
/-- what has been made so far stands at D -/
def Made (T : Addr → Prop) (H1 : Hp) (D : Addr) (l : List Nat) (H : Hp) : Prop := Tabs H T ∧ (∀ b u, ¬ T b → b ≠ D → H1 b = some u → H b = some u) ∧ H D = some (.lst (vl l))
theorem Made.start {T : Addr → Prop} {D : Addr} {H1 : Hp} (ht : Tabs H1 T) (hD : H1 D = none) : Made T H1 D [] (upd H1 D (.lst [])) :=
  ⟨(Go.new (o := .lst []) ht hD).1, fun b u n1 n2 e => by rw [upd_ne n2]; exact e, upd_same⟩
theorem Made.go {T : Addr → Prop} {D : Addr} {H1 H : Hp} {l : List Nat} (m : Made T H1 D l H) (hD : H1 D = none) : Go T H1 H := ⟨m.1, fun b u n e => m.2.1 b u n (fun z => by rw [z, hD] at e; cases e) e⟩
theorem Made.more {T : Addr → Prop} {D : Addr} {H1 H H' : Hp} {l : List Nat} {k : Nat} (m : Made T H1 D l H) (hD : H1 D = none) (ht : Tabs H1 T) (g : Go T H H') :
    H' D = some (.lst (vl l)) ∧ Made T H1 D (l ++ [k]) (upd H' D (.lst (vl l ++ [V.int (k : Int)]))) := by
  have dT : ¬ T D := tab_ne ht hD
  refine ⟨g.2 D _ dT m.2.2, ⟨?_, fun b u n1 n2 e => ?_, ?_⟩⟩
  · exact g.1.put dT
  · rw [upd_ne n2]
    exact g.2 b u n1 (m.2.1 b u n1 n2 e)
  · rw [upd_same, vl_snoc]

section
variable {P : Program} {w : World} {K : PySem.W.Frag} {mg : Str → Option Value} {base : Heap} {T : Addr → Prop} {c fO fI : Addr} {fdO fdI : FuncData}

/-- the outcome of a def that makes a new tuple -/
def Out (T : Addr → Prop) (H : Hp) (Q : VK) (o : List Nat) : Prop := ∀ H' p, Go T H H' → H p = none → OrdK true H' p (vl o) → Q (.ref p) H'
def Cd (K : PySem.W.Frag) (mg : Str → Option Value) (fC : Addr) (fdC : FuncData) : Prop := Df K mg "check_order" s_check_order ["order"] fC fdC
theorem vl_rev (o : List Nat) : (vl o).reverse = vl o.reverse := by
  unfold vl
  rw [List.map_reverse, List.map_reverse]
end
end Lb

set_option Elab.async false
set_option linter.all false
set_option maxRecDepth 100000
set_option maxHeartbeats 2000000
namespace Lb
open PySem PySem.Spec PyProof.Rows L2

/-! ### wrong pairs -/
/-- the wrong pairs of the place i with the first k places behind it -/
def row (o : List Nat) (i k : Nat) : List (Nat × Nat) := ((List.range k).filter fun b => decide (o.getD i 0 > o.getD (i + 1 + b) 0)).map fun b => (i, i + 1 + b)
def wpTo (o : List Nat) (i j : Nat) : List (Nat × Nat) := ((List.range i).flatMap fun a => row o a (o.length - (a + 1))) ++ row o i j
def wps (o : List Nat) : List (Nat × Nat) := (List.range o.length).flatMap fun a => row o a (o.length - (a + 1))
def lev (o : List Nat) : Nat := (wps o).length
theorem row_zero (o : List Nat) (i : Nat) : row o i 0 = [] := rfl
theorem row_more (o : List Nat) (i k : Nat) : row o i (k + 1) = row o i k ++ (if o.getD i 0 > o.getD (i + 1 + k) 0 then [(i, i + 1 + k)] else []) := by
  unfold row
  rw [List.range_succ, List.filter_append, List.map_append]
  congr 1
  by_cases h : o.getD i 0 > o.getD (i + 1 + k) 0
  · rw [if_pos h, List.filter_cons_of_pos (by exact decide_eq_true h)]
    rfl
  · rw [if_neg h, List.filter_cons_of_neg (by rw [decide_eq_false h]; exact Bool.false_ne_true)]
    rfl
theorem wpTo_more (o : List Nat) (i k : Nat) : wpTo o i (k + 1) = wpTo o i k ++ (if o.getD i 0 > o.getD (i + 1 + k) 0 then [(i, i + 1 + k)] else []) := by
  unfold wpTo
  rw [row_more, List.append_assoc]
theorem wpTo_next (o : List Nat) (i : Nat) : wpTo o (i + 1) 0 = wpTo o i (o.length - (i + 1)) := by
  unfold wpTo
  rw [List.range_succ, List.flatMap_append, row_zero, List.append_nil, List.flatMap_cons, List.flatMap_nil, List.append_nil]
theorem wpTo_end (o : List Nat) : wpTo o o.length 0 = wps o := by
  unfold wpTo wps
  rw [row_zero, List.append_nil]
theorem row_le (o : List Nat) (i k : Nat) : (row o i k).length ≤ k := by
  unfold row
  rw [List.length_map]
  exact Nat.le_trans (List.length_filter_le _ _) (by rw [List.length_range]; exact Nat.le_refl _)
theorem flat_le {f : Nat → List (Nat × Nat)} {c : Nat} (h : ∀ a, (f a).length ≤ c) : ∀ l : List Nat, (l.flatMap f).length ≤ c * l.length
  | [] => Nat.le_refl _
  | a :: r => by
    rw [List.flatMap_cons, List.length_append, List.length_cons, Nat.mul_add]
    have := h a
    have := flat_le h r
    omega
theorem wpTo_le {o : List Nat} {i j : Nat} (h : o.length ≤ 9) (hi : i ≤ 9) (hj : j ≤ 9) : (wpTo o i j).length ≤ 90 := by
  unfold wpTo
  rw [List.length_append]
  have h1 := flat_le (f := fun a => row o a (o.length - (a + 1))) (c := 9) (fun a => Nat.le_trans (row_le _ _ _) (by omega)) (List.range i)
  rw [List.length_range] at h1
  have h2 := row_le o i j
  omega

def PairsAt (H : Hp) (ts : List Addr) (ps : List (Nat × Nat)) : Prop := Paired (fun t (p : Nat × Nat) => H t = some (.tup [V.int (p.1 : Int), V.int (p.2 : Int)])) ts ps
theorem PairsAt.keep {H H' : Hp} {ts : List Addr} {ps : List (Nat × Nat)} (h : PairsAt H ts ps) (k : ∀ b xs, H b = some (.tup xs) → H' b = some (.tup xs)) : PairsAt H' ts ps := Paired.mapP h fun _ _ e => k _ _ e
theorem Paired.snoc {α β : Type} {R : α → β → Prop} {x : α} {y : β} : ∀ {l : List α} {m : List β}, Paired R l m → R x y → Paired R (l ++ [x]) (m ++ [y])
  | _, _, .nil, r => .cons r .nil
  | _, _, .cons q t, r => .cons q (Paired.snoc t r)

/-- the pairs made so far stand at D -/
structure PMade (T : Addr → Prop) (H1 : Hp) (D : Addr) (ps : List (Nat × Nat)) (H : Hp) : Prop where
  tab : Tabs H T
  old : ∀ b u, ¬ T b → H1 b = some u → H b = some u
  new : ∃ ts : List Addr, H D = some (.lst (ts.map V.ref)) ∧ PairsAt H ts ps
section
variable {P : Program} {w : World} {K : PySem.W.Frag} {mg : Str → Option Value} {base : Heap} {T : Addr → Prop} {c fO fI : Addr} {fdO fdI : FuncData}

theorem ix_at {H : Hp} {a : Addr} {o : List Nat} {i : Nat} {k : Int} {Q : VK} (h : SeqLT K H a (vl o)) (hi : i < o.length) (hk : k = (i : Int)) (q : Q (.int ((o.getD i 0 : Nat) : Int)) H) : rIx K (.ref a) (.int k) H Q := by
  subst hk
  have e := atI_nat (vl_get (getD_of hi))
  rcases h with h | h
  · exact .inl ⟨a, _, _, _, rfl, rfl, h, e, q⟩
  · exact .inr (.inl ⟨a, _, _, _, rfl, rfl, h, e, q⟩)
end
end Lb

set_option Elab.async false
set_option linter.all false
set_option maxRecDepth 100000
set_option maxHeartbeats 2000000
namespace Lb
open PySem PySem.Spec PyProof.Rows L2 GxR

/-! ### all(.. for x in a list or a tuple), names of the def within -/
section
variable {X : Cx} {pins : List (Addr × Obj)} {σ : L2.St} {H : Hp} {s : Shared}
/-- the generator's element, told for any frame of it behind the state s1 in which the generator was made; what stood there stands, but the table at P -/
def EltC (X : Cx) (P : Addr) (s1 : Shared) (scope : Scope) (x : Str) (elt : Expr) (ok : V → Prop) (pb : V → Bool) : Prop :=
  ∀ (cenv : Env) (A' : Around) (E' : Value → Shared → Prop) (v : V) (u : Value) (t : Shared) (m : Str → Option Value), RelV v u → ok v → A'.handled = none → A'.depth ≤ X.A.depth + 1 → A'.units ≤ X.A.units + 8 →
    cenv.scope = scope → cenv.globals = mainGlobals → cenv.builtins = builtinsNs → cenv.cells = cloFrom X.env.cells scope.names [] →
    (∀ b o, b ≠ P → s1.heap.get? b = some o → t.heap.get? b = some o) → t.heap.Ns cenv.locals m → m x = some u →
    wpAny (model X.prog X.w) A' (eval elt cenv) (fun y t' => y = .bool (pb v) ∧ Keeps t t') E' t
theorem gen_clo {c P : Addr} {elt iter : Expr} {x : Str} {px gpos : Pos} {scope : Scope} {te : TE} {k : Nat} {Q' : Value → Shared → Prop} {R : List V → (V → Bool) → Hp → Prop}
    (room : Room k X.A) (TB : GxR.TabB X.base X.mg c P) (own : X.env.code = .ref c) (S : GenS X.env scope x) (src : PE X iter te) (nofold : ∀ v, genFold iter X.env v = pure v) (I : Inv X pins σ H s)
    (h : te σ H fun v H1 => ∃ (a : Addr) (xs : List V) (ok : V → Prop) (pb : V → Bool), v = .ref a ∧ SeqLT X.K H1 a xs ∧ (∀ v ∈ xs, ok v) ∧ TabG H1 P ∧ (∀ ps z, Inv X ps σ H1 z → EltC X P z scope x elt ok pb) ∧ R xs pb H1)
    (hQ : ∀ xs pb H1 g s5, R xs pb H1 → ReadyL X pins σ H1 P xs pb g s5 → Q' (.ref g) s5) :
    wpAny (model X.prog X.w) X.A (eval (.GeneratorExp elt [⟨.Name x px, iter, [], 0⟩] scope gpos) X.env) Q' X.xe s := by
  have deep : X.A.depth < recursionLimit := by have := room.dp; omega
  refine wpAny_GeneratorExp_walksQD room.hd S.co (closure_ok S.free) S.cell S.dot S.loc S.kind deep (thn (src.run pins s σ H _ I h) fun u0 s1 ⟨v0, H1, I1, r0, a, xs, ok, pb, e0, hq, oks, ⟨tab, tP, tr⟩, hel, hR⟩ => ?_) nofold
  subst e0
  cases (show u0 = Value.ref a from r0)
  refine iter_seq I1 hq fun o its At F => ?_
  have gP : s1.heap.get? P = some { cls := .none, data := .fields tab } := I1.hok P _ tP
  have lowP := Heap.lt_size gP
  have grow : ∀ b u, s1.heap.get? b = some u → (s1.heap.push o).get? b = some u := fun b u e => Heap.get?_push_of_some _ e
  have nl := I1.nolimit.push o
  have stat : cStatics < s1.heap.objs.size ∧ cStatics ≠ P := by
    obtain ⟨_, ns, _⟩ := I1.nolimit
    refine ⟨ns.lt, fun e => ?_⟩
    obtain ⟨ob, _, _, g, d, _⟩ := ns
    rw [e, gP] at g
    cases g
    cases d
  refine ⟨nl, code_in_table own (TB.code.keeps fun b u e => grow b u (I1.bk b u e)) (grow P _ gP) tr fun code h3 tk more ext big gP3 tr3 => ?_⟩
  have szo : (s1.heap.push o).objs.size = s1.heap.objs.size + 1 := Heap.size_push ..
  have room3 : s1.heap.objs.size < h3.objs.size := by
    have b2 := big
    rw [szo] at b2
    exact b2
  have stays : ∀ b u, b ≠ P → s1.heap.get? b = some u → h3.get? b = some u := fun b u nb e => ext b u nb (grow b u e)
  obtain ⟨bm, ob, b1, b2, b3, b4, b5, b6, b7, b8⟩ := TB.bm
  refine wpAny_builtinsFor (m := X.mg) (by rw [I1.ok.glob]; exact Heap.Ns.extBut ((I1.mod.glob.keeps I1.bk).push o) ext TB.gP) b1 b2 (stays _ _ b4 (I1.bk _ _ b5)) b6 b7 b8 ?_
  have foot : ∀ b ∈ [s1.heap.objs.size, a], b ≠ P ∧ b < h3.objs.size := fun b hb => by
    simp only [List.mem_cons, List.not_mem_nil, or_false] at hb
    rcases hb with e | e <;> rw [e]
    · exact ⟨(Nat.ne_of_lt lowP).symm, room3⟩
    · exact ⟨(F.cls P _ gP rfl).symm, Nat.lt_trans F.low room3⟩
  refine ⟨_, _, [s1.heap.objs.size], xs.length, fun i y => its[i]? = some y, At, fun _ => true, fun i y => ∃ d, xs[i]? = some d ∧ y = .bool (pb d), rfl, F.walk, ?_, fun b hb => (foot b hb).2, nl.extBut ext stat.2, fun e => Nat.ne_of_lt stat.1 (List.mem_singleton.mp e), fun later kept => ⟨?_, ?_⟩, ?_⟩
  · exact (F.walk X.A room.hd).frame _ _ _ F.at0 fun b hb u e => ext b u (foot b hb).1 e
  · intro B E' i y t mt _ _ _ _ _ _ _
    simp only [List.forIn_nil]
    exact wpAny_pure ⟨rfl, keeps_refl _⟩
  · intro B E' i y t mt hB dB uB hy _ ln lm lk
    have lt : i < xs.length := by
      rw [F.rel.length]
      exact (List.getElem?_eq_some_iff.mp hy).1
    have at_ := List.getElem?_eq_getElem lt
    obtain ⟨y', hy', ry⟩ := F.rel.get at_
    cases hy.symm.trans hy'
    refine wpAny_mono (hel pins s1 I1 _ B E' xs[i] y t mt ry (oks _ (List.getElem_mem lt)) hB dB uB rfl I1.ok.glob rfl rfl (fun b u nb eb => ?_) ln lm) (fun z t' r => ⟨⟨_, at_, r.1⟩, r.2⟩) fun _ _ e => e
    have e3 := stays b u nb eb
    exact lk b (List.mem_range.mpr (Heap.lt_size e3)) (fun z => Nat.ne_of_lt (Heap.lt_size eb) (List.mem_singleton.mp z)) u (kept b u e3)
  · intro g h5 tk5 gen bare gt sz5 keep5 W5 start
    simp only [GxR.passing_true, List.length_range] at W5
    refine hQ xs pb H1 g _ hR ⟨_, _, _, _, _, W5.in4_1, start, fun j y t Qj Ej hy hj => ?_, fun z mv => ?_⟩
    · obtain ⟨i, hi, d, hd, rfl⟩ := hy
      obtain ⟨_, ei⟩ := List.getElem?_eq_some_iff.mp hi
      rw [List.getElem_range] at ei
      subst ei
      rw [trL_some hd] at hj
      exact wpAny_truthy_bool hj
    · have apart : ∀ b u, s1.heap.get? b = some u → b ∉ h3.objs.size :: [s1.heap.objs.size] := fun b u e hb => by
        have lb : (b : Nat) < s1.heap.objs.size := Heap.lt_size e
        simp only [List.mem_cons, List.not_mem_nil, or_false] at hb
        rcases hb with e' | e' <;> rw [e'] at lb
        · exact Nat.lt_irrefl _ (Nat.lt_trans lb room3)
        · exact Nat.lt_irrefl _ lb
      have fin := inv_tab (more := more) (h' := z.heap) (g' := z.gens) (d' := z.drawn) (t' := z.toks) I1 tP (fun b u nb e => mv.heap b u (apart b u e) (keep5 b u (stays b u nb e))) (mv.heap P _ (apart P _ gP) (keep5 P _ gP3)) (AllBare.movedS (I1.bare.push bare) mv)
      rw [sh_eta s1 z mv.os] at fin
      exact ⟨upd H1 P (.tbl (tab ++ more)), ⟨⟨tab ++ more, upd_same, tr3⟩, fun b hb => upd_ne hb⟩, fin⟩
def tAllC (X : Cx) (P : Addr) (scope : Scope) (x : Str) (elt : Expr) (te : TE) : TE := fun σ H Q => te σ H fun v H1 => ∃ (a : Addr) (xs : List V) (ok : V → Prop) (pb : V → Bool), v = .ref a ∧ SeqLT X.K H1 a xs ∧ (∀ v ∈ xs, ok v) ∧ TabG H1 P ∧ (∀ ps z, Inv X ps σ H1 z → EltC X P z scope x elt ok pb) ∧ ∀ H2, Tabbed P H1 H2 → Q (.bl (xs.all pb)) H2
theorem pe_allC {c P : Addr} {elt iter : Expr} {x : Str} {px p pos gpos : Pos} {scope : Scope} {te : TE} {k : Nat}
    (hr : Room k X.A) (hg : Gl X "all") (hm : X.mg "all" = none) (hb : bootBuiltins "all" = some (.builtin "all")) (TB : GxR.TabB X.base X.mg c P) (hcode : X.env.code = .ref c) (S : GenS X.env scope x) (hi : PE X iter te)
    (hs : ∀ v, genFold iter X.env v = pure v)
    (he : starEach [.GeneratorExp elt [⟨.Name x px, iter, [], 0⟩] scope gpos] X.env = (false, eval (.GeneratorExp elt [⟨.Name x px, iter, [], 0⟩] scope gpos) X.env) :: starEach [] X.env := by rfl) :
    PE X (.Call (.Name "all" p) [.GeneratorExp elt [⟨.Name x px, iter, [], 0⟩] scope gpos] [] pos) (tAllC X P scope x elt te) := by
  refine ⟨fun pins s σ H Q I h => ?_⟩
  refine wpAny_Call_Name_kw (ld_blt I hg hm hb ?_)
  refine PyProof.Rows.callWith_builtin1 ?_ he (by rfl)
  rw [he]
  show wpAny _ _ (spliced ((false, eval (.GeneratorExp elt [⟨.Name x px, iter, [], 0⟩] scope gpos) X.env) :: backTo pos (starEach [] X.env))) _ _ s
  refine Calls.spliced_cons (gen_clo (R := fun xs pb H1 => ∀ H2, Tabbed P H1 H2 → Q (.bl (xs.all pb)) H2) hr TB hcode S hi hs I h fun xs pb H1 g s5 hR hG => ?_)
  obtain ⟨fp, wr, G, F, St, W, hst, htr, hI⟩ := hG
  refine Calls.spliced_nil ?_
  refine call_all_walkS (W.self 0 _ _ _ hst ⟨g, fp, wr, G, _, F, St, _, rfl, W, hst, htr, fun s' hmv => ?_⟩)
  obtain ⟨H2, hT, J⟩ := hI s' hmv
  refine ⟨.bl _, H2, J, rfl, ?_⟩
  rw [all_trL pb xs]
  exact hR H2 hT
/-- a name of the def around, a cell there, as the generator's element reads it -/
theorem free_read {P : Addr} {z t : Shared} {scope : Scope} {cenv : Env} {A' : Around} {E' : Value → Shared → Prop} {Q : Value → Shared → Prop} {ps : List (Addr × Obj)} {i : Nat} {y : Str} {v : V} {p : Pos} (I : Inv X ps σ H z) (hN : X.N[i]? = some y) (hv : σ[i]? = some (some v)) (hcl : X.env.scope.names.lookup y = some .cell)
    (tP : TabG H P) (hsc : cenv.scope = scope) (hk : scope.kind = .function) (hy : scope.names.lookup y = some .free) (hcs : cenv.cells = cloFrom X.env.cells scope.names []) (uq : (cloFrom X.env.cells scope.names []).lookup y = some ((X.env.cells.lookup y).getD 0)) (old : ∀ b o, b ≠ P → z.heap.get? b = some o → t.heap.get? b = some o)
    (h : ∀ u, RelV v u → Q u t) (hd : (y == ("__debug__" : Str)) = false := by decide) (hcd : (y == ("__classdict__" : Str)) = false := by decide) : wpAny (model X.prog X.w) A' (eval (.Name y p) cenv) Q E' t := by
  obtain ⟨m, _, look⟩ := I.loc
  obtain ⟨u, ru, lk⟩ := look i y v hN hv (.inr (.inl hcl))
  have hkd : X.env.kindOf y = some .cell := hcl
  rcases lk with ⟨k1, _⟩ | ⟨_, c, hc, ic⟩
  · rw [hkd] at k1
    cases k1
  · have ncP : c ≠ P := fun e => by
      have z2 := I.freeC y c hc
      obtain ⟨tab, e2, _⟩ := tP
      rw [e, e2] at z2
      cases z2
    have ic2 : t.heap.IsCell c (some u) := by
      obtain ⟨o, go, dd⟩ := ic
      exact ⟨o, old c o ncP go, dd⟩
    exact wpAny_Name (wpAny_loadName_free (by rw [hsc]; exact hk) (by show cenv.scope.names.lookup _ = _; rw [hsc]; exact hy) (by rw [hcs, uq, hc]; rfl) ic2 (h u ru) hcd) hd
end
end Lb

set_option Elab.async false
set_option linter.all false
set_option maxRecDepth 100000
set_option maxHeartbeats 4000000
namespace Lb
open PySem PySem.Spec PyProof.Rows L2

section
variable {P : Program} {w : World} {K : PySem.W.Frag} {mg : Str → Option Value} {base : Heap} {T : Addr → Prop}
/-- is_within_bounds of ints, at the library's level -/
theorem within_call {fI fW : Addr} {fdI fdW : FuncData} (FW : Fun K "is_within_bounds" "is_within_bounds" s_is_within_bounds fW fdW) (FI : Fun K "is_integer" "is_integer" s_is_integer fI fdI) (gI : mg "is_integer" = some (.ref fI)) (B : Bl mg) (M : L2.Mod K mg base) {A : Around} {R : Result → Shared → Prop} {s : Shared} {i lo hi : Int} {t t2 t3 : Tok}
    (hd : A.depth + 3 < recursionLimit) (hk : ∀ b o, base.get? b = some o → s.heap.get? b = some o) (h1 : lo ≤ i) (h2 : i ≤ hi) (h : ∀ s', PySem.Keeps s s' → R (.ok (.ret (.bool true))) s') : codeAny (model P w) A (.call (.ref fW) ⟨[.int i t, .int lo t2, .int hi t3], []⟩) R s := by
  obtain ⟨oc, od, kV, doc, pm, an, cdv, ct, osl, rfl, lk, hcd⟩ := FW.ex
  refine Att.call_fn (binds := [("value", .int i t), ("low", .int lo t2), ("high", .int hi t3)]) (M.kin.keeps hk) (M.nolimit.keeps hk) lk hcd (by omega) (BindsTo.of_eq (by first | rfl | with_unfolding_all rfl)) (by first | rfl | decide | with_unfolding_all rfl) (fun s₁ IC => ?_) rfl rfl rfl
  obtain ⟨h₁, tk₁, rfl⟩ := IC.toInCall.same
  have k1 : ∀ b o, s.heap.get? b = some o → h₁.get? b = some o := IC.toInCall.keep
  have hn := IC.toInCall.ns
  have kb : ∀ b o, base.get? b = some o → h₁.get? b = some o := fun b o e => k1 b o (hk b o e)
  refine wpAny_execs_cons (wpAny_Return_some ?_)
  refine BoolOp_and (wpAny_Call_Name_kw (Calls.Name_function_global rfl (by rfl) (Calls.loadGlobal_global (M.glob.keeps kb) gI ?_) (by decide)))
  refine PySem.W.callWith_K (h₀ := base) M.kin FI.kp ?_ (by rfl) (by rfl)
  refine Calls.spliced_cons (wpAny_Name (wpAny_loadName_local (v := .int i t) rfl (by rfl) hn (by rfl) (Calls.spliced_nil ⟨M.kin.keeps kb, ?_⟩)) (by decide))
  refine wpAny_call (isint_call FI B M (by show A.depth + 1 < recursionLimit; omega) kb fun s' hs => ?_)
  obtain ⟨h', tk, rfl, k⟩ := hs
  have hn' := hn.keeps k
  refine wpAny_truthy_bool ?_
  refine BoolOp_one (Compare_chain (wpAny_Name (wpAny_loadName_local (v := .int lo t2) rfl (by rfl) hn' (by rfl) (chain_link (wpAny_Name (wpAny_loadName_local (v := .int i t) rfl (by rfl) hn' (by rfl) (le_int ?_)) (by decide)))) (by decide)))
  rw [decide_eq_true h1]
  refine wpAny_truthy_bool (ite_tt (chain_last (wpAny_Name (wpAny_loadName_local (v := .int hi t3) rfl (by rfl) hn' (by rfl) (le_int ?_)) (by decide))))
  rw [decide_eq_true h2]
  exact h _ ⟨h', tk, rfl, fun b o e => k b o (k1 b o e)⟩
end
end Lb

set_option Elab.async false
set_option linter.all false
set_option maxRecDepth 100000
set_option maxHeartbeats 4000000
namespace Lb
open PySem PySem.Spec PyProof.Rows L2

abbrev s_is_list : Stmt := topS 15
abbrev s_awb : Stmt := topS 17
theorem sc_is_list : FnScope ["value"] ["value"] (defScope s_is_list) := ⟨rfl, rfl, rfl, by decide +kernel, rfl, by decide +kernel, by decide +kernel⟩
theorem sc_awb : FnScope ["value", "low", "high"] ["value", "low", "high"] (defScope s_awb) := ⟨rfl, rfl, rfl, by decide +kernel, rfl, by decide +kernel, by decide +kernel⟩
theorem gens_free {env : Env} {scope : Scope} {x : Str} (fs : List Str) (h1 : scope.kind = .function) (h2 : scope.isCoroutine = false) (h3 : ∀ y ∈ scope.names, y.2 ≠ .cell) (h4 : scope.names.lookup (".0" : Str) = some NameKind.local) (h5 : scope.names.lookup x = some .local)
    (h6 : ∀ y ∈ scope.names, y.2 = .free → y.1 ∈ fs) (h7 : ∀ f ∈ fs, ∃ c, env.cells.lookup f = some c) : GxR.GenS env scope x := ⟨h1, h2, h3, h4, h5, fun y hy e => h7 _ (h6 y hy e)⟩
section
variable {P : Program} {w : World} {K : PySem.W.Frag} {mg : Str → Option Value} {base : Heap} {T : Addr → Prop}
def spIsl (K : PySem.W.Frag) (T : Addr → Prop) : Sp := fun vs H Q _ => ∃ (a : Addr) (xs : List V), vs = [.ref a] ∧ SeqLT K H a xs ∧ Tabs H T ∧ ∀ H', Go T H H' → Q (.bl true) H'
theorem ok_is_list {f : Addr} {fd : FuncData} (F : Fun K "is_list" "is_list" s_is_list f fd) (B : Bl mg) : FnOk P w K mg base CX0 1 f fd ["value"] (spIsl K T) := by
  refine F.ok sc_is_list (fun vs H Q E h => ?_) (fun cdv A outer s H vs Q E hr h => ?_)
  · obtain ⟨a, xs, rfl, _⟩ := h
    rfl
  · obtain ⟨a, xs, rfl, hs, ht, q⟩ := h
    refine ⟨_, pss_one (ps_ret (pe_callB call_isiT (by rfl) B.isinstance (by decide +kernel) (pa_cons (pv 0) (pa_cons (pe_tup (pa_cons (pe_bltn (v := .ty "list") (by rfl) B.list (by decide +kernel) rfl) (pa_cons (pe_bltn (v := .ty "tuple") (by rfl) B.tuple (by decide +kernel) rfl) pa_nil))) pa_nil)))), ?_⟩
    refine ⟨.ref a, rfl, Nat.le_of_ble_eq_true rfl, fun p hp => ?_⟩
    have g1 := Go.new (o := .tup [V.ty "list", V.ty "tuple"]) ht hp
    obtain ⟨t1, ty1, k1⟩ := ty_seq (g1.lt ht hs)
    exact ⟨.ref a, p, _, t1, _, true, rfl, upd_same, .cons (.ty _) (.cons (.ty _) .nil), ty1, k1, q _ g1⟩

/-- the elements of are_within_bounds -/
theorem elt_within {X : Cx} {fI fW : Addr} {fdI fdW : FuncData} {scope : Scope} {p1 p2 p3 p4 p5 : Pos} {k : Nat} {ps : List (Addr × Obj)} {σ : L2.St} {H : Hp} {z : Shared} {P0 : Addr} {lo hi : Int}
    (FW : Fun X.K "is_within_bounds" "is_within_bounds" s_is_within_bounds fW fdW) (gW : X.mg "is_within_bounds" = some (.ref fW)) (FI : Fun X.K "is_integer" "is_integer" s_is_integer fI fdI) (gI : X.mg "is_integer" = some (.ref fI)) (B : Bl X.mg) (hr : Room k X.A)
    (I : L2.Inv X ps σ H z) (tP : GxR.TabG H P0) (n1 : X.N[1]? = some ("low" : Str)) (n2 : X.N[2]? = some ("high" : Str)) (v1 : σ[1]? = some (some (.int lo))) (v2 : σ[2]? = some (some (.int hi))) (c1 : X.env.scope.names.lookup ("low" : Str) = some .cell) (c2 : X.env.scope.names.lookup ("high" : Str) = some .cell)
    (hk : scope.kind = .function) (l0 : scope.names.lookup ("is_within_bounds" : Str) = some .globalImplicit) (l1 : scope.names.lookup ("number" : Str) = some .local) (f1 : scope.names.lookup ("low" : Str) = some .free) (f2 : scope.names.lookup ("high" : Str) = some .free)
    (u1 : (cloFrom X.env.cells scope.names []).lookup ("low" : Str) = some ((X.env.cells.lookup ("low" : Str)).getD 0)) (u2 : (cloFrom X.env.cells scope.names []).lookup ("high" : Str) = some ((X.env.cells.lookup ("high" : Str)).getD 0)) :
    EltC X P0 z scope "number" (.Call (.Name "is_within_bounds" p1) [.Name "number" p2, .Name "low" p3, .Name "high" p4] [] p5) (fun v => ∃ i, v = .int i ∧ lo ≤ i ∧ i ≤ hi) (fun _ => true) := by
  rintro cenv A' E' v u t m rv ⟨i, rfl, h1, h2⟩ hA hD hU hsc hgl hbl hcs old hn hm
  obtain ⟨tk, rfl⟩ := rv
  have M := I.ok.mod
  have hb : ∀ b o, X.base.get? b = some o → t.heap.get? b = some o := fun b o e => old b o (fun zz => by
    have no := (I.bs b o e).2
    obtain ⟨tab, e2, _⟩ := tP
    rw [zz, e2] at no
    cases no) (I.bk b o e)
  have kd : cenv.scope.kind = .function := by rw [hsc]; exact hk
  have kI : cenv.kindOf "is_within_bounds" = some .globalImplicit := by show cenv.scope.names.lookup _ = _; rw [hsc]; exact l0
  have kT : cenv.kindOf "number" = some .local := by show cenv.scope.names.lookup _ = _; rw [hsc]; exact l1
  refine wpAny_Call_Name_kw (Calls.Name_function_global kd kI (Calls.loadGlobal_global (by rw [hgl]; exact M.glob.keeps hb) gW ?_) (by decide))
  refine PySem.W.callWith_K (h₀ := X.base) M.kin FW.kp ?_ (by rfl) (by rfl)
  show wpAny _ _ (spliced ((false, eval (.Name "number" p2) cenv) :: (false, eval (.Name "low" p3) cenv) :: (false, eval (.Name "high" p4) cenv) :: [])) _ _ _
  refine Calls.spliced_cons (wpAny_Name (wpAny_loadName_local kd kT hn hm ?_) (by decide))
  refine Calls.spliced_cons (free_read I n1 v1 c1 tP hsc hk f1 hcs u1 old fun w1 r1 => ?_)
  obtain ⟨t1, rfl⟩ := r1
  refine Calls.spliced_cons (free_read I n2 v2 c2 tP hsc hk f2 hcs u2 old fun w2 r2 => ?_)
  obtain ⟨t2, rfl⟩ := r2
  refine Calls.spliced_nil ⟨M.kin.keeps hb, ?_⟩
  exact wpAny_call (within_call FW FI gI B M (by have := hr.dp; omega) hb h1 h2 fun s' hs => ⟨rfl, hs⟩)
def spAwb (K : PySem.W.Frag) (T : Addr → Prop) : Sp := fun vs H Q _ => ∃ (a : Addr) (l : List Nat) (lo hi : Int), vs = [.ref a, .int lo, .int hi] ∧ SeqLT K H a (vl l) ∧ (∀ k ∈ l, lo ≤ (k : Int) ∧ (k : Int) ≤ hi) ∧ Tabs H T ∧ ∀ H', Go T H H' → Q (.bl true) H'
theorem ok_awb {f fL fI fW c t2 : Addr} {fd fdL fdI fdW : FuncData} (F : Fun K "are_within_bounds" "are_within_bounds" s_awb f fd) (hc : fd.code = .ref c) (hT : T t2) (TB : GxR.TabB base mg c t2) (L : Df K mg "is_list" s_is_list ["value"] fL fdL) (W : Df K mg "is_within_bounds" s_is_within_bounds ["value", "low", "high"] fW fdW) (I : Df K mg "is_integer" s_is_integer ["value"] fI fdI) (B : Bl mg) :
    FnOk P w K mg base CX0 2 f fd ["value", "low", "high"] (spAwb K T) := by
  have G : FnOk P w K mg base CX0 1 fL fdL ["value"] (spIsl K T) := ok_is_list L.fn B
  obtain ⟨oc, od, kV, doc, pm, an, cdv, ct, osl, rfl, lk, hcd⟩ := F.ex
  have hc' : cdv = .ref c := hc
  subst hc'
  refine fn_of lk hcd sc_awb (fun vs H Q E h => ?_) (fun A outer s H vs Q E hr h => ?_)
  · obtain ⟨a, l, lo, hi, rfl, _⟩ := h
    rfl
  · obtain ⟨a, l, lo, hi, rfl, hs, hb, ht, q⟩ := h
    refine ⟨_, pss_one (ps_ret (pe_and (pe_call G hr (by rfl) L.at_ L.fn.kp L.bind .nil pass0 (pa_cons (pv 0) pa_nil))
      (pe_one (pe_allC hr (by rfl) B.all (by decide +kernel) TB rfl (gens_free ["low", "high"] rfl rfl (by decide +kernel) (by rfl) (by rfl) (by decide +kernel) (fun f hf => by
        rcases List.mem_cons.mp hf with rfl | hf
        · exact ⟨_, rfl⟩
        · cases List.mem_singleton.mp hf
          exact ⟨_, rfl⟩)) (pv 0) (fun _ => rfl))))), ?_⟩
    refine ⟨.ref a, rfl, a, vl l, rfl, hs, ht, fun H1 g1 => ⟨true, rfl, iteT ?_⟩⟩
    refine ⟨.ref a, rfl, a, vl l, (fun v => ∃ i, v = .int i ∧ lo ≤ i ∧ i ≤ hi), (fun _ => true), rfl, g1.lt ht hs, fun v hv => ?_, g1.1 _ hT, fun ps z I1 => ?_, fun H2 tb => ?_⟩
    · obtain ⟨i, hi', rfl⟩ := List.mem_map.mp hv
      obtain ⟨k, hk, rfl⟩ := List.mem_map.mp hi'
      exact ⟨_, rfl, hb k hk⟩
    · exact elt_within W.fn W.at_ I.fn I.at_ B hr I1 (g1.1 _ hT) rfl rfl rfl rfl (by rfl) (by rfl) rfl (by rfl) (by rfl) (by rfl) (by rfl) (by rfl) (by rfl)
    · rw [List.all_eq_true.mpr (fun _ _ => rfl)]
      exact q _ (g1.trans (Go.tabbed hT g1.1 tb))
end
end Lb

set_option Elab.async false
set_option linter.all false
set_option maxRecDepth 100000
set_option maxHeartbeats 2000000
namespace Lb
open PySem PySem.Spec PyProof.Rows L2
open AutoSeq1 (wpAny_loadPart')

/-! ### for i, x in enumerate(t), t a tuple -/
theorem enum_newT (t : Addr) (items : Array Value) (n : Nat) (dd : Option Addr) (sl : Array (Option Value)) :
    Meets (Builtin.«enumerate.__new__» ⟨[.type "enumerate", .ref t], []⟩) (fun _ R s => s.heap.get? t = some ⟨.type "tuple", dd, .seq items n, sl⟩ ∧
      R (.ok (.ret (.ref (s.heap.push { cls := .type "tuple_iterator", data := .fields #[.ref t, .int 0 0] }).objs.size)))
        { s with heap := (s.heap.push { cls := .type "tuple_iterator", data := .fields #[.ref t, .int 0 0] }).push { cls := .type "enumerate", data := .fields #[.none, .bool false, .ref s.heap.objs.size, rawInt 0, .none, .none] } }) :=
  .of_wp fun prog w A R s h => by
    obtain ⟨hp, g, d, tk, os⟩ := s
    obtain ⟨ho, h⟩ := h
    have hsub := sub_enumerate
    have isT : Heap.IsTuple (Shared.heap ⟨hp, g, d, tk, os⟩) t items := ⟨_, ho, rfl, n, rfl⟩
    wp_walk using wpAny_loadPart' ho
    refine wpAny_stack_any fun st => wpAny_pure ?_
    split
    · rename_i c _ _ _ _ _
      cases (c == Value.type "enumerate") <;> (wp_walk using wpAny_loadPart' ho, wpAny_pyIter_tuple isT; exact ⟨_, rfl, h⟩)
    · wp_walk using wpAny_loadPart' ho, wpAny_pyIter_tuple isT
      exact ⟨_, rfl, h⟩
theorem call_enumT {P : Program} {w : World} {A : Around} {E : Value → Shared → Prop} {s : Shared} {t : Addr} {items : Array Value} {Q : Value → Shared → Prop} (ht : s.heap.IsTuple t items)
    (h : ∀ h', IsEnum h' (s.heap.objs.size + 1) s.heap.objs.size 0 .none → h'.IsTupleIter s.heap.objs.size t 0 → (∀ b o, s.heap.get? b = some o → h'.get? b = some o) → Q (.ref (s.heap.objs.size + 1)) { s with heap := h' }) :
    wpAny (model P w) A (call (.type "enumerate") [.ref t]) Q E s := by
  obtain ⟨⟨c, dd, dt, sl⟩, ho, hc, n, hd⟩ := ht
  have hc' : c = .type "tuple" := hc
  have hd' : dt = .seq items n := hd
  subst hc' hd'
  refine callType_new F.called_enumerate (by decide) (F.typeCall_enumerate_1 _) (F.newCall_enumerate_1 _) (fun obj => F.args_object_init_2 obj _) F.entry_enumerate_new (enum_newT t items n dd sl) ⟨ho, ?_⟩
  have z : (s.heap.push { cls := .type "tuple_iterator", data := .fields #[.ref t, .int 0 0] }).objs.size = s.heap.objs.size + 1 := Heap.size_push ..
  show _ ∧ _
  rw [z]
  have he : IsEnum ((s.heap.push { cls := .type "tuple_iterator", data := .fields #[.ref t, .int 0 0] }).push { cls := .type "enumerate", data := .fields #[.none, .bool false, .ref s.heap.objs.size, rawInt 0, .none, .none] }) (s.heap.objs.size + 1) s.heap.objs.size 0 .none := by
    have q := Heap.get?_push_size (s.heap.push { cls := .type "tuple_iterator", data := .fields #[.ref t, .int 0 0] }) (o := { cls := .type "enumerate", data := .fields #[.none, .bool false, .ref s.heap.objs.size, rawInt 0, .none, .none] }) rfl
    rw [z] at q
    exact q
  exact ⟨⟨_, he, rfl⟩, h _ he ⟨_, Heap.get?_push_of_some _ (Heap.get?_push_size _ rfl), rfl, rfl⟩ fun b o x => Heap.get?_push_of_some _ (Heap.get?_push_of_some _ x)⟩
/-- the places and things of the tuple at a, each pair a new tuple -/
def IteT (K : PySem.W.Frag) (a : Addr) : It :=
  ⟨fun i H => ∃ (xs : List V) (x : V), SqT K H a xs ∧ xs[i]? = some x, fun i H v H' => ∃ T x, v = .ref T ∧ H T = none ∧ H' = upd H T (.tup [.int (i : Nat), x]) ∧ ∀ xs, SqT K H a xs → xs[i]? = some x, fun i H => ∃ xs : List V, SqT K H a xs ∧ xs.length = i⟩
theorem turn_enumT {P : Program} {w : World} {K : PySem.W.Frag} {elts : List Expr} {kk : Nat} {tpos : Pos} (a e it : Addr) :
    Turn P w K (.Tuple elts kk tpos) (IteT K a) [e, it] e (fun i h => (∃ old, IsEnum h e it ((i : Nat) : Int) old) ∧ h.IsTupleIter it a i ∧ e ≠ it) where
  mem := .head _
  obj := fun i h ⟨⟨old, he⟩, ⟨o, ho, _, hd⟩, _⟩ b hb => by
    rcases List.mem_cons.mp hb with rfl | hb
    · exact ⟨_, he, fun v q => nomatch q⟩
    · cases List.mem_singleton.mp hb
      exact ⟨o, ho, fun v q => by rw [hd] at q; cases q⟩
  keep := fun i h h' ⟨⟨old, he⟩, hi, hne⟩ k => ⟨⟨old, k e (.head _) _ he⟩, hi.at fun o q => k it (.tail _ (.head _)) o q, hne⟩
  item := by
    intro X hP hw hK hc i pins s σ H E I hf ⟨⟨old, he⟩, hit, hne⟩ ⟨xs, x, hq, hx⟩
    subst hP hw hK
    obtain ⟨its, rv, p, hz⟩ := I.tuple hq
    have isT : s.heap.IsTuple a its.toArray := p
    obtain ⟨u, hu, ru⟩ := rv.get hx
    have el : e < s.heap.objs.size := Heap.lt_size he
    have il : it < s.heap.objs.size := let ⟨_, q, _⟩ := hit; Heap.lt_size q
    have a_it : a ≠ it := fun z => by
      obtain ⟨o1, e1, c1, _⟩ := isT
      obtain ⟨o2, e2, c2, _⟩ := hit
      rw [z, e2] at e1
      cases e1
      rw [c1] at c2
      exact absurd (Value.type.inj c2) (by decide)
    have a_e : e ≠ a := fun z => by
      obtain ⟨o1, e1, c1, _⟩ := isT
      have e2 : s.heap.get? e = some _ := he
      rw [z, e1] at e2
      cases e2
      exact absurd (Value.type.inj c1) (by decide)
    have hh := I.ok.hd hc
    have hi : i < its.toArray.size := by
      rw [List.size_toArray]
      exact (List.getElem?_eq_some_iff.mp hu).1
    refine wpAny_pyNext_enum_itemD (Draws.tuple (A := X.A.in1) hh it a a_it its.toArray) he ⟨hit, isT⟩ hi hne (fun z => ?_) fun y h' tk hy ho st' hT hsz hk => ?_
    · rcases List.mem_cons.mp z with z | z
      · exact hne z
      · exact a_e (List.mem_singleton.mp z)
    · have ey : y = u := by
        have z : its.toArray[i]? = some y := hy
        rw [List.getElem?_toArray, hu] at z
        exact (Option.some.inj z).symm
      subst ey
      refine ⟨_, rfl, wpAny_letOwnedTupleGo_enum (s := { s with heap := h', toks := tk + 1 }) ho fun h'' he' sb => ?_⟩
      have hT2 : h''.get? s.heap.objs.size = some { cls := .type "tuple", data := .seq #[.int i tk, y] } := (sb.2 _ (Nat.ne_of_gt el)).trans hT
      have I1 : L2.Inv X pins σ (upd H s.heap.objs.size (.tup [.int (i : Nat), x])) { s with heap := h'', toks := tk + 1 } := by
        refine I.turnedNew (ch := [e, it]) (fun b ob hb q => ?_) hf (Nat.le_refl _) ⟨by show 2 ≤ sizeLine; decide, [.int i tk, y], .cons ⟨_, rfl⟩ (.cons ru .nil), ⟨_, hT2, rfl, _, rfl⟩⟩
        have n1 : b ≠ e := fun z => hb (by rw [z]; exact .head _)
        have n2 : b ≠ it := fun z => hb (by rw [z]; exact .tail _ (.head _))
        exact (sb.2 b n1).trans (hk b ob n1 n2 q)
      refine ⟨.ref s.heap.objs.size, _, I1, rfl, ⟨_, x, rfl, I.hok.fresh (Nat.le_refl _), rfl, fun ys hy => by rw [I.tuple_inj hy hq]; exact hx⟩, ⟨⟨y, ?_⟩, st'.1.at fun o q => (sb.2 it hne.symm).trans q, hne⟩, fun b hb => ?_⟩
      · rw [show ((i + 1 : Nat) : Int) = (i : Int) + 1 by omega]
        exact he'
      · have hb' : b < s.heap.objs.size := by
          rcases List.mem_cons.mp hb with z | z
          · rw [z]
            exact el
          · rw [List.mem_singleton.mp z]
            exact il
        rw [upd_ne (Nat.ne_of_lt hb')]
        exact (hf b hb).1
  done := by
    intro X hP hw hK hc i pins s σ H E I hf ⟨⟨old, he⟩, hit, hne⟩ ⟨xs, hq, hx⟩
    subst hP hw hK
    obtain ⟨its, rv, p, hz⟩ := I.tuple hq
    have isT : s.heap.IsTuple a its.toArray := p
    have hh := I.ok.hd hc
    have lenI := rv.length
    have a_it : a ≠ it := fun z => by
      obtain ⟨o1, e1, c1, _⟩ := isT
      obtain ⟨o2, e2, c2, _⟩ := hit
      rw [z, e2] at e1
      cases e1
      rw [c1] at c2
      exact absurd (Value.type.inj c2) (by decide)
    have ei : its.toArray.size = i := by
      rw [List.size_toArray, ← lenI]
      exact hx
    obtain ⟨f0, f1, _, f3, f4, f5⟩ := hf it (.tail _ (.head _))
    refine wpAny_pyNext_enum_endD (Draws.tuple (A := X.A.in1) hh it a a_it its.toArray) he ⟨by rw [ei]; exact hit, isT⟩ fun h' eb => ⟨rfl, I.turned (t' := s.toks) (fun b o hb q => eb b o hb q) f0 f1 f3 f4 f5⟩
  self := fun A i s Q E ⟨⟨_, he⟩, _⟩ h => wpAny_pyIter_enum he h
def iEnumT (K : PySem.W.Frag) (ta : TA) : TI := fun σ H R => ta σ H fun vs H1 => ∃ a xs, vs = [.ref a] ∧ SqT K H1 a xs ∧ R (IteT K a) H1
theorem pi_enumT {X : Cx} {e : Expr} {ta : TA} {p pos tpos : Pos} {elts : List Expr} {kk : Nat} (hg : Gl X "enumerate") (hm : X.mg "enumerate" = none) (ha : PA X [e] ta) (hs : starEach [e] X.env = [(false, eval e X.env)] := by rfl) :
    PI X (.Tuple elts kk tpos) (.Call (.Name "enumerate" p) [e] [] pos) (iEnumT X.K ta) := by
  refine ⟨fun pins s σ H R I h => Call_ (ld_blt I hg hm boot_enumerate (PyProof.Rows.callWith_type1 (thn (ha.run pos pins s σ H _ I h) fun us s1 ⟨vs, H1, I1, r1, q1⟩ => ?_) hs rfl))⟩
  obtain ⟨a, xs, rfl, hq, q⟩ := q1
  rw [Vals.ref1 r1]
  obtain ⟨its, rv, p', hz⟩ := I1.tuple hq
  refine call_enumT (show s1.heap.IsTuple a its.toArray from p') fun h' he hit hk => wpAny_pyIter_enum he ?_
  refine ⟨s1.heap.objs.size + 1, [s1.heap.objs.size + 1, s1.heap.objs.size], _, _, H1, rfl, I1.kept (t' := s1.toks) hk, turn_enumT a (s1.heap.objs.size + 1) s1.heap.objs.size, ⟨⟨.none, he⟩, hit, Nat.succ_ne_self _⟩, fun b hb => ?_, q⟩
  have le : s1.heap.objs.size ≤ b := by
    rcases List.mem_cons.mp hb with z | z
    · rw [z]
      exact Nat.le_succ _
    · rw [List.mem_singleton.mp z]
      exact Nat.le_refl _
  exact I1.fpOk le (I1.hok.fresh le)
/-- the loop over enumerate(t): the pair is a new tuple at each turn -/
theorem for_enumT {K : PySem.W.Frag} {a : Addr} {xs : List V} {g : TG} {tb : TS} {D : Ends} {σ : L2.St} {H : Hp} (Pv : Nat → L2.St → Hp → Prop) (h0 : Pv 0 σ H) (hl : ∀ i σ H, i ≤ xs.length → Pv i σ H → SqT K H a xs)
    (hs : ∀ i x σ H T, xs[i]? = some x → Pv i σ H → H T = none → g (.ref T) σ (upd H T (.tup [.int (i : Nat), x])) fun σ2 H2 => tb { D with nx := Pv (i + 1), ct := Pv (i + 1), bk := D.nx } σ2 H2) (hd : ∀ σ H, Pv xs.length σ H → D.nx σ H) :
    ∃ W : Nat → Nat → L2.St → Hp → Prop, (∃ m, W 0 m σ H) ∧ ∀ i m σ H, W i m σ H →
      ((IteT K a).stop i H ∧ D.nx σ H) ∨ ((IteT K a).go i H ∧ ∃ N : L2.St → Hp → Prop, (∀ σ' H', N σ' H' → ∃ m', m' < m ∧ W (i + 1) m' σ' H') ∧ ∀ x H', (IteT K a).yld i H x H' → g x σ H' fun σ2 H2 => tb { D with nx := N, ct := N, bk := D.nx } σ2 H2) := by
  refine ⟨fun i m σ H => m = xs.length - i ∧ i ≤ xs.length ∧ Pv i σ H, ⟨_, rfl, Nat.zero_le _, h0⟩, ?_⟩
  rintro i m σ H ⟨rfl, hi, p⟩
  have sq := hl i σ H hi p
  by_cases hlt : i < xs.length
  · refine .inr ⟨⟨xs, xs[i], sq, List.getElem?_eq_getElem hlt⟩, Pv (i + 1), fun σ' H' p' => ⟨_, by omega, rfl, hlt, p'⟩, ?_⟩
    rintro x H' ⟨T, y, rfl, hT, rfl, hy⟩
    exact hs i y σ H T (hy xs sq) p hT
  · have e : i = xs.length := by omega
    subst e
    exact .inl ⟨⟨xs, sq, rfl⟩, hd σ H p⟩
end Lb

set_option Elab.async false
set_option linter.all false
set_option maxRecDepth 100000
set_option maxHeartbeats 2000000
namespace Lb
open PySem PySem.Spec PyProof.Rows L2

section
variable {X : Cx}
/-! max of one list or tuple of whole numbers -/
theorem reads_ints {h : Heap} : ∀ (ns : List Int) (its : List Value), Vals (ns.map V.int) its → ∃ as, ReadsAll h its (ns.map PyData.int) as
  | [], its, r => by
    cases r
    exact ⟨_, .nil⟩
  | n :: ns, its, r => by
    cases r with
    | cons r1 r2 =>
      obtain ⟨t, rfl⟩ := r1
      obtain ⟨as, q⟩ := reads_ints ns _ r2
      exact ⟨_, .cons (.int n t) q⟩
theorem depth_ints : ∀ ns : List Int, PyData.depthAll (ns.map PyData.int) = 0
  | [] => by
    show PyData.depthAll [] = 0
    rw [PyData.depthAll]
  | n :: ns => by
    show PyData.depthAll (PyData.int n :: ns.map PyData.int) = 0
    rw [PyData.depthAll, depth_ints ns, PyData.depth]
    rfl
theorem alike_ints (ns : List Int) : PySem.W.AlikeAll (ns.map PyData.int) := by
  refine ⟨fun x hx y hy => ?_, fun x hx => ?_⟩
  · obtain ⟨i, _, rfl⟩ := List.mem_map.mp hx
    obtain ⟨j, _, rfl⟩ := List.mem_map.mp hy
    rfl
  · obtain ⟨i, _, rfl⟩ := List.mem_map.mp hx
    exact fun z => nomatch z
def rMaxS (K : PySem.W.Frag) : List V → Hp → VK → Prop := fun xs H Q => ∃ (a : Addr) (n : Int) (ns : List Int), xs = [.ref a] ∧ SeqLT K H a ((n :: ns).map V.int) ∧ Q (.int (ns.foldl max n)) H
theorem cr_maxS (hc : X.calm = true) (hu : X.A.units + 1 < cLine) : CallR X (.builtin "max") (rMaxS X.K) := by
  intro pins s σ H xs us Q I r h
  obtain ⟨a, n, ns, rfl, hq, q⟩ := h
  rw [Vals.ref1 r]
  have room : X.A.units + 1 + PyData.depthAll (PyData.int n :: ns.map PyData.int) < cLine := by
    have e := depth_ints (n :: ns)
    rw [List.map_cons] at e
    rw [e]
    exact hu
  have fin : ∀ (v : Value) (h' : Heap) (tk : Nat) (bs : List Addr), Reads h' v (PySem.W.maxD (.int n) (ns.map PyData.int)) bs → (∀ b o, s.heap.get? b = some o → h'.get? b = some o) → EP X pins σ Q v { s with heap := h', toks := tk } := fun v h' tk bs rd hk => by
    rw [PySem.W.maxD_ints] at rd
    cases rd
    exact ⟨.int _, H, I.kept hk, ⟨_, rfl⟩, q⟩
  rcases hq with hq | hq
  · obtain ⟨its, rv, pl, hz⟩ := I.list hq
    obtain ⟨as, rd⟩ := reads_ints (h := s.heap) (n :: ns) its rv
    exact PySem.W.max_list_data (I.ok.hd hc) pl.isList (by simpa using rd) (alike_ints (n :: ns)) room fun i v h' tk bs _ r hk => fin v h' tk bs r hk
  · obtain ⟨its, rv, pl, hz⟩ := I.tuple hq
    obtain ⟨as, rd⟩ := reads_ints (h := s.heap) (n :: ns) its rv
    exact PySem.W.max_tuple_data (I.ok.hd hc) (show s.heap.IsTuple a its.toArray from pl) (by simpa using rd) (alike_ints (n :: ns)) room fun i v h' tk bs _ r hk => fin v h' tk bs r hk

/-! two tuples that are not empty: the new one is known as it is -/
def rCatF (K : PySem.W.Frag) : R2 := fun x y H Q => ∃ a b xs ys, x = .ref a ∧ y = .ref b ∧ SqT K H a xs ∧ SqT K H b ys ∧ xs ≠ [] ∧ ys ≠ [] ∧ xs.length + ys.length ≤ sizeLine ∧ ∀ (p : Addr) (o : Obj), o.dict = none → H p = none → Q (.ref p) (upd H p (.frz o (.tup (xs ++ ys))))
theorem op_catF : OpR X (binaryOp .Add) (rCatF X.K) := by
  intro pins s σ H x y v u Q I rx ry h
  obtain ⟨a, b, xs, ys, rfl, rfl, ha, hb, nx, ny, hz, q⟩ := h
  cases rx
  cases ry
  obtain ⟨its, r1, p1, _⟩ := I.tuple ha
  obtain ⟨its2, r2, p2, _⟩ := I.tuple hb
  refine HT.cat_tup p1 p2 (fun z => nx (r1.nil_iff.mp z)) (fun z => absurd (r2.nil_iff.mp z) ny) (fun _ => ?_) (by rw [← r1.length, ← r2.length]; exact hz)
  exact ⟨.ref s.heap.objs.size, _, inv_frz I (fun b o e => e) (by rw [List.length_append]; exact hz) (r1.append r2) s.toks, rfl, q _ _ rfl (I.hok.fresh (Nat.le_refl _))⟩

/-! a part of a list or a tuple -/
def rCut (K : PySem.W.Frag) : V → Option Int → Option Int → Hp → VK → Prop := fun x lo hi H Q => ∃ (a : Addr) (xs : List V), x = .ref a ∧ SeqLT K H a xs ∧
  (∀ H' p, (H' = H ∧ cutV xs lo hi = xs ∧ p = a) ∨ (H p = none ∧ (H' = upd H p (.lst (cutV xs lo hi)) ∨ H' = upd H p (.tup (cutV xs lo hi)))) → SeqLT K H' p (cutV xs lo hi) → Q (.ref p) H')
theorem sl_cut : SlR X (rCut X.K) := by
  intro pins s σ H x v vl vu lo hi sl Q I rx hs pl pu h
  obtain ⟨a, xs, rfl, hq, q⟩ := h
  rcases hq with hq | hq
  · exact sl_list pins s σ H _ v vl vu lo hi sl Q I rx hs pl pu ⟨a, xs, rfl, hq, fun p hp => q _ p (.inr ⟨hp, .inl rfl⟩) (.inl (.inl (.inl upd_same)))⟩
  · refine sl_tupA pins s σ H _ v vl vu lo hi sl Q I rx hs pl pu ⟨a, xs, rfl, hq, fun e => ?_, fun _ p hp => q _ p (.inr ⟨hp, .inr rfl⟩) (.inr (.inl (.inl upd_same)))⟩
    have z : cutV xs lo hi = xs := by
      unfold cutV
      rw [e.1, e.2, List.drop_zero, Nat.sub_zero, List.take_length]
    exact q _ _ (.inl ⟨rfl, z, rfl⟩) (by rw [z]; exact .inr hq)
end
theorem Go.cut {T : Addr → Prop} {a p : Addr} {H H' : Hp} {xs zs : List V} (t : Tabs H T) (h : (H' = H ∧ zs = xs ∧ p = a) ∨ (H p = none ∧ (H' = upd H p (.lst zs) ∨ H' = upd H p (.tup zs)))) : Go T H H' := by
  rcases h with ⟨rfl, _⟩ | ⟨hp, rfl | rfl⟩
  · exact Go.refl t
  · exact Go.new t hp
  · exact Go.new t hp

end Lb

set_option Elab.async false
set_option linter.all false
set_option maxRecDepth 100000
set_option maxHeartbeats 2000000
namespace Lb
open PySem PySem.Spec PyProof.Rows L2

abbrev s_pot : Stmt := topS 36
abbrev s_draw : Stmt := topS 37
theorem sc_pot : FnScope ["_law_script", "_law_k", "_law_cell"] ["_law_script", "_law_k"] (defScope s_pot) := ⟨rfl, rfl, rfl, by decide +kernel, rfl, by decide +kernel, by decide +kernel⟩
theorem sc_draw : FnScope ["_law_pot_here", "_law_size", "_law_digit"] ["_law_pot_here", "_law_size"] (defScope s_draw) := ⟨rfl, rfl, rfl, by decide +kernel, rfl, by decide +kernel, by decide +kernel⟩

/-- the pot: what is left of a cell's own digits, and the last mixed number -/
def PotAt (H : Hp) (q : Addr) : Prop := ∃ x y : Int, H q = some (.lst [V.int x, V.int y]) ∧ 0 ≤ x ∧ 0 ≤ y ∧ y < 4294967296
/-- all as it was, but the table may have grown and the pot have changed -/
structure Gp (T : Addr → Prop) (q : Addr) (H H' : Hp) : Prop where
  tab : Tabs H' T
  pot : PotAt H' q
  old : ∀ b u, ¬ T b → b ≠ q → H b = some u → H' b = some u
theorem pot_ne {T : Addr → Prop} {q : Addr} {H : Hp} (h : Tabs H T) (p : PotAt H q) : ¬ T q := by
  obtain ⟨x, y, e, _⟩ := p
  exact ne_tab h e fun _ z => by cases z
theorem PotAt.go {T : Addr → Prop} {q : Addr} {H H' : Hp} (p : PotAt H q) (h : Tabs H T) (g : Go T H H') : PotAt H' q := by
  have n := pot_ne h p
  obtain ⟨x, y, e, r⟩ := p
  exact ⟨x, y, g.2 q _ n e, r⟩
theorem Gp.refl {T : Addr → Prop} {q : Addr} {H : Hp} (h : Tabs H T) (p : PotAt H q) : Gp T q H H := ⟨h, p, fun _ _ _ _ e => e⟩
theorem Go.gp {T : Addr → Prop} {q : Addr} {H H' : Hp} (g : Go T H H') (h : Tabs H T) (p : PotAt H q) : Gp T q H H' := ⟨g.1, p.go h g, fun b u n _ e => g.2 b u n e⟩
theorem Gp.trans {T : Addr → Prop} {q : Addr} {H H1 H2 : Hp} (a : Gp T q H H1) (b : Gp T q H1 H2) : Gp T q H H2 := ⟨b.tab, b.pot, fun c u n m e => b.old c u n m (a.old c u n m e)⟩
theorem Gp.then {T : Addr → Prop} {q : Addr} {H H1 H2 : Hp} (a : Gp T q H H1) (b : Go T H1 H2) : Gp T q H H2 := a.trans (b.gp a.tab a.pot)
theorem Gp.free {T : Addr → Prop} {q p : Addr} {H H' : Hp} (g : Gp T q H H') (n : H' p = none) : H p = none := by
  cases e : H p with
  | none => rfl
  | some u =>
    have nq : p ≠ q := fun z => by
      obtain ⟨x, y, e2, _⟩ := g.pot
      rw [z, e2] at n
      cases n
    have := g.old p u (tab_ne g.tab n) nq e
    rw [n] at this
    cases this
/-- a tuple of the kind that orders are stays where it is -/
theorem Gp.ordT {T : Addr → Prop} {q a : Addr} {H H' : Hp} {xs : List V} (g : Gp T q H H') (t : Tabs H T) (p : PotAt H q) (h : OrdK true H a xs) : OrdK true H' a xs := by
  obtain ⟨o, d, h⟩ := h
  obtain ⟨x, y, e, _⟩ := p
  exact ⟨o, d, g.old a _ (ne_tab t h fun _ z => by cases z) (ne_of h e fun z => by cases z) h⟩
/-- an order that is not the pot -/
theorem Gp.ord {T : Addr → Prop} {q a : Addr} {b : Bool} {H H' : Hp} {xs : List V} (g : Gp T q H H') (t : Tabs H T) (n : a ≠ q) (h : OrdK b H a xs) : OrdK b H' a xs := by
  cases b with
  | false => exact g.old a _ (ne_tab t h fun _ z => by cases z) n h
  | true =>
    obtain ⟨o, d, h⟩ := h
    exact ⟨o, d, g.old a _ (ne_tab t h fun _ z => by cases z) n h⟩

structure Bl2 (mg : Str → Option Value) : Prop where
  b : Bl mg
  abs : mg "abs" = none
  max : mg "max" = none
  min : mg "min" = none
  divmod : mg "divmod" = none
  enumerate : mg "enumerate" = none
  repr : mg "repr" = none

section
variable {P : Program} {w : World} {K : PySem.W.Frag} {mg : Str → Option Value} {base : Heap} {T : Addr → Prop}

def spPot (K : PySem.W.Frag) (T : Addr → Prop) : Sp := fun vs H Q _ => ∃ (a : Addr) (ns : List Int) (k : Nat), vs = [.ref a, .int (k : Int)] ∧ SqL K H a (ns.map V.int) ∧ ns.length ≤ 63 ∧ k ≤ 3 ∧ Tabs H T ∧ ∀ H' q, Go T H H' → H q = none → PotAt H' q → Q (.ref q) H'
theorem ok_pot {f : Addr} {fd : FuncData} (F : Fun K "_law_pot" "_law_pot" s_pot f fd) (B : Bl2 mg) : FnOk P w K mg base CX0 1 f fd ["_law_script", "_law_k"] (spPot K T) := by
  refine F.ok sc_pot (fun vs H Q E h => ?_) (fun cdv A outer s H vs Q E hr h => ?_)
  · obtain ⟨a, ns, k, rfl, _⟩ := h
    rfl
  · obtain ⟨a, ns, k, rfl, ha, hl, hk, ht, q⟩ := h
    refine ⟨_, pss_cons (ps_set (i := 2) sc_pot.nd rfl (.inl rfl) (pe_ifExp (pt_cmpR op_lt (pv 1) (pe_callB call_len_seq (by rfl) B.b.len PySem.boot_len (pa_cons (pv 0) pa_nil)) (nomark _)) (pe_callB call_abs (by rfl) B.abs (by decide +kernel) (pa_cons (pe_ix ix_list (pv 0) (pv 1) (fun _ _ => rfl)) pa_nil)) (pe_op op_add (pe_op op_mul pe_int (pv 1)) pe_int)))
      (pss_one (ps_ret (pe_lst (pa_cons (pe_callB (call_max2 rfl) (by rfl) B.max (by decide +kernel) (pa_cons pe_int (pa_cons (pe_op op_sub (pv 2) (pe_op op_pow pe_int pe_int)) pa_nil)))
        (pa_cons (pe_op op_add (pe_op op_mod (pe_callTy call_int1 (by rfl) B.b.int (by decide +kernel) (pa_cons (pe_op op_add (pe_op op_add (pe_op op_mul (pe_op op_mod (pe_callTy call_int1 (by rfl) B.b.int (by decide +kernel) (pa_cons (pv 2) pa_nil)) pe_int) pe_int) (pe_op op_mul pe_int (pv 1))) pe_int) pa_nil)) pe_int) pe_int) pa_nil))))), ?_⟩
    have fin : ∀ cell : Int, (∀ p, H p = none → Q (.ref p) (upd H p (.lst [.int (if cell - 1000000000000000000 > 0 then cell - 1000000000000000000 else 0), .int ((cell % 2147483549 * 40151 + 6229 * (k : Int) + 71) % 2147483563 + 1)]))) := fun cell p hp => by
      refine q _ p (Go.new ht hp) hp ⟨_, _, upd_same, ?_, ?_, ?_⟩
      · split <;> omega
      · omega
      · omega
    refine ⟨.int (k : Int), rfl, .ref a, rfl, a, _, rfl, .inl ha, _, _, rfl, rfl, _, rfl, ?_⟩
    refine ite2 (fun e => ?_) (fun e => ?_)
    · have hk2 : k < ns.length := by
        have z := of_decide_eq_true e
        rw [List.length_map] at z
        omega
      have e1 : (ns.map V.int)[k]? = some (.int ns[k]) := by
        rw [List.getElem?_map, List.getElem?_eq_getElem hk2]
        rfl
      refine ⟨.ref a, rfl, .int (k : Int), rfl, a, _, (k : Int), _, rfl, rfl, ha, atI_nat e1, _, rfl, ?_⟩
      generalize (if ns[k] < 0 then -ns[k] else ns[k]) = cell
      exact ⟨.int cell, rfl, _, _, rfl, rfl, ⟨by decide, by decide, by decide⟩, _, _, rfl, rfl, _, _, rfl, .int cell, rfl, .inl ⟨_, rfl, _, _, rfl, rfl, by show (0 : Int) < 2147483549; decide, _, _, rfl, rfl, .inl ⟨by omega, by omega⟩, .int (k : Int), rfl, _, _, rfl, rfl, .inl ⟨by decide, by decide⟩, _, _, rfl, rfl, _, _, rfl, rfl, .inl ⟨_, rfl, _, _, rfl, rfl, by show (0 : Int) < 2147483563; decide, _, _, rfl, rfl, by show 2 ≤ sizeLine; decide, fin _⟩⟩⟩
    · refine ⟨.int (k : Int), rfl, _, _, rfl, rfl, .inl ⟨by decide, by decide⟩, _, _, rfl, rfl, ?_⟩
      exact ⟨.int (317 * (k : Int) + 109), rfl, _, _, rfl, rfl, ⟨by decide, by decide, by decide⟩, _, _, rfl, rfl, _, _, rfl, .int (317 * (k : Int) + 109), rfl, .inl ⟨_, rfl, _, _, rfl, rfl, by show (0 : Int) < 2147483549; decide, _, _, rfl, rfl, .inl ⟨by omega, by omega⟩, .int (k : Int), rfl, _, _, rfl, rfl, .inl ⟨by decide, by decide⟩, _, _, rfl, rfl, _, _, rfl, rfl, .inl ⟨_, rfl, _, _, rfl, rfl, by show (0 : Int) < 2147483563; decide, _, _, rfl, rfl, by show 2 ≤ sizeLine; decide, fin _⟩⟩⟩


def spDraw (T : Addr → Prop) : Sp := fun vs H Q _ => ∃ (q : Addr) (n : Nat), vs = [.ref q, .int (n : Int)] ∧ 1 ≤ n ∧ n ≤ 100 ∧ PotAt H q ∧ Tabs H T ∧ ∀ H' (d : Nat), Gp T q H H' → d < n → Q (.int (d : Int)) H'
theorem set_pot {T : Addr → Prop} {q : Addr} {H : Hp} {x y : Int} {o : HO} (ht : Tabs H T) (p : PotAt H q) (h0 : 0 ≤ x) (h1 : 0 ≤ y) (h2 : y < 4294967296) (H' : Hp) (g : Gp T q H H') (e : o = .lst [V.int x, V.int y]) : Gp T q H (upd H' q o) := by
  have n := pot_ne ht p
  subst e
  refine ⟨?_, ⟨x, y, upd_same, h0, h1, h2⟩, fun b u n1 n2 e => by rw [upd_ne n2]; exact g.old b u n1 n2 e⟩
  exact g.tab.put n
theorem ok_draw {f : Addr} {fd : FuncData} (F : Fun K "_law_draw" "_law_draw" s_draw f fd) (B : Bl2 mg) : FnOk P w K mg base CX0 1 f fd ["_law_pot_here", "_law_size"] (spDraw T) := by
  refine F.ok sc_draw (fun vs H Q E h => ?_) (fun cdv A outer s H vs Q E hr h => ?_)
  · obtain ⟨q, n, rfl, _⟩ := h
    rfl
  · obtain ⟨q, n, rfl, h1, h2, pt, ht, k⟩ := h
    refine ⟨_, pss_cons (ps_if (pt_cmpR op_gt (pe_ix ix_list (pv 0) pe_int (fun _ _ => rfl)) pe_int (nomark _))
        (pss_cons (ps_asg (pe_callB call_divmod (by rfl) B.divmod (by decide +kernel) (pa_cons (pe_ix ix_list (pv 0) pe_int (fun _ _ => rfl)) (pa_cons (pv 1) pa_nil))) (pg_tup rfl (pgs_cons (pg_sub (pv 0) pe_int set_list) (pgs_cons (pg_name (i := 2) sc_draw.nd rfl (.inl rfl)) pgs_nil)))) (pss_one (ps_ret (pv 2)))) pss_nil)
      (pss_cons (ps_asg (pe_op op_mod (pe_callTy call_int1 (by rfl) B.b.int (by decide +kernel) (pa_cons (pe_op op_add (pe_op op_mul (pe_ix ix_list (pv 0) pe_int (fun _ _ => rfl)) pe_int) pe_int) pa_nil)) pe_int) (pg_sub (pv 0) pe_int set_list))
      (pss_one (ps_ret (pe_op op_mod (pe_callTy call_int1 (by rfl) B.b.int (by decide +kernel) (pa_cons (pe_op op_fdiv (pe_op op_mod (pe_callTy call_int1 (by rfl) B.b.int (by decide +kernel) (pa_cons (pe_op op_mul (pe_ix ix_list (pv 0) pe_int (fun _ _ => rfl)) (pe_ix ix_list (pv 0) pe_int (fun _ _ => rfl))) pa_nil)) pe_int) pe_int) pa_nil)) (pv 1))))), ?_⟩
    obtain ⟨x, y, e, x0, y0, yb⟩ := id pt
    have at0 : atI [V.int x, V.int y] 0 = some (.int x) := rfl
    have at1 : atI [V.int x, V.int y] 1 = some (.int y) := rfl
    refine ⟨.ref q, rfl, q, _, 0, _, rfl, rfl, SqL.of e, at0, _, _, rfl, rfl, _, rfl, ite2 (fun c => ?_) (fun c => ?_)⟩
    · refine ⟨.ref q, rfl, q, _, 0, _, rfl, rfl, SqL.of e, at0, .int (n : Int), rfl, x, (n : Int), rfl, ⟨by omega, by omega⟩, fun t hn => ?_⟩
      have nqt : q ≠ t := ne_of_none e hn
      refine ⟨t, _, rfl, SqT.of upd_same, rfl, _, _, rfl, ?_⟩
      refine ⟨.ref q, rfl, q, _, 0, 0, rfl, rfl, by rw [upd_ne nqt]; exact e, rfl, _, _, rfl, rfl, ?_⟩
      have m0 : 0 ≤ x % (n : Int) := Int.emod_nonneg _ (by omega)
      have m1 : x % (n : Int) < (n : Int) := Int.emod_lt_of_pos _ (by omega)
      have em : x % (n : Int) = (((x % (n : Int)).toNat : Nat) : Int) := by omega
      refine ⟨.int (x % (n : Int)), rfl, ?_⟩
      rw [em]
      refine k _ (x % (n : Int)).toNat (set_pot ht pt (Int.ediv_nonneg x0 (by omega)) y0 yb _ ((Go.new ht hn).gp ht pt) rfl) (by omega)
    · refine ⟨.ref q, rfl, q, _, 1, _, rfl, rfl, SqL.of e, at1, _, _, rfl, rfl, .inl ⟨by omega, by omega⟩, _, _, rfl, rfl, .inl ⟨_, rfl, _, _, rfl, rfl, by show (0 : Int) < 2147483563; decide, .ref q, rfl, q, _, 1, 1, rfl, rfl, e, rfl, ?_⟩⟩
      have y1 : 0 ≤ (y * 39551 + 30047) % 2147483563 := by omega
      have y2 : (y * 39551 + 30047) % 2147483563 < 4294967296 := by omega
      have g := set_pot ht pt x0 y1 y2 _ (Gp.refl ht pt) rfl
      have e' : (upd H q (.lst [V.int x, V.int ((y * 39551 + 30047) % 2147483563)])) q = some (.lst [V.int x, V.int ((y * 39551 + 30047) % 2147483563)]) := upd_same
      have at1' : atI [V.int x, V.int ((y * 39551 + 30047) % 2147483563)] 1 = some (.int ((y * 39551 + 30047) % 2147483563)) := rfl
      refine ⟨.ref q, rfl, q, _, 1, _, rfl, rfl, SqL.of e', at1', .ref q, rfl, q, _, 1, _, rfl, rfl, SqL.of e', at1', _, _, rfl, rfl, .inl ⟨by omega, by omega⟩, .inl ⟨_, rfl, _, _, rfl, rfl, by show (0 : Int) < 2147483549; decide, _, _, rfl, rfl, ⟨by decide, by decide⟩, .inl ⟨_, rfl, .int (n : Int), rfl, _, _, rfl, rfl, by show (0 : Int) < (n : Int); omega, ?_⟩⟩⟩
      generalize ((y * 39551 + 30047) % 2147483563 * ((y * 39551 + 30047) % 2147483563) % 2147483549 / 23) = z
      have m0 : 0 ≤ z % (n : Int) := Int.emod_nonneg _ (by omega)
      have m1 : z % (n : Int) < (n : Int) := Int.emod_lt_of_pos _ (by omega)
      have em : z % (n : Int) = (((z % (n : Int)).toNat : Nat) : Int) := by omega
      show Q (.int (z % (n : Int))) _
      rw [em]
      exact k _ (z % (n : Int)).toNat g (by omega)
end
end Lb

set_option Elab.async false
set_option linter.all false
set_option maxRecDepth 100000
set_option maxHeartbeats 4000000
namespace Lb
open PySem PySem.Spec PyProof.Rows L2

section
variable {X : Cx}
/-- tuple(range(a, b, c)) -/
def tTupR3 (ta : TA) : TE := fun σ H Q => ta σ H fun vs H1 => ∃ (i j c : Int) (n : Nat), vs = [.int i, .int j, .int c] ∧ RgC i j c n ∧ n ≤ 1000 ∧ ∀ (q : Addr) (o : Obj), o.dict = none → H1 q = none → Q (.ref q) (upd H1 q (.frz o (.tup ((List.range n).map fun k : Nat => V.int (i + (k : Int) * c)))))
theorem pe_tupR3 {a b c : Expr} {ta : TA} {p p' pos pos' : Pos} (hc : X.calm = true) (hg : Gl X "tuple") (hm : X.mg "tuple" = none) (hg' : Gl X "range") (hm' : X.mg "range" = none) (ha : PA X [a, b, c] ta)
    (na : starEach [.Call (.Name "range" p') [a, b, c] [] pos'] X.env = (false, eval (.Call (.Name "range" p') [a, b, c] [] pos') X.env) :: starEach [] X.env := by rfl)
    (hs : starEach [a, b, c] X.env = (false, eval a X.env) :: starEach [b, c] X.env := by rfl) (hpl : (backTo pos' (starEach [b, c] X.env)).any (·.1) = false := by rfl) :
    PE X (.Call (.Name "tuple" p) [.Call (.Name "range" p') [a, b, c] [] pos'] [] pos) (tTupR3 ta) := by
  refine ⟨fun pins s σ H Q I h => ?_⟩
  refine Call_ (ld_blt I hg hm boot_tuple (PyProof.Rows.callWith_type1 (args_cons (Call_ (ld_blt I hg' hm' boot_range (PyProof.Rows.callWith_type1 (thn (ha.run pos' pins s σ H _ I h) fun us s1 ⟨vs, H1, I1, r1, q1⟩ => ?_) hs hpl))) na) na))
  obtain ⟨i, j, k, n, e, ⟨c0, c1, c2, c3⟩, hn, q⟩ := q1
  subst e
  cases r1 with
  | cons r rr =>
    cases rr with
    | cons r' rr =>
      cases rr with
      | cons r'' rr =>
        cases rr
        obtain ⟨t, rfl⟩ := r
        obtain ⟨t', rfl⟩ := r'
        obtain ⟨t'', rfl⟩ := r''
        refine call_range_3 c0 ?_ (.inl (PyProof.noPylong_small c1))
        refine args_nil ?_
        have I2 : L2.Inv X pins σ H1 { s1 with heap := s1.heap.push { cls := .type "range", data := .fields #[.int i t, .int j t', .int k t''] } } := I1.kept (t' := s1.toks) fun b o e => Heap.get?_push_of_some _ e
        refine call_tuple_range (n := n) (I2.ok.hd hc) (IsRange.new ..) c2 c3 (by omega) fun h' tk acc hk hi => ?_
        have rv : Vals ((List.range n).map fun m : Nat => V.int (i + (m : Int) * k)) acc.toList := by
          have z := vals_of_get acc.toList (fun m : Nat => V.int (i + (m : Int) * k)) fun m u e => by
            obtain ⟨_, hi2⟩ := hi
            obtain ⟨tt, e2⟩ := hi2 m u (by simpa using e)
            exact ⟨tt, e2⟩
          have sz : acc.toList.length = n := by
            rw [Array.length_toList]
            exact hi.1
          rw [sz] at z
          exact z
        have I3 : L2.Inv X pins σ H1 { heap := h', gens := s1.gens, drawn := s1.drawn, toks := tk, os := s1.os } := I2.kept hk
        have z := inv_frz (xs := (List.range n).map fun m : Nat => V.int (i + (m : Int) * k)) (its := acc.toList) I2 hk (by rw [List.length_map, List.length_range, sizeLine_eq]; omega) rv tk
        rw [Array.toArray_toList] at z
        exact ⟨.ref h'.objs.size, _, z, rfl, q _ _ rfl (I3.hok.fresh (Nat.le_refl _))⟩
end
end Lb

set_option Elab.async false
set_option linter.all false
set_option maxRecDepth 100000
set_option maxHeartbeats 4000000
namespace Lb
open PySem PySem.Spec PyProof.Rows L2

/-- a def under its name, with its promise -/
structure Cn (P : Program) (w : World) (K : PySem.W.Frag) (mg : Str → Option Value) (base : Heap) (k : Nat) (x : Str) (ps : List Str) (sp : Sp) : Prop where
  ex : ∃ f fd, FnOk P w K mg base CX0 k f fd ps sp ∧ mg x = some (.ref f) ∧ PySem.W.keepIn K (.ref f) = true ∧ Binds K fd ps []
structure CnG (P : Program) (w : World) (K : PySem.W.Frag) (mg : Str → Option Value) (base : Heap) (k : Nat) (x : Str) (ps : List Str) (sp : Sp) : Prop where
  ex : ∃ f fd, FnG P w K mg base k f fd ps sp ∧ mg x = some (.ref f) ∧ PySem.W.keepIn K (.ref f) = true ∧ Binds K fd ps []
structure CnK (P : Program) (w : World) (K : PySem.W.Frag) (mg : Str → Option Value) (base : Heap) (k : Nat) (x : Str) (ps ks : List Str) (g : List Value → List Value → List Value) (gV : List V → List V → List V) (sp : Sp) : Prop where
  ex : ∃ f fd, FnOk P w K mg base CX0 k f fd ps sp ∧ mg x = some (.ref f) ∧ PySem.W.keepIn K (.ref f) = true ∧ KBinds K fd ps ks g gV
theorem Df.cn {P : Program} {w : World} {K : PySem.W.Frag} {mg : Str → Option Value} {base : Heap} {k : Nat} {x : Str} {st : Stmt} {ps : List Str} {f : Addr} {fd : FuncData} {sp : Sp} (D : Df K mg x st ps f fd) (h : FnOk P w K mg base CX0 k f fd ps sp) : Cn P w K mg base k x ps sp := ⟨_, _, h, D.at_, D.fn.kp, D.bind⟩
theorem Df.cnG {P : Program} {w : World} {K : PySem.W.Frag} {mg : Str → Option Value} {base : Heap} {k : Nat} {x : Str} {st : Stmt} {ps : List Str} {f : Addr} {fd : FuncData} {sp : Sp} (D : Df K mg x st ps f fd) (h : FnG P w K mg base k f fd ps sp) : CnG P w K mg base k x ps sp := ⟨_, _, h, D.at_, D.fn.kp, D.bind⟩
theorem Df.cnK {P : Program} {w : World} {K : PySem.W.Frag} {mg : Str → Option Value} {base : Heap} {k : Nat} {x : Str} {st : Stmt} {ps ks : List Str} {g : List Value → List Value → List Value} {gV : List V → List V → List V} {f : Addr} {fd : FuncData} {sp : Sp} (D : Df K mg x st ps f fd) (h : FnOk P w K mg base CX0 k f fd ps sp) (b : KBinds K fd ps ks g gV) : CnK P w K mg base k x ps ks g gV sp := ⟨_, _, h, D.at_, D.fn.kp, b⟩
section
variable {X : Cx} {k : Nat} {x : Str} {ps ks : List Str} {sp : Sp} {p pos : Pos} {e : Expr} {es : List Expr} {t : TA}
theorem pe_cn (C : Cn X.prog X.w X.K X.mg X.base k x ps sp) (hr : Room k X.A) (hg : Gl X x) (ha : PA X (e :: es) t)
    (hdb : (x == ("__debug__" : Str)) = false := by decide) (he : starEach (e :: es) X.env = (false, eval e X.env) :: starEach es X.env := by rfl) (hpl : (backTo pos (starEach es X.env)).any (·.1) = false := by rfl) :
    PE X (.Call (.Name x p) (e :: es) [] pos) (tCall sp [] E0 t) := by
  obtain ⟨f, fd, h1, h2, h3, h4⟩ := C.ex
  exact pe_call h1 hr hg h2 h3 h4 .nil pass0 ha hdb he hpl
theorem pe_cnG (C : CnG X.prog X.w X.K X.mg X.base k x ps sp) (hu : X.A.guards = some []) (hr : Room k X.A) (hg : Gl X x) (ha : PA X (e :: es) t)
    (hdb : (x == ("__debug__" : Str)) = false := by decide) (he : starEach (e :: es) X.env = (false, eval e X.env) :: starEach es X.env := by rfl) (hpl : (backTo pos (starEach es X.env)).any (·.1) = false := by rfl) :
    PE X (.Call (.Name x p) (e :: es) [] pos) (tCall sp [] E0 t) := by
  obtain ⟨f, fd, h1, h2, h3, h4⟩ := C.ex
  exact pe_callG h1 hu hr hg h2 h3 h4 ha hdb he hpl
theorem pe_cnK {kws : List Keyword} {tk : TA} {g : List Value → List Value → List Value} {gV : List V → List V → List V} (C : CnK X.prog X.w X.K X.mg X.base k x ps ks g gV sp) (hr : Room k X.A) (hg : Gl X x)
    (hkw : PK X kws tk) (hall : (backToKw pos (keywordEach kws X.env)).all (·.1.isSome) = true := by rfl) (hks : (backToKw pos (keywordEach kws X.env)).filterMap (·.1) = ks := by rfl)
    (hdb : (x == ("__debug__" : Str)) = false := by decide) (hpl : ((backTo pos (starEach [] X.env)).any (·.1) || (backToKw pos (keywordEach kws X.env)).any (·.1.isNone)) = false := by rfl) :
    PE X (.Call (.Name x p) [] kws pos) (tCallK sp gV E0 tNil tk) := by
  obtain ⟨f, fd, h1, h2, h3, h4⟩ := C.ex
  exact pe_callKW h1 hr hg h2 h3 h4 pass0 hkw hall hks hdb hpl
end
/-! keywords alone -/
def kw1 {α : Type} : List α → List α → List α
  | [], [a] => [a]
  | _, _ => []
def kw3 {α : Type} : List α → List α → List α
  | [], [a, b, c] => [c, b, a]
  | _, _ => []
theorem kw1_rel {vs : List V} {us : List Value} {zs : List V} {ws : List Value} (r : Vals vs us) (q : Vals zs ws) : Vals (kw1 vs zs) (kw1 us ws) := by
  cases r with
  | nil =>
    cases q with
    | nil => exact .nil
    | cons a t =>
      cases t with
      | nil => exact .cons a .nil
      | cons _ _ => exact .nil
  | cons _ _ => exact .nil
theorem kw3_rel {vs : List V} {us : List Value} {zs : List V} {ws : List Value} (r : Vals vs us) (q : Vals zs ws) : Vals (kw3 vs zs) (kw3 us ws) := by
  cases r with
  | nil =>
    cases q with
    | nil => exact .nil
    | cons a t =>
      cases t with
      | nil => exact .nil
      | cons b t =>
        cases t with
        | nil => exact .nil
        | cons c t =>
          cases t with
          | nil => exact .cons c (.cons b (.cons a .nil))
          | cons _ _ => exact .nil
  | cons _ _ => exact .nil
/-! data -/
def dO (b : Bool) (o : List Nat) : PyData := if b = true then .tuple (dl o) else .list (dl o)
theorem ord_dpB {K : PySem.W.Frag} {H : Hp} {b : Bool} {p : Addr} {x : List Nat} (a : OrdK b H p (vl x)) : Dp K H (.ref p) (dO b x) := by
  cases b with
  | false => exact .lst a.sqL (dp_vl x)
  | true => exact .tup a.sqT (dp_vl x)
theorem ord_dp {K : PySem.W.Frag} {H : Hp} {p : Addr} {x : List Nat} (a : OrdK true H p (vl x)) : Dp K H (.ref p) (.tuple (dl x)) := .tup a.sqT (dp_vl x)
theorem IsOrd.niceB {o : List Nat} (h : IsOrd o) (b : Bool) : Nice 2 4000 (dO b o) := by
  cases b with
  | false => exact h.nice.1.mono (by decide) (by decide)
  | true => exact h.nice.2.mono (by decide) (by decide)
theorem Nice.fit {n : Nat} {d : PyData} (h : Nice n 4000 d) : d.shown.length ≤ sizeLine := Nat.le_trans h.txt (by decide)
theorem ne_str {z : Str} {H : Hp} {Q : VK} (q : Q (.bl false) H) : rNe (.str z) (.str z) H Q := by
  refine ⟨rfl, ?_⟩
  rw [decide_eq_true rfl]
  exact q
theorem ne_data {K : PySem.W.Frag} {H : Hp} {Q : VK} {x y : V} {n m : Nat} {d : PyData} (a : Dp K H x d) (b : Dp K H y d) (h : Nice n m d) (hn : n ≤ 64) (q : Q (.bl false) H) : rNeD K x y H Q := by
  refine ⟨_, _, a, b, h.shaped hn, h.shaped hn, ?_⟩
  rw [h.refl]
  exact q
theorem eq_data {K : PySem.W.Frag} {H : Hp} {Q : VK} {x y : V} {n m : Nat} {d : PyData} (a : Dp K H x d) (b : Dp K H y d) (h : Nice n m d) (hn : n ≤ 64) (q : Q (.bl true) H) : rEqD K x y H Q := by
  refine ⟨_, _, a, b, h.shaped hn, h.shaped hn, ?_⟩
  rw [h.refl]
  exact q
theorem all_true : ∀ n : Nat, (List.replicate n true).all id = true
  | 0 => rfl
  | n + 1 => by
    rw [List.replicate_succ, List.all_cons, all_true n]
    rfl
def pairD (ps : List (Nat × Nat)) : List PyData := ps.map fun p => PyData.tuple [.int (p.1 : Int), .int (p.2 : Int)]
theorem pairs_dp {K : PySem.W.Frag} {H : Hp} : ∀ {ts : List Addr} {ps : List (Nat × Nat)}, PairsAt H ts ps → DpAll K H (ts.map V.ref) (pairD ps)
  | _, _, .nil => .nil
  | _, _, .cons r t => .cons (.tup (SqT.of r) (.cons (.int _) (.cons (.int _) .nil))) (pairs_dp t)
theorem nice_pairs {ps : List (Nat × Nat)} (h : ∀ p ∈ ps, p.1 < 100 ∧ p.2 < 100) (hl : ps.length ≤ 90) : Nice 2 4000 (.list (pairD ps)) := by
  refine (nice_list (n := 1) (m := 12) (ds := pairD ps) fun d hd => ?_).mono (by decide) (by unfold pairD; rw [List.length_map]; omega)
  obtain ⟨p, hp, rfl⟩ := List.mem_map.mp hd
  have := h p hp
  refine (nice_tup (n := 0) (m := 2) (ds := [.int (p.1 : Int), .int (p.2 : Int)]) fun x hx => ?_).mono (by decide) (by show (2 + 2) * 2 + 4 ≤ 12; decide)
  rcases List.mem_cons.mp hx with rfl | hx
  · exact nice_int this.1
  · cases List.mem_singleton.mp hx
    exact nice_int this.2
theorem nice_nums {l : List Nat} (h : ∀ k ∈ l, k < 100) (hl : l.length ≤ 100) : Nice 2 4000 (.list (dl l)) := (nice_ord h hl).1.mono (by decide) (by decide)
theorem lst_dp {K : PySem.W.Frag} {H : Hp} {p : Addr} {l : List Nat} (e : H p = some (.lst (vl l))) : Dp K H (.ref p) (.list (dl l)) := .lst (SqL.of e) (dp_vl l)

theorem nice_two {o : List Nat} (h : IsOrd o) : Nice 2 4000 (.list [.tuple (dl o), .tuple (dl o)]) :=
  (nice_list (n := 1) (m := 404) (ds := [.tuple (dl o), .tuple (dl o)]) fun d hd => by
    rcases List.mem_cons.mp hd with rfl | hd
    · exact h.nice.2
    · cases List.mem_singleton.mp hd
      exact h.nice.2).mono (by decide) (by show (404 + 2) * 2 + 4 ≤ 4000; decide)
theorem sum_cast : ∀ l : List Nat, (l.map fun k : Nat => (k : Int)).sum = ((l.sum : Nat) : Int)
  | [] => rfl
  | a :: r => by
    rw [List.map_cons, List.sum_cons, List.sum_cons, sum_cast r]
    omega
end Lb

set_option Elab.async false
set_option linter.all false
set_option maxRecDepth 100000
set_option maxHeartbeats 2000000
namespace Lb

/-! ### orders as one-to-one maps of the places -/
theorem ext_at {a b : List Nat} (hl : a.length = b.length) (h : ∀ k, k < a.length → a.getD k 0 = b.getD k 0) : a = b := by
  refine List.ext_getElem? fun k => ?_
  by_cases hk : k < a.length
  · rw [getD_of hk, getD_of (by omega), h k hk]
  · rw [List.getElem?_eq_none (by omega), List.getElem?_eq_none (by omega)]
theorem perm_fits : ∀ (l m : List Nat), l.Nodup → (∀ x ∈ l, x ∈ m) → m.length ≤ l.length → l.Perm m
  | [], m, _, _, h => by
    have : m = [] := List.length_eq_zero_iff.mp (Nat.le_zero.mp h)
    rw [this]
  | x :: r, m, nd, hs, h => by
    obtain ⟨nx, ndr⟩ := List.nodup_cons.mp nd
    have hx := hs x (.head _)
    refine ((perm_fits r (m.erase x) ndr (fun y hy => ?_) ?_).cons x).trans (List.perm_cons_erase hx).symm
    · have ne : y ≠ x := fun z => nx (z ▸ hy)
      exact (List.mem_erase_of_ne ne).mpr (hs y (.tail _ hy))
    · rw [List.length_erase_of_mem hx]
      rw [List.length_cons] at h
      omega
theorem ord_of {l : List Nat} (h1 : 1 ≤ l.length) (h9 : l.length ≤ 9) (hs : ∀ k, k < l.length → 1 ≤ l.getD k 0 ∧ l.getD k 0 ≤ l.length) (inj : ∀ i j, i < l.length → j < l.length → l.getD i 0 = l.getD j 0 → i = j) : IsOrd l := by
  refine ⟨h1, h9, perm_fits _ _ ?_ (fun x hx => ?_) (by rw [List.length_range']; exact Nat.le_refl _)⟩
  · show List.Pairwise _ l
    refine List.pairwise_iff_getElem.mpr fun i j hi hj hij e => ?_
    have ei : l[i]? = l[j]? := by rw [List.getElem?_eq_getElem hi, List.getElem?_eq_getElem hj, e]
    rw [getD_of hi, getD_of hj] at ei
    have := inj i j hi hj (Option.some.inj ei)
    omega
  · obtain ⟨k, hk, e⟩ := List.getElem_of_mem hx
    have e2 : l.getD k 0 = x := by
      have := getD_of hk
      rw [List.getElem?_eq_getElem hk, e] at this
      exact (Option.some.inj this).symm
    have := hs k hk
    rw [e2] at this
    exact List.mem_range'.mpr ⟨x - 1, by omega, by omega⟩
theorem at_of {o : List Nat} {k x : Nat} (h : o[k]? = some x) : o.getD k 0 = x := by
  rw [List.getD_eq_getElem?_getD, h]
  rfl
section
variable {o : List Nat} (h : IsOrd o)
include h
theorem IsOrd.sm {k : Nat} (hk : k < o.length) : 1 ≤ o.getD k 0 ∧ o.getD k 0 ≤ o.length := h.small _ (List.mem_of_getElem? (getD_of hk))
theorem IsOrd.idx {k : Nat} (hk : k < o.length) : o.idxOf (o.getD k 0) = k := by
  obtain ⟨hi, e⟩ := List.getElem?_eq_some_iff.mp (getD_of hk)
  have nd : o.Nodup := h.perm.nodup_iff.mpr (List.nodup_range' ..)
  have z := nd.idxOf_getElem k hi
  rw [e] at z
  exact z
theorem IsOrd.idl {v : Nat} (h1 : 1 ≤ v) (h2 : v ≤ o.length) : o.idxOf v < o.length := List.idxOf_lt_length_iff.mpr (h.mem h1 h2)
theorem IsOrd.idv {v : Nat} (h1 : 1 ≤ v) (h2 : v ≤ o.length) : o.getD (o.idxOf v) 0 = v := by
  have hl := h.idl h1 h2
  exact at_of (by rw [List.getElem?_eq_getElem hl]; exact congrArg some (List.getElem_idxOf hl))
theorem IsOrd.inj {i j : Nat} (hi : i < o.length) (hj : j < o.length) (e : o.getD i 0 = o.getD j 0) : i = j := by rw [← h.idx hi, e, h.idx hj]
end
/-- the sorted order -/
def pl (n : Nat) : List Nat := List.range' 1 n
theorem len_pl (n : Nat) : (pl n).length = n := List.length_range'
theorem len_und (o : List Nat) : (und o).length = o.length := by
  unfold und
  rw [List.length_map, List.length_range']
theorem len_trn (o : List Nat) : (trn o).length = o.length := by
  unfold trn
  rw [List.length_map, List.length_reverse]
theorem len_beh (a b : List Nat) : (beh a b).length = b.length := by
  unfold beh
  rw [List.length_map]
theorem len_exch (o : List Nat) (i j : Nat) : (exch o i j).length = o.length := by
  unfold exch
  rw [List.length_set, List.length_set]
theorem at_pl {n k : Nat} (hk : k < n) : (pl n).getD k 0 = k + 1 := at_of (by
  unfold pl
  rw [List.getElem?_range' hk]
  show some (1 + 1 * k) = _
  rw [show 1 + 1 * k = k + 1 by omega])
theorem at_und {o : List Nat} {k : Nat} (hk : k < o.length) : (und o).getD k 0 = o.idxOf (k + 1) + 1 := at_of (by
  unfold und
  rw [List.getElem?_map, List.getElem?_range' hk]
  show some (o.idxOf (1 + 1 * k) + 1) = _
  rw [show 1 + 1 * k = k + 1 by omega])
theorem at_trn {o : List Nat} {k : Nat} (hk : k < o.length) : (trn o).getD k 0 = o.length + 1 - o.getD (o.length - 1 - k) 0 := at_of (by
  unfold trn
  rw [List.getElem?_map, List.getElem?_reverse hk, getD_of (by omega)]
  rfl)
theorem at_beh {a b : List Nat} {k : Nat} (hk : k < b.length) : (beh a b).getD k 0 = a.getD (b.getD k 0 - 1) 0 := at_of (by
  unfold beh
  rw [List.getElem?_map, getD_of hk]
  rfl)
theorem at_exch {o : List Nat} {i j k : Nat} (hi : i < o.length) (hj : j < o.length) (hk : k < o.length) : (exch o i j).getD k 0 = if k = j then o.getD i 0 else if k = i then o.getD j 0 else o.getD k 0 := by
  unfold exch
  by_cases e : k = j
  · rw [if_pos e, e]
    exact at_of (List.getElem?_set_self (by rw [List.length_set]; exact hj))
  · rw [if_neg e]
    by_cases e2 : k = i
    · rw [if_pos e2]
      subst e2
      exact at_of (by rw [List.getElem?_set_ne (Ne.symm e), List.getElem?_set_self hi])
    · rw [if_neg e2]
      exact at_of (by rw [List.getElem?_set_ne (Ne.symm e), List.getElem?_set_ne (Ne.symm e2), getD_of hk])
theorem ord_pl {n : Nat} (h1 : 1 ≤ n) (h9 : n ≤ 9) : IsOrd (pl n) := ⟨by rw [len_pl]; exact h1, by rw [len_pl]; exact h9, by rw [len_pl]; exact List.Perm.refl _⟩
section
variable {o : List Nat} (h : IsOrd o)
include h
theorem ord_und : IsOrd (und o) := by
  refine ord_of (by rw [len_und]; exact h.lo) (by rw [len_und]; exact h.hi) (fun k hk => ?_) (fun i j hi hj e => ?_)
  · rw [len_und] at hk ⊢
    rw [at_und hk]
    have := h.idl (v := k + 1) (by omega) (by omega)
    omega
  · rw [len_und] at hi hj
    rw [at_und hi, at_und hj] at e
    have e1 := h.idv (v := i + 1) (by omega) (by omega)
    have e2 := h.idv (v := j + 1) (by omega) (by omega)
    rw [show o.idxOf (i + 1) = o.idxOf (j + 1) by omega] at e1
    omega
theorem ord_trn : IsOrd (trn o) := by
  refine ord_of (by rw [len_trn]; exact h.lo) (by rw [len_trn]; exact h.hi) (fun k hk => ?_) (fun i j hi hj e => ?_)
  · rw [len_trn] at hk ⊢
    rw [at_trn hk]
    have := h.sm (k := o.length - 1 - k) (by omega)
    omega
  · rw [len_trn] at hi hj
    rw [at_trn hi, at_trn hj] at e
    have e1 := h.sm (k := o.length - 1 - i) (by omega)
    have e2 := h.sm (k := o.length - 1 - j) (by omega)
    have := h.inj (i := o.length - 1 - i) (j := o.length - 1 - j) (by omega) (by omega) (by omega)
    omega
theorem und_at {k : Nat} (hk : k < o.length) : (und o).getD (o.getD k 0 - 1) 0 = k + 1 := by
  have := h.sm hk
  rw [at_und (by omega), show o.getD k 0 - 1 + 1 = o.getD k 0 by omega, h.idx hk]
theorem at_und_sub {k : Nat} (hk : k < o.length) : o.getD ((und o).getD k 0 - 1) 0 = k + 1 := by
  rw [at_und hk, Nat.add_sub_cancel]
  exact h.idv (by omega) (by omega)
theorem beh_und : beh o (und o) = pl o.length := by
  refine ext_at (by rw [len_beh, len_und, len_pl]) fun k hk => ?_
  rw [len_beh, len_und] at hk
  rw [at_beh (by rw [len_und]; exact hk), at_pl hk]
  exact at_und_sub h hk
theorem und_beh' : beh (und o) o = pl o.length := by
  refine ext_at (by rw [len_beh, len_pl]) fun k hk => ?_
  rw [len_beh] at hk
  rw [at_beh hk, at_pl hk]
  exact und_at h hk
theorem beh_pl : beh o (pl o.length) = o := by
  refine ext_at (by rw [len_beh, len_pl]) fun k hk => ?_
  rw [len_beh, len_pl] at hk
  rw [at_beh (by rw [len_pl]; exact hk), at_pl hk, Nat.add_sub_cancel]
theorem pl_beh : beh (pl o.length) o = o := by
  refine ext_at (len_beh _ _) fun k hk => ?_
  rw [len_beh] at hk
  have := h.sm hk
  rw [at_beh hk, at_pl (by omega)]
  omega
/-- what goes behind undone to k is the place of k -/
theorem und_is {p : List Nat} (hl : p.length = o.length) (hp : ∀ k, k < o.length → 1 ≤ p.getD k 0 ∧ p.getD k 0 ≤ o.length ∧ o.getD (p.getD k 0 - 1) 0 = k + 1) : und o = p := by
  refine ext_at (by rw [len_und, hl]) fun k hk => ?_
  rw [len_und] at hk
  obtain ⟨a, b, c⟩ := hp k hk
  have e := at_und_sub h hk
  have z := (ord_und h).sm (k := k) (by rw [len_und]; exact hk)
  rw [len_und] at z
  have := h.inj (i := (und o).getD k 0 - 1) (j := p.getD k 0 - 1) (by omega) (by omega) (by rw [e, c])
  omega
theorem und_und : und (und o) = o := by
  refine und_is (ord_und h) (by rw [len_und]) fun k hk => ?_
  rw [len_und] at hk ⊢
  have := h.sm hk
  exact ⟨this.1, this.2, und_at h hk⟩
theorem trn_trn : trn (trn o) = o := by
  refine ext_at (by rw [len_trn, len_trn]) fun k hk => ?_
  rw [len_trn, len_trn] at hk
  have := h.sm hk
  rw [at_trn (by rw [len_trn]; exact hk), len_trn, at_trn (by omega), show o.length - 1 - (o.length - 1 - k) = k by omega]
  omega
theorem und_trn : und (trn o) = trn (und o) := by
  refine und_is (ord_trn h) (by rw [len_trn, len_und, len_trn]) fun k hk => ?_
  rw [len_trn] at hk ⊢
  have u := (ord_und h).sm (k := o.length - 1 - k) (by rw [len_und]; omega)
  rw [len_und] at u
  rw [at_trn (o := und o) (by rw [len_und]; exact hk), len_und]
  refine ⟨by omega, by omega, ?_⟩
  rw [at_trn (by omega), show o.length - 1 - (o.length + 1 - (und o).getD (o.length - 1 - k) 0 - 1) = (und o).getD (o.length - 1 - k) 0 - 1 by omega, at_und_sub h (by omega)]
  omega
theorem ord_beh {p : List Nat} (hp : IsOrd p) (hl : o.length = p.length) : IsOrd (beh o p) := by
  refine ord_of (by rw [len_beh]; exact hp.lo) (by rw [len_beh]; exact hp.hi) (fun k hk => ?_) (fun i j hi hj e => ?_)
  · rw [len_beh] at hk ⊢
    rw [at_beh hk]
    have := hp.sm hk
    have := h.sm (k := p.getD k 0 - 1) (by omega)
    omega
  · rw [len_beh] at hi hj
    rw [at_beh hi, at_beh hj] at e
    have a1 := hp.sm hi
    have a2 := hp.sm hj
    have := h.inj (by omega) (by omega) e
    exact hp.inj hi hj (by omega)
theorem und_beh {p : List Nat} (hp : IsOrd p) (hl : o.length = p.length) : und (beh o p) = beh (und p) (und o) := by
  refine und_is (ord_beh h hp hl) (by rw [len_beh, len_beh, len_und, hl]) fun k hk => ?_
  rw [len_beh] at hk ⊢
  have u := (ord_und h).sm (k := k) (by rw [len_und]; omega)
  rw [len_und] at u
  have v := (ord_und hp).sm (k := (und o).getD k 0 - 1) (by rw [len_und]; omega)
  rw [len_und] at v
  rw [at_beh (b := und o) (by rw [len_und]; omega)]
  refine ⟨v.1, v.2, ?_⟩
  rw [at_beh (by omega), at_und_sub hp (by omega), Nat.add_sub_cancel]
  exact at_und_sub h (by omega)
theorem trn_beh {p : List Nat} (hp : IsOrd p) (hl : o.length = p.length) : trn (beh o p) = beh (trn o) (trn p) := by
  refine ext_at (by rw [len_trn, len_beh, len_beh, len_trn]) fun k hk => ?_
  rw [len_trn, len_beh] at hk
  have u := hp.sm (k := p.length - 1 - k) (by omega)
  rw [at_trn (by rw [len_beh]; exact hk), len_beh, at_beh (by omega), at_beh (by rw [len_trn]; exact hk), at_trn hk, at_trn (by omega), hl]
  rw [show p.length - 1 - (p.length + 1 - p.getD (p.length - 1 - k) 0 - 1) = p.getD (p.length - 1 - k) 0 - 1 by omega]
theorem ord_exch {i j : Nat} (hi : i < o.length) (hj : j < o.length) : IsOrd (exch o i j) := by
  refine ord_of (by rw [len_exch]; exact h.lo) (by rw [len_exch]; exact h.hi) (fun k hk => ?_) (fun a b ha hb e => ?_)
  · rw [len_exch] at hk ⊢
    rw [at_exch hi hj hk]
    have := h.sm hi
    have := h.sm hj
    have := h.sm hk
    split
    · assumption
    · split <;> assumption
  · rw [len_exch] at ha hb
    have e1 : ∀ k, (if k = j then o.getD i 0 else if k = i then o.getD j 0 else o.getD k 0) = o.getD (if k = j then i else if k = i then j else k) 0 := fun k => by
      split
      · rfl
      · split <;> rfl
    rw [at_exch hi hj ha, at_exch hi hj hb, e1, e1] at e
    have lt : ∀ k, k < o.length → (if k = j then i else if k = i then j else k) < o.length := fun k hk => by
      split
      · exact hi
      · split
        · exact hj
        · exact hk
    have z := h.inj (lt a ha) (lt b hb) e
    repeat' (split at z)
    all_goals omega
end
theorem beh_beh {a b c : List Nat} (hb : b.length = c.length) (hc : IsOrd c) : beh (beh a b) c = beh a (beh b c) := by
  refine ext_at (by rw [len_beh, len_beh, len_beh]) fun k hk => ?_
  rw [len_beh] at hk
  have := hc.sm hk
  rw [at_beh hk, at_beh (by omega), at_beh (by rw [len_beh]; exact hk), at_beh hk]
theorem beh_step {o : List Nat} {i j : Nat} (hi : i < o.length) (hj : j < o.length) : beh o (exch (pl o.length) i j) = exch o i j := by
  refine ext_at (by rw [len_beh, len_exch, len_exch, len_pl]) fun k hk => ?_
  rw [len_beh, len_exch, len_pl] at hk
  rw [at_beh (by rw [len_exch, len_pl]; exact hk), at_exch (by rw [len_pl]; exact hi) (by rw [len_pl]; exact hj) (by rw [len_pl]; exact hk), at_exch hi hj hk, at_pl hi, at_pl hj, at_pl hk]
  split
  · rw [Nat.add_sub_cancel]
  · split <;> rw [Nat.add_sub_cancel]
theorem at_step {n i j k : Nat} (hi : i < n) (hj : j < n) (hk : k < n) : (exch (pl n) i j).getD k 0 = if k = j then i + 1 else if k = i then j + 1 else k + 1 := by
  rw [at_exch (by rw [len_pl]; exact hi) (by rw [len_pl]; exact hj) (by rw [len_pl]; exact hk), at_pl hi, at_pl hj, at_pl hk]
theorem ord_step {n i j : Nat} (h1 : 1 ≤ n) (h9 : n ≤ 9) (hi : i < n) (hj : j < n) : IsOrd (exch (pl n) i j) := ord_exch (ord_pl h1 h9) (by rw [len_pl]; exact hi) (by rw [len_pl]; exact hj)
theorem und_step {n i j : Nat} (h1 : 1 ≤ n) (h9 : n ≤ 9) (hi : i < n) (hj : j < n) : und (exch (pl n) i j) = exch (pl n) i j := by
  refine und_is (ord_step h1 h9 hi hj) rfl fun k hk => ?_
  rw [len_exch, len_pl] at hk ⊢
  rw [at_step hi hj hk]
  split
  · refine ⟨by omega, by omega, ?_⟩
    rw [at_step hi hj (by omega)]
    split
    · omega
    · rw [if_pos (by omega)]
      omega
  · split
    · refine ⟨by omega, by omega, ?_⟩
      rw [at_step hi hj (by omega), if_pos (by omega)]
      omega
    · refine ⟨by omega, by omega, ?_⟩
      rw [at_step hi hj (by omega), if_neg (by omega), if_neg (by omega)]
      omega
theorem step_beh {o : List Nat} (h : IsOrd o) {i j : Nat} (hi : i < o.length) (hj : j < o.length) : beh (exch (pl o.length) i j) o = exch o (o.idxOf (i + 1)) (o.idxOf (j + 1)) := by
  have i1 := h.idl (v := i + 1) (by omega) (by omega)
  have j1 := h.idl (v := j + 1) (by omega) (by omega)
  have i2 := h.idv (v := i + 1) (by omega) (by omega)
  have j2 := h.idv (v := j + 1) (by omega) (by omega)
  refine ext_at (by rw [len_beh, len_exch]) fun k hk => ?_
  rw [len_beh] at hk
  have s := h.sm hk
  rw [at_beh hk, at_step hi hj (by omega), at_exch i1 j1 hk, i2, j2]
  by_cases e : k = o.idxOf (j + 1)
  · rw [if_pos e, if_pos (by rw [e, j2]; omega)]
  · have ne : o.getD k 0 ≠ j + 1 := fun z => e (by rw [← z, h.idx hk])
    rw [if_neg e, if_neg (by omega)]
    by_cases e2 : k = o.idxOf (i + 1)
    · rw [if_pos e2, if_pos (by rw [e2, i2]; omega)]
    · have ne2 : o.getD k 0 ≠ i + 1 := fun z => e2 (by rw [← z, h.idx hk])
      rw [if_neg e2, if_neg (by omega)]
      omega

/-! ### levels -/
def sm (l : List Nat) (f : Nat → Nat) : Nat := (l.map f).sum
theorem sm_nil (f : Nat → Nat) : sm [] f = 0 := rfl
theorem sm_cons (a : Nat) (l : List Nat) (f : Nat → Nat) : sm (a :: l) f = f a + sm l f := by
  unfold sm
  rw [List.map_cons, List.sum_cons]
theorem sm_perm {l m : List Nat} (f : Nat → Nat) (h : l.Perm m) : sm l f = sm m f := by
  induction h with
  | nil => rfl
  | cons x _ ih => rw [sm_cons, sm_cons, ih]
  | swap x y l => rw [sm_cons, sm_cons, sm_cons, sm_cons]; omega
  | trans _ _ h1 h2 => rw [h1, h2]
theorem sm_congr {l : List Nat} {f g : Nat → Nat} (h : ∀ x ∈ l, f x = g x) : sm l f = sm l g := by
  unfold sm
  rw [List.map_congr_left h]
theorem sm_map (l : List Nat) (s f : Nat → Nat) : sm (l.map s) f = sm l fun x => f (s x) := by
  unfold sm
  rw [List.map_map]
  rfl
theorem sm_append (l m : List Nat) (f : Nat → Nat) : sm (l ++ m) f = sm l f + sm m f := by
  unfold sm
  rw [List.map_append, List.sum_append]
theorem sm_add (l : List Nat) (f g : Nat → Nat) : (sm l fun x => f x + g x) = sm l f + sm l g := by
  induction l with
  | nil => rfl
  | cons a r ih => rw [sm_cons, sm_cons, sm_cons, ih]; omega
theorem sm_zero {l : List Nat} {f : Nat → Nat} (h : ∀ x ∈ l, f x = 0) : sm l f = 0 := by
  induction l with
  | nil => rfl
  | cons a r ih => rw [sm_cons, h a (.head _), ih fun x hx => h x (.tail _ hx)]
theorem sm_swap (l m : List Nat) (g : Nat → Nat → Nat) : (sm l fun i => sm m (g i)) = sm m fun j => sm l fun i => g i j := by
  induction l with
  | nil =>
    rw [sm_nil]
    exact (sm_zero fun _ _ => rfl).symm
  | cons a r ih =>
    rw [sm_cons, ih, ← sm_add]
    refine sm_congr fun j _ => ?_
    rw [sm_cons]
theorem len_flat (f : Nat → List (Nat × Nat)) (l : List Nat) : (l.flatMap f).length = sm l fun a => (f a).length := by
  induction l with
  | nil => rfl
  | cons a r ih => rw [List.flatMap_cons, List.length_append, sm_cons, ih]
theorem len_filter (l : List Nat) (p : Nat → Bool) : (l.filter p).length = sm l fun b => if p b = true then 1 else 0 := by
  induction l with
  | nil => rfl
  | cons a r ih =>
    rw [sm_cons, List.filter_cons]
    split
    · rw [List.length_cons, ih]; omega
    · rw [ih]; omega
/-- all pairs of places, told by which count -/
def al (n : Nat) (g : Nat → Nat → Bool) : Nat := sm (List.range n) fun i => sm (List.range n) fun j => if g i j = true then 1 else 0
theorem al_congr {n : Nat} {g f : Nat → Nat → Bool} (h : ∀ i j, i < n → j < n → g i j = f i j) : al n g = al n f :=
  sm_congr fun i hi => sm_congr fun j hj => by rw [h i j (List.mem_range.mp hi) (List.mem_range.mp hj)]
theorem al_swap (n : Nat) (g : Nat → Nat → Bool) : al n g = al n fun i j => g j i := sm_swap _ _ _
theorem al_perm {n : Nat} (s : Nat → Nat) (h : ((List.range n).map s).Perm (List.range n)) (g : Nat → Nat → Bool) : al n g = al n fun i j => g (s i) (s j) := by
  unfold al
  rw [← sm_perm _ h, sm_map]
  refine sm_congr fun i _ => ?_
  rw [← sm_perm _ h, sm_map]
theorem lev_al (o : List Nat) : lev o = al o.length fun i j => decide (i < j ∧ o.getD i 0 > o.getD j 0) := by
  unfold lev wps al
  rw [len_flat]
  refine sm_congr fun a ha => ?_
  have ha' := List.mem_range.mp ha
  unfold row
  rw [List.length_map, len_filter]
  have e : List.range o.length = List.range (a + 1) ++ (List.range (o.length - (a + 1))).map (a + 1 + ·) := by
    rw [← List.range_add, show a + 1 + (o.length - (a + 1)) = o.length by omega]
  have z0 : (sm (List.range (a + 1)) fun j => if decide (a < j ∧ o.getD a 0 > o.getD j 0) = true then 1 else 0) = 0 := sm_zero fun x hx => ?_
  · rw [e, sm_append, sm_map]
    show _ = (sm (List.range (a + 1)) fun j => if decide (a < j ∧ o.getD a 0 > o.getD j 0) = true then 1 else 0) + _
    rw [z0, Nat.zero_add]
    refine sm_congr fun b hb => ?_
    have e2 : decide (a < a + 1 + b ∧ o.getD a 0 > o.getD (a + 1 + b) 0) = decide (o.getD a 0 > o.getD (a + 1 + b) 0) := decide_eq_decide.mpr ⟨fun z => z.2, fun z => ⟨by omega, z⟩⟩
    show _ = if decide (a < a + 1 + b ∧ o.getD a 0 > o.getD (a + 1 + b) 0) = true then 1 else 0
    rw [e2]
  · have := List.mem_range.mp hx
    rw [decide_eq_false (by omega)]
    rfl
theorem perm_of {n : Nat} {s : Nat → Nat} (h1 : ∀ i, i < n → s i < n) (h2 : ∀ i j, i < n → j < n → s i = s j → i = j) : ((List.range n).map s).Perm (List.range n) := by
  refine perm_fits _ _ ?_ (fun x hx => ?_) (by rw [List.length_map]; exact Nat.le_refl _)
  · show List.Pairwise _ _
    rw [List.pairwise_map]
    refine List.Pairwise.imp_of_mem (R := (· < ·)) (fun {a b} ha hb hab e => ?_) List.pairwise_lt_range
    have := h2 a b (List.mem_range.mp ha) (List.mem_range.mp hb) e
    omega
  · obtain ⟨i, hi, rfl⟩ := List.mem_map.mp hx
    exact List.mem_range.mpr (h1 i (List.mem_range.mp hi))
theorem lev_und {o : List Nat} (h : IsOrd o) : lev (und o) = lev o := by
  rw [lev_al, lev_al, len_und, al_swap o.length fun i j => decide (i < j ∧ o.getD i 0 > o.getD j 0)]
  rw [al_perm (fun i => o.getD i 0 - 1) (perm_of (fun i hi => by have := h.sm hi; omega) fun i j hi hj e => by
    have := h.sm hi
    have := h.sm hj
    exact h.inj hi hj (by omega))]
  refine al_congr fun i j hi hj => ?_
  have a := h.sm hi
  have b := h.sm hj
  rw [und_at h hi, und_at h hj]
  exact decide_eq_decide.mpr ⟨fun z => ⟨by omega, by omega⟩, fun z => ⟨by omega, by omega⟩⟩
theorem lev_trn {o : List Nat} (h : IsOrd o) : lev (trn o) = lev o := by
  rw [lev_al, lev_al, len_trn, al_swap o.length fun i j => decide (i < j ∧ o.getD i 0 > o.getD j 0)]
  rw [al_perm (fun i => o.length - 1 - i) (perm_of (fun i hi => by omega) fun i j hi hj e => by omega)]
  refine al_congr fun i j hi hj => ?_
  have a := h.sm hi
  have b := h.sm hj
  rw [at_trn (by omega), at_trn (by omega), show o.length - 1 - (o.length - 1 - i) = i by omega, show o.length - 1 - (o.length - 1 - j) = j by omega]
  exact decide_eq_decide.mpr ⟨fun z => ⟨by omega, by omega⟩, fun z => ⟨by omega, by omega⟩⟩
end Lb

set_option Elab.async false
set_option linter.all false
set_option maxRecDepth 100000
set_option maxHeartbeats 2000000
namespace Lb
open PySem PySem.Spec PyProof.Rows L2 GxR

/-! ### all(.. for i, x in enumerate(a list or a tuple)) -/
section
variable {X : Cx} {pins : List (Addr × Obj)} {σ : L2.St} {H : Hp} {s : Shared}
def trE (pb : Nat → V → Bool) (l : List V) (j : Nat) : Bool := (l[j]?.map (pb j)).getD false
theorem trE_some {pb : Nat → V → Bool} {l : List V} {j : Nat} {b : V} (h : l[j]? = some b) : trE pb l j = pb j b := by
  unfold trE
  rw [h]
  rfl
def EltE (X : Cx) (P : Addr) (s1 : Shared) (scope : Scope) (xa xb : Str) (elt : Expr) (ok : Nat → V → Prop) (pb : Nat → V → Bool) : Prop :=
  ∀ (cenv : Env) (A' : Around) (E' : Value → Shared → Prop) (i : Nat) (v : V) (k : Tok) (u : Value) (t : Shared) (m : Str → Option Value), RelV v u → ok i v → A'.handled = none → A'.depth ≤ X.A.depth + 1 → A'.units ≤ X.A.units + 8 →
    cenv.scope = scope → cenv.globals = mainGlobals → cenv.builtins = builtinsNs → cenv.cells = cloFrom X.env.cells scope.names [] →
    (∀ b o, b ≠ P → s1.heap.get? b = some o → t.heap.get? b = some o) → t.heap.Ns cenv.locals m → m xa = some (.int (i : Nat) k) → m xb = some u →
    wpAny (model X.prog X.w) A' (eval elt cenv) (fun y t' => y = .bool (pb i v) ∧ Keeps t t') E' t
/-- enumerate of a seq at a, as the generator sees it -/
structure FeedE (P : Program) (w : World) (h h' : Heap) (a : Addr) (xs : List V) (its : List Value) (St : Nat → Heap → Prop) (Mid : Nat → Addr → Heap → Prop) : Prop where
  rel : Vals xs its
  low : a < h.objs.size
  cls : ∀ p u, h.get? p = some u → u.cls = .none → p ≠ a
  keep : ∀ b o, h.get? b = some o → h'.get? b = some o
  en : IsEnum h' (h.objs.size + 1) h.objs.size 0 .none
  walk : ∀ B : Around, B.handled = none → WalksU P w B (h.objs.size + 1) [h.objs.size + 1, h.objs.size, a] [h.objs.size + 1, h.objs.size] xs.length (fun i vals => ∃ t x, its[i]? = some x ∧ vals = #[.int (i : Nat) t, x]) St Mid
  at0 : St 0 h'
theorem iter_enum {a : Addr} {xs : List V} {Q : Value → Shared → Prop} {E : Value → Shared → Prop} (I : Inv X pins σ H s) (hq : SeqLT X.K H a xs)
    (done : ∀ h' its St Mid, FeedE X.prog X.w s.heap h' a xs its St Mid → Q (.ref (s.heap.objs.size + 1)) { s with heap := h' }) : wpAny (model X.prog X.w) X.A (call (.type "enumerate") [.ref a]) Q E s := by
  rcases hq with hq | hq
  · obtain ⟨its, rel, laid, _⟩ := I.list hq
    have isL := laid.isList
    obtain ⟨oa, ga, ca, _⟩ := id isL
    have la := Heap.lt_size ga
    have nsz : its.toArray.size = xs.length := by rw [List.size_toArray, rel.length]
    refine call_enumerate_list isL fun h' he hit _ hk => done h' its (fun i m => (∃ old, IsEnum m (s.heap.objs.size + 1) s.heap.objs.size (i : Nat) old) ∧ m.IsListIter s.heap.objs.size a i ∧ m.IsList a its.toArray) (fun i t m => (∃ x, IsEnumOut m (s.heap.objs.size + 1) s.heap.objs.size ((i : Int) + 1) x t) ∧ (m.IsListIter s.heap.objs.size a (i + 1) ∧ m.IsList a its.toArray) ∧ t ≠ s.heap.objs.size + 1 ∧ t ≠ s.heap.objs.size) ⟨rel, la, fun p u gp cp e => ?_, hk, he, fun B hB => ?_, ⟨⟨_, he⟩, hit, isL.at fun o q => hk a o q⟩⟩
    · rw [e, ga] at gp
      cases gp
      rw [cp] at ca
      cases ca
    · have D := Draws.list (prog := X.prog) (w := X.w) (A := B.in1) hB s.heap.objs.size a (Nat.ne_of_lt la) its.toArray
      have W := (WalksT.enumerateD D (s.heap.objs.size + 1) (Nat.succ_ne_self _) (fun z => by
        rcases List.mem_cons.mp z with z | z
        · exact Nat.succ_ne_self _ z
        · have e := List.mem_singleton.mp z
          rw [← e] at la
          exact absurd (Nat.lt_of_succ_lt la) (Nat.lt_irrefl _)) (.head _)).toU
      rw [nsz] at W
      simpa using W
  · obtain ⟨its, rel, laid, _⟩ := I.tuple hq
    have isT : s.heap.IsTuple a its.toArray := laid
    obtain ⟨oa, ga, ca, _⟩ := id isT
    have la := Heap.lt_size ga
    have nsz : its.toArray.size = xs.length := by rw [List.size_toArray, rel.length]
    refine call_enumT isT fun h' he hit hk => done h' its (fun i m => (∃ old, IsEnum m (s.heap.objs.size + 1) s.heap.objs.size (i : Nat) old) ∧ m.IsTupleIter s.heap.objs.size a i ∧ m.IsTuple a its.toArray) (fun i t m => (∃ x, IsEnumOut m (s.heap.objs.size + 1) s.heap.objs.size ((i : Int) + 1) x t) ∧ (m.IsTupleIter s.heap.objs.size a (i + 1) ∧ m.IsTuple a its.toArray) ∧ t ≠ s.heap.objs.size + 1 ∧ t ≠ s.heap.objs.size) ⟨rel, la, fun p u gp cp e => ?_, hk, he, fun B hB => ?_, ⟨⟨_, he⟩, hit, isT.at fun o q => hk a o q⟩⟩
    · rw [e, ga] at gp
      cases gp
      rw [cp] at ca
      cases ca
    · have D := Draws.tuple (prog := X.prog) (w := X.w) (A := B.in1) hB s.heap.objs.size a (Nat.ne_of_lt la) its.toArray
      have W := (WalksT.enumerateD D (s.heap.objs.size + 1) (Nat.succ_ne_self _) (fun z => by
        rcases List.mem_cons.mp z with z | z
        · exact Nat.succ_ne_self _ z
        · have e := List.mem_singleton.mp z
          rw [← e] at la
          exact absurd (Nat.lt_of_succ_lt la) (Nat.lt_irrefl _)) (.head _)).toU
      rw [nsz] at W
      simpa using W
structure GenS2 (env : Env) (scope : Scope) (xa xb : Str) : Prop where
  kind : scope.kind = .function
  co : scope.isCoroutine = false
  cell : ∀ y ∈ scope.names, y.2 ≠ .cell
  dot : scope.names.lookup (".0" : Str) = some NameKind.local
  la : scope.names.lookup xa = some .local
  lb : scope.names.lookup xb = some .local
  ab : xa ≠ xb
  free : ∀ y ∈ scope.names, y.2 = .free → ∃ c, env.cells.lookup y.1 = some c
def tAllE (X : Cx) (P : Addr) (scope : Scope) (xa xb : Str) (elt : Expr) (ta : TA) : TE := fun σ H Q => ta σ H fun vs H1 => ∃ (a : Addr) (xs : List V) (ok : Nat → V → Prop) (pb : Nat → V → Bool), vs = [.ref a] ∧ SeqLT X.K H1 a xs ∧ (∀ i v, xs[i]? = some v → ok i v) ∧ TabG H1 P ∧ (∀ ps z, Inv X ps σ H1 z → EltE X P z scope xa xb elt ok pb) ∧ ∀ H2, Tabbed P H1 H2 → Q (.bl ((List.range xs.length).all (trE pb xs))) H2
theorem pe_allE {c P : Addr} {elt arg : Expr} {xa xb : Str} {pa pb' pt p pn pi pos gpos : Pos} {kt : Nat} {scope : Scope} {ta : TA} {k : Nat}
    (room : Room k X.A) (hg : Gl X "all") (hm : X.mg "all" = none) (hb : bootBuiltins "all" = some (.builtin "all")) (hge : Gl X "enumerate") (hme : X.mg "enumerate" = none) (TB : GxR.TabB X.base X.mg c P) (own : X.env.code = .ref c) (S : GenS2 X.env scope xa xb) (src : PA X [arg] ta)
    (nofold : ∀ v, genFold (.Call (.Name "enumerate" pn) [arg] [] pi) X.env v = pure v) (hse : starEach [arg] X.env = [(false, eval arg X.env)] := by rfl)
    (he : starEach [.GeneratorExp elt [⟨.Tuple [.Name xa pa, .Name xb pb'] kt pt, .Call (.Name "enumerate" pn) [arg] [] pi, [], 0⟩] scope gpos] X.env = (false, eval (.GeneratorExp elt [⟨.Tuple [.Name xa pa, .Name xb pb'] kt pt, .Call (.Name "enumerate" pn) [arg] [] pi, [], 0⟩] scope gpos) X.env) :: starEach [] X.env := by rfl) :
    PE X (.Call (.Name "all" p) [.GeneratorExp elt [⟨.Tuple [.Name xa pa, .Name xb pb'] kt pt, .Call (.Name "enumerate" pn) [arg] [] pi, [], 0⟩] scope gpos] [] pos) (tAllE X P scope xa xb elt ta) := by
  refine ⟨fun pins s σ H Q I h => ?_⟩
  refine wpAny_Call_Name_kw (ld_blt I hg hm hb ?_)
  refine PyProof.Rows.callWith_builtin1 ?_ he (by rfl)
  rw [he]
  show wpAny _ _ (spliced ((false, eval (.GeneratorExp elt [⟨.Tuple [.Name xa pa, .Name xb pb'] kt pt, .Call (.Name "enumerate" pn) [arg] [] pi, [], 0⟩] scope gpos) X.env) :: backTo pos (starEach [] X.env))) _ _ s
  have deep : X.A.depth < recursionLimit := by have := room.dp; omega
  refine Calls.spliced_cons (wpAny_GeneratorExp_walksQTD room.hd S.co (closure_ok S.free) S.cell S.dot S.la S.lb S.ab S.kind deep
    (Call_ (ld_blt I hge hme boot_enumerate (PyProof.Rows.callWith_type1 (thn (src.run pi pins s σ H _ I h) fun us s1 ⟨vs, H1, I1, r1, a, xs, ok, pb, e0, hq, oks, ⟨tab, tP, tr⟩, hel, hR⟩ => ?_) hse rfl))) nofold)
  subst e0
  rw [Vals.ref1 r1]
  refine iter_enum I1 hq fun h' its St Mid F => wpAny_pyIter_enum F.en ?_
  have gP : s1.heap.get? P = some { cls := .none, data := .fields tab } := I1.hok P _ tP
  have lowP := Heap.lt_size gP
  have nl := I1.nolimit.keeps F.keep
  have stat : cStatics < s1.heap.objs.size ∧ cStatics ≠ P := by
    obtain ⟨_, ns, _⟩ := I1.nolimit
    refine ⟨ns.lt, fun e => ?_⟩
    obtain ⟨ob, _, _, g, d, _⟩ := ns
    rw [e, gP] at g
    cases g
    cases d
  refine ⟨nl, code_in_table own (TB.code.keeps fun b u e => F.keep b u (I1.bk b u e)) (F.keep P _ gP) tr fun code h3 tk more ext big gP3 tr3 => ?_⟩
  have room3 : s1.heap.objs.size + 1 < h3.objs.size := Nat.lt_of_lt_of_le (Heap.lt_size F.en) big
  have stays : ∀ b u, b ≠ P → s1.heap.get? b = some u → h3.get? b = some u := fun b u nb e => ext b u nb (F.keep b u e)
  obtain ⟨bm, ob, b1, b2, b3, b4, b5, b6, b7, b8⟩ := TB.bm
  refine wpAny_builtinsFor (m := X.mg) (by rw [I1.ok.glob]; exact Heap.Ns.extBut ((I1.mod.glob.keeps I1.bk).keeps F.keep) ext TB.gP) b1 b2 (stays _ _ b4 (I1.bk _ _ b5)) b6 b7 b8 ?_
  have foot : ∀ b ∈ [s1.heap.objs.size + 1, s1.heap.objs.size, a], b ≠ P ∧ b < h3.objs.size := fun b hb => by
    have la := F.low
    have lP : (P : Nat) < s1.heap.objs.size := lowP
    simp only [List.mem_cons, List.not_mem_nil, or_false] at hb
    rcases hb with e | e | e <;> rw [e]
    · exact ⟨fun z => by rw [← z] at lP; exact absurd (Nat.lt_of_succ_lt lP) (Nat.lt_irrefl _), room3⟩
    · exact ⟨fun z => by rw [← z] at lP; exact absurd lP (Nat.lt_irrefl _), Nat.lt_of_succ_lt room3⟩
    · exact ⟨(F.cls P _ gP rfl).symm, Nat.lt_trans la (Nat.lt_of_succ_lt room3)⟩
  have wrn : ∀ b u, s1.heap.get? b = some u → b ∉ [s1.heap.objs.size + 1, s1.heap.objs.size] := fun b u e hb => by
    have lb : (b : Nat) < s1.heap.objs.size := Heap.lt_size e
    simp only [List.mem_cons, List.not_mem_nil, or_false] at hb
    rcases hb with z | z <;> rw [z] at lb
    · exact absurd (Nat.lt_of_succ_lt lb) (Nat.lt_irrefl _)
    · exact absurd lb (Nat.lt_irrefl _)
  refine ⟨_, _, [s1.heap.objs.size + 1, s1.heap.objs.size], xs.length, _, St, Mid, fun _ => true, fun i y => ∃ d, xs[i]? = some d ∧ y = .bool (pb i d), rfl, F.walk, fun i vals q => ?_, ?_, fun b hb => (foot b hb).2, nl.extBut ext stat.2, fun e => ?_, fun later kept => ⟨?_, ?_⟩, ?_⟩
  · obtain ⟨t, x, _, e⟩ := q
    exact ⟨_, _, e⟩
  · exact (F.walk X.A room.hd).frame _ _ _ F.at0 fun b hb u e => ext b u (foot b hb).1 e
  · simp only [List.mem_cons, List.not_mem_nil, or_false] at e
    have := stat.1
    rcases e with z | z <;> rw [z] at this
    · exact absurd (Nat.lt_of_succ_lt this) (Nat.lt_irrefl _)
    · exact absurd this (Nat.lt_irrefl _)
  · intro B E' i va vb t mt _ _ _ _ _ _ _ _
    simp only [List.forIn_nil]
    exact wpAny_pure ⟨rfl, keeps_refl _⟩
  · intro B E' i va vb t mt hB dB uB hy _ ln lma lmb lk
    obtain ⟨tk', x, hx, ev⟩ := hy
    have ea : va = .int (i : Nat) tk' := by
      have := congrArg (fun l : Array Value => l[0]?) ev
      simpa using this
    have eb : vb = x := by
      have := congrArg (fun l : Array Value => l[1]?) ev
      simpa using this
    subst ea eb
    have lt : i < xs.length := by
      rw [F.rel.length]
      exact (List.getElem?_eq_some_iff.mp hx).1
    have at_ := List.getElem?_eq_getElem lt
    obtain ⟨y', hy', ry⟩ := F.rel.get at_
    cases hx.symm.trans hy'
    refine wpAny_mono (hel pins s1 I1 _ B E' i xs[i] tk' vb t mt ry (oks i _ at_) hB dB uB rfl I1.ok.glob rfl rfl (fun b u nb eb => ?_) ln lma lmb) (fun z t' r => ⟨⟨_, at_, r.1⟩, r.2⟩) fun _ _ e => e
    have e3 := stays b u nb eb
    exact lk b (List.mem_range.mpr (Heap.lt_size e3)) (wrn b u eb) u (kept b u e3)
  · intro g h5 tk5 gen bare gt sz5 keep5 W5 start
    simp only [GxR.passing_true, List.length_range] at W5
    refine Calls.spliced_nil ?_
    refine call_all_walkS (W5.in4_1.self 0 _ _ _ start ⟨g, _, _, _, _, _, _, trE pb xs, rfl, W5.in4_1, start, fun j y t Qj Ej hy hj => ?_, fun z mv => ?_⟩)
    · obtain ⟨i, hi, d, hd, rfl⟩ := hy
      obtain ⟨_, ei⟩ := List.getElem?_eq_some_iff.mp hi
      rw [List.getElem_range] at ei
      subst ei
      rw [trE_some hd] at hj
      exact wpAny_truthy_bool hj
    · have apart : ∀ b u, s1.heap.get? b = some u → b ∉ h3.objs.size :: [s1.heap.objs.size + 1, s1.heap.objs.size] := fun b u e hb => by
        rcases List.mem_cons.mp hb with e' | hb
        · have lb : (b : Nat) < s1.heap.objs.size := Heap.lt_size e
          rw [e'] at lb
          exact absurd (Nat.lt_trans lb (Nat.lt_of_succ_lt room3)) (Nat.lt_irrefl _)
        · exact wrn b u e hb
      have fin := inv_tab (more := more) (h' := z.heap) (g' := z.gens) (d' := z.drawn) (t' := z.toks) I1 tP (fun b u nb e => mv.heap b u (apart b u e) (keep5 b u (stays b u nb e))) (mv.heap P _ (apart P _ gP) (keep5 P _ gP3)) (AllBare.movedS (I1.bare.push bare) mv)
      rw [sh_eta s1 z mv.os] at fin
      refine ⟨.bl _, upd H1 P (.tbl (tab ++ more)), fin, rfl, hR _ ⟨⟨tab ++ more, upd_same, tr3⟩, fun b hb => upd_ne hb⟩⟩
end
end Lb

set_option Elab.async false
set_option linter.all false
set_option maxRecDepth 100000
set_option maxHeartbeats 2000000
namespace Lb
open PySem PySem.Spec PyProof.Rows L2 GxR

/-! ### all(.. for x, y in zip(two seqs of one kind)) -/
section
variable {X : Cx} {pins : List (Addr × Obj)} {σ : L2.St} {H : Hp} {s : Shared}
def trZ (pb : V → V → Bool) (l m : List V) (j : Nat) : Bool := (match l[j]?, m[j]? with | some a, some b => pb a b | _, _ => false)
theorem trZ_some {pb : V → V → Bool} {l m : List V} {j : Nat} {a b : V} (h : l[j]? = some a) (h2 : m[j]? = some b) : trZ pb l m j = pb a b := by
  unfold trZ
  rw [h, h2]
def EltZ (X : Cx) (P : Addr) (s1 : Shared) (scope : Scope) (xa xb : Str) (elt : Expr) (ok : V → V → Prop) (pb : V → V → Bool) : Prop :=
  ∀ (cenv : Env) (A' : Around) (E' : Value → Shared → Prop) (v y : V) (u r : Value) (t : Shared) (m : Str → Option Value), RelV v u → RelV y r → ok v y → A'.handled = none → A'.depth ≤ X.A.depth + 1 → A'.units ≤ X.A.units + 8 →
    cenv.scope = scope → cenv.globals = mainGlobals → cenv.builtins = builtinsNs → cenv.cells = cloFrom X.env.cells scope.names [] →
    (∀ b o, b ≠ P → s1.heap.get? b = some o → t.heap.get? b = some o) → t.heap.Ns cenv.locals m → m xa = some u → m xb = some r →
    wpAny (model X.prog X.w) A' (eval elt cenv) (fun z t' => z = .bool (pb v y) ∧ Keeps t t') E' t
/-- zip of seqs at a and b, as the generator sees it -/
structure FeedZ (P : Program) (w : World) (h h' : Heap) (a b : Addr) (xs ys : List V) (its its2 : List Value) (St : Nat → Heap → Prop) (Mid : Nat → Addr → Heap → Prop) : Prop where
  rel : Vals xs its
  rel2 : Vals ys its2
  low : a < h.objs.size
  low2 : b < h.objs.size
  cls : ∀ p u, h.get? p = some u → u.cls = .none → p ≠ a ∧ p ≠ b
  keep : ∀ b o, h.get? b = some o → h'.get? b = some o
  big : h'.objs.size = h.objs.size + 5
  zip : IsZip h' (h.objs.size + 4) (h.objs.size + 2) (h.objs.size + 3) .none
  walk : ∀ B : Around, B.handled = none → WalksU P w B (h.objs.size + 4) ((h.objs.size + 4) :: (h.objs.size + 2) :: (h.objs.size + 3) :: ([h.objs.size, a] ++ [h.objs.size + 1, b])) [h.objs.size + 4, h.objs.size + 3, h.objs.size, h.objs.size + 1] (min xs.length ys.length) (fun i vals => ∃ x y, its[i]? = some x ∧ its2[i]? = some y ∧ vals = #[x, y]) St Mid
  at0 : St 0 h'
theorem iter_zip {a b : Addr} {xs ys : List V} {Q : Value → Shared → Prop} {E : Value → Shared → Prop} (I : Inv X pins σ H s) (hq : (SqL X.K H a xs ∧ SqL X.K H b ys) ∨ (SqT X.K H a xs ∧ SqT X.K H b ys))
    (done : ∀ h' its its2 St Mid, FeedZ X.prog X.w s.heap h' a b xs ys its its2 St Mid → Q (.ref (s.heap.objs.size + 4)) { s with heap := h' }) : wpAny (model X.prog X.w) X.A (call (.type "zip") [.ref a, .ref b]) Q E s := by
  rcases hq with ⟨hq, hq2⟩ | ⟨hq, hq2⟩
  · obtain ⟨its, rel, laid, _⟩ := I.list hq
    obtain ⟨its2, rel2, laid2, _⟩ := I.list hq2
    have isL := laid.isList
    have isL2 := laid2.isList
    obtain ⟨oa, ga, ca, _⟩ := id isL
    obtain ⟨ob, gb, cb, _⟩ := id isL2
    have la := Heap.lt_size ga
    have lb := Heap.lt_size gb
    have nsz : its.toArray.size = xs.length := by rw [List.size_toArray, rel.length]
    have nsz2 : its2.toArray.size = ys.length := by rw [List.size_toArray, rel2.length]
    refine call_zip_2 isL isL2 fun h' hz hTI hTO h1 h2 hsz hk => done h' its its2 (fun i h => IsZip h (s.heap.objs.size + 4) (s.heap.objs.size + 2) (s.heap.objs.size + 3) .none ∧ IsTupOf2 h (s.heap.objs.size + 2) (.ref s.heap.objs.size) (.ref (s.heap.objs.size + 1)) ∧ (∃ a1 a2, IsTupOf2 h (s.heap.objs.size + 3) a1 a2) ∧ (h.IsListIter s.heap.objs.size a i ∧ h.IsList a its.toArray) ∧ (h.IsListIter (s.heap.objs.size + 1) b i ∧ h.IsList b its2.toArray))
      (fun i T h => IsZip h (s.heap.objs.size + 4) (s.heap.objs.size + 2) (s.heap.objs.size + 3) (rawInt T) ∧ IsTupOf2 h (s.heap.objs.size + 2) (.ref s.heap.objs.size) (.ref (s.heap.objs.size + 1)) ∧ (∃ a1 a2, IsTupOf2 h (s.heap.objs.size + 3) a1 a2) ∧ (h.IsListIter s.heap.objs.size a (i + 1) ∧ h.IsList a its.toArray) ∧ (h.IsListIter (s.heap.objs.size + 1) b (i + 1) ∧ h.IsList b its2.toArray) ∧ T ≠ s.heap.objs.size + 4 ∧ T ≠ s.heap.objs.size + 3 ∧ T ≠ s.heap.objs.size ∧ T ≠ s.heap.objs.size + 1)
      ⟨rel, rel2, la, lb, fun p u gp cp => ⟨fun e => ?_, fun e => ?_⟩, hk, hsz, hz, fun B hB => ?_, ⟨hz, hTI, ⟨_, _, hTO⟩, ⟨h1, isL.at fun o q => hk a o q⟩, h2, isL2.at fun o q => hk b o q⟩⟩
    · rw [e, ga] at gp
      cases gp
      rw [cp] at ca
      cases ca
    · rw [e, gb] at gp
      cases gp
      rw [cp] at cb
      cases cb
    · have D1 := Draws.list (prog := X.prog) (w := X.w) (A := B.in1) hB s.heap.objs.size a (Nat.ne_of_lt la) its.toArray
      have D2 := Draws.list (prog := X.prog) (w := X.w) (A := B.in1) hB (s.heap.objs.size + 1) b (Nat.ne_of_lt (Nat.lt_succ_of_lt lb)) its2.toArray
      have W := (WalksT.zipD2 (zip_sep2 (N := s.heap.objs.size) (fp1 := [a]) (fp2 := [b]) (by intro c hc; rw [List.mem_singleton.mp hc]; exact la) (by intro c hc; rw [List.mem_singleton.mp hc]; exact lb)) D1 D2).toU
      rw [nsz, nsz2] at W
      simpa using W
  · obtain ⟨its, rel, laid, _⟩ := I.tuple hq
    obtain ⟨its2, rel2, laid2, _⟩ := I.tuple hq2
    have isL : s.heap.IsTuple a its.toArray := laid
    have isL2 : s.heap.IsTuple b its2.toArray := laid2
    obtain ⟨oa, ga, ca, _⟩ := id isL
    obtain ⟨ob, gb, cb, _⟩ := id isL2
    have la := Heap.lt_size ga
    have lb := Heap.lt_size gb
    have nsz : its.toArray.size = xs.length := by rw [List.size_toArray, rel.length]
    have nsz2 : its2.toArray.size = ys.length := by rw [List.size_toArray, rel2.length]
    refine RZ.call_zipT isL isL2 fun h' hz hTI hTO h1 h2 hsz hk => done h' its its2 (fun i h => IsZip h (s.heap.objs.size + 4) (s.heap.objs.size + 2) (s.heap.objs.size + 3) .none ∧ IsTupOf2 h (s.heap.objs.size + 2) (.ref s.heap.objs.size) (.ref (s.heap.objs.size + 1)) ∧ (∃ a1 a2, IsTupOf2 h (s.heap.objs.size + 3) a1 a2) ∧ (h.IsTupleIter s.heap.objs.size a i ∧ h.IsTuple a its.toArray) ∧ (h.IsTupleIter (s.heap.objs.size + 1) b i ∧ h.IsTuple b its2.toArray))
      (fun i T h => IsZip h (s.heap.objs.size + 4) (s.heap.objs.size + 2) (s.heap.objs.size + 3) (rawInt T) ∧ IsTupOf2 h (s.heap.objs.size + 2) (.ref s.heap.objs.size) (.ref (s.heap.objs.size + 1)) ∧ (∃ a1 a2, IsTupOf2 h (s.heap.objs.size + 3) a1 a2) ∧ (h.IsTupleIter s.heap.objs.size a (i + 1) ∧ h.IsTuple a its.toArray) ∧ (h.IsTupleIter (s.heap.objs.size + 1) b (i + 1) ∧ h.IsTuple b its2.toArray) ∧ T ≠ s.heap.objs.size + 4 ∧ T ≠ s.heap.objs.size + 3 ∧ T ≠ s.heap.objs.size ∧ T ≠ s.heap.objs.size + 1)
      ⟨rel, rel2, la, lb, fun p u gp cp => ⟨fun e => ?_, fun e => ?_⟩, hk, hsz, hz, fun B hB => ?_, ⟨hz, hTI, ⟨_, _, hTO⟩, ⟨h1, isL.at fun o q => hk a o q⟩, h2, isL2.at fun o q => hk b o q⟩⟩
    · rw [e, ga] at gp
      cases gp
      rw [cp] at ca
      cases ca
    · rw [e, gb] at gp
      cases gp
      rw [cp] at cb
      cases cb
    · have D1 := Draws.tuple (prog := X.prog) (w := X.w) (A := B.in1) hB s.heap.objs.size a (Nat.ne_of_lt la) its.toArray
      have D2 := Draws.tuple (prog := X.prog) (w := X.w) (A := B.in1) hB (s.heap.objs.size + 1) b (Nat.ne_of_lt (Nat.lt_succ_of_lt lb)) its2.toArray
      have W := (WalksT.zipD2 (zip_sep2 (N := s.heap.objs.size) (fp1 := [a]) (fp2 := [b]) (by intro c hc; rw [List.mem_singleton.mp hc]; exact la) (by intro c hc; rw [List.mem_singleton.mp hc]; exact lb)) D1 D2).toU
      rw [nsz, nsz2] at W
      simpa using W
def tAllZ (X : Cx) (P : Addr) (scope : Scope) (xa xb : Str) (elt : Expr) (ta : TA) : TE := fun σ H Q => ta σ H fun vs H1 => ∃ (a b : Addr) (xs ys : List V) (ok : V → V → Prop) (pb : V → V → Bool), vs = [.ref a, .ref b] ∧ ((SqL X.K H1 a xs ∧ SqL X.K H1 b ys) ∨ (SqT X.K H1 a xs ∧ SqT X.K H1 b ys)) ∧ (∀ (i : Nat) (v y : V), xs[i]? = some v → ys[i]? = some y → ok v y) ∧ TabG H1 P ∧ (∀ ps z, Inv X ps σ H1 z → EltZ X P z scope xa xb elt ok pb) ∧ ∀ H2, Tabbed P H1 H2 → Q (.bl ((List.range (min xs.length ys.length)).all (trZ pb xs ys))) H2
theorem pe_allZ {c P : Addr} {elt arg arg2 : Expr} {xa xb : Str} {pa pb' pt p pn pi pos gpos : Pos} {kt : Nat} {scope : Scope} {ta : TA} {k : Nat}
    (room : Room k X.A) (hg : Gl X "all") (hm : X.mg "all" = none) (hb : bootBuiltins "all" = some (.builtin "all")) (hge : Gl X "zip") (hme : X.mg "zip" = none) (TB : GxR.TabB X.base X.mg c P) (own : X.env.code = .ref c) (S : GenS2 X.env scope xa xb) (src : PA X [arg, arg2] ta)
    (nofold : ∀ v, genFold (.Call (.Name "zip" pn) [arg, arg2] [] pi) X.env v = pure v) (hse : starEach [arg, arg2] X.env = (false, eval arg X.env) :: starEach [arg2] X.env := by rfl) (hpl : (backTo pi (starEach [arg2] X.env)).any (·.1) = false := by rfl)
    (he : starEach [.GeneratorExp elt [⟨.Tuple [.Name xa pa, .Name xb pb'] kt pt, .Call (.Name "zip" pn) [arg, arg2] [] pi, [], 0⟩] scope gpos] X.env = (false, eval (.GeneratorExp elt [⟨.Tuple [.Name xa pa, .Name xb pb'] kt pt, .Call (.Name "zip" pn) [arg, arg2] [] pi, [], 0⟩] scope gpos) X.env) :: starEach [] X.env := by rfl) :
    PE X (.Call (.Name "all" p) [.GeneratorExp elt [⟨.Tuple [.Name xa pa, .Name xb pb'] kt pt, .Call (.Name "zip" pn) [arg, arg2] [] pi, [], 0⟩] scope gpos] [] pos) (tAllZ X P scope xa xb elt ta) := by
  refine ⟨fun pins s σ H Q I h => ?_⟩
  refine wpAny_Call_Name_kw (ld_blt I hg hm hb ?_)
  refine PyProof.Rows.callWith_builtin1 ?_ he (by rfl)
  rw [he]
  show wpAny _ _ (spliced ((false, eval (.GeneratorExp elt [⟨.Tuple [.Name xa pa, .Name xb pb'] kt pt, .Call (.Name "zip" pn) [arg, arg2] [] pi, [], 0⟩] scope gpos) X.env) :: backTo pos (starEach [] X.env))) _ _ s
  have deep : X.A.depth < recursionLimit := by have := room.dp; omega
  refine Calls.spliced_cons (wpAny_GeneratorExp_walksQTD room.hd S.co (closure_ok S.free) S.cell S.dot S.la S.lb S.ab S.kind deep
    (Call_ (ld_blt I hge hme PyProof.Rows.boot_zip (PyProof.Rows.callWith_type1 (thn (src.run pi pins s σ H _ I h) fun us s1 ⟨vs, H1, I1, r1, a, b, xs, ys, ok, pb, e0, hq, oks, ⟨tab, tP, tr⟩, hel, hR⟩ => ?_) hse hpl))) nofold)
  subst e0
  have eus : us = [.ref a, .ref b] := by
    cases r1 with
    | cons r rr => cases rr with
      | cons r' rr =>
        cases rr
        cases r
        cases r'
        rfl
  subst eus
  refine iter_zip I1 hq fun h' its its2 St Mid F => wpAny_pyIter_zip F.zip ?_
  have gP : s1.heap.get? P = some { cls := .none, data := .fields tab } := I1.hok P _ tP
  have lowP := Heap.lt_size gP
  have nl := I1.nolimit.keeps F.keep
  have stat : cStatics < s1.heap.objs.size ∧ cStatics ≠ P := by
    obtain ⟨_, ns, _⟩ := I1.nolimit
    refine ⟨ns.lt, fun e => ?_⟩
    obtain ⟨ob, _, _, g, d, _⟩ := ns
    rw [e, gP] at g
    cases g
    cases d
  refine ⟨nl, code_in_table own (TB.code.keeps fun b u e => F.keep b u (I1.bk b u e)) (F.keep P _ gP) tr fun code h3 tk more ext big gP3 tr3 => ?_⟩
  have room5 : s1.heap.objs.size + 5 ≤ h3.objs.size := by exact Nat.le_trans (Nat.le_of_eq F.big.symm) big
  have stays : ∀ b u, b ≠ P → s1.heap.get? b = some u → h3.get? b = some u := fun b u nb e => ext b u nb (F.keep b u e)
  obtain ⟨bm, ob, b1, b2, b3, b4, b5, b6, b7, b8⟩ := TB.bm
  refine wpAny_builtinsFor (m := X.mg) (by rw [I1.ok.glob]; exact Heap.Ns.extBut ((I1.mod.glob.keeps I1.bk).keeps F.keep) ext TB.gP) b1 b2 (stays _ _ b4 (I1.bk _ _ b5)) b6 b7 b8 ?_
  have foot : ∀ c ∈ (s1.heap.objs.size + 4) :: (s1.heap.objs.size + 2) :: (s1.heap.objs.size + 3) :: ([s1.heap.objs.size, a] ++ [s1.heap.objs.size + 1, b]), c ≠ P ∧ c < h3.objs.size := fun c hc => by
    have la : (a : Nat) < s1.heap.objs.size := F.low
    have lb : (b : Nat) < s1.heap.objs.size := F.low2
    have lP : (P : Nat) < s1.heap.objs.size := lowP
    have nab := F.cls P _ gP rfl
    simp only [List.mem_cons, List.mem_append, List.not_mem_nil, or_false] at hc
    have key : ∀ n : Nat, s1.heap.objs.size ≤ n → n < s1.heap.objs.size + 5 → (n : Addr) ≠ P ∧ (n : Addr) < h3.objs.size := fun n h1 h2 => ⟨Nat.ne_of_gt (Nat.lt_of_lt_of_le lP h1), Nat.lt_of_lt_of_le h2 room5⟩
    rcases hc with e | e | e | (e | e) | (e | e) <;> rw [e]
    · exact key _ (Nat.le_add_right _ _) (Nat.add_lt_add_left (by decide) _)
    · exact key _ (Nat.le_add_right _ _) (Nat.add_lt_add_left (by decide) _)
    · exact key _ (Nat.le_add_right _ _) (Nat.add_lt_add_left (by decide) _)
    · exact key _ (Nat.le_refl _) (Nat.lt_add_of_pos_right (by decide))
    · exact ⟨nab.1.symm, Nat.lt_of_lt_of_le la (Nat.le_trans (Nat.le_add_right _ 5) room5)⟩
    · exact key _ (Nat.le_add_right _ _) (Nat.add_lt_add_left (by decide) _)
    · exact ⟨nab.2.symm, Nat.lt_of_lt_of_le lb (Nat.le_trans (Nat.le_add_right _ 5) room5)⟩
  have wrn : ∀ c u, s1.heap.get? c = some u → c ∉ [s1.heap.objs.size + 4, s1.heap.objs.size + 3, s1.heap.objs.size, s1.heap.objs.size + 1] := fun c u e hc => by
    have lc : (c : Nat) < s1.heap.objs.size := Heap.lt_size e
    simp only [List.mem_cons, List.not_mem_nil, or_false] at hc
    have key : ∀ n : Nat, s1.heap.objs.size ≤ n → (c : Nat) ≠ n := fun n h => Nat.ne_of_lt (Nat.lt_of_lt_of_le lc h)
    rcases hc with z | z | z | z
    · exact key _ (Nat.le_add_right _ _) z
    · exact key _ (Nat.le_add_right _ _) z
    · exact key _ (Nat.le_refl _) z
    · exact key _ (Nat.le_add_right _ _) z
  refine ⟨_, _, [s1.heap.objs.size + 4, s1.heap.objs.size + 3, s1.heap.objs.size, s1.heap.objs.size + 1], min xs.length ys.length, _, St, Mid, fun _ => true, fun i z => ∃ d e, xs[i]? = some d ∧ ys[i]? = some e ∧ z = .bool (pb d e), rfl, F.walk, fun i vals q => ?_, ?_, fun b hb => (foot b hb).2, nl.extBut ext stat.2, fun e => ?_, fun later kept => ⟨?_, ?_⟩, ?_⟩
  · obtain ⟨x, y, _, _, e⟩ := q
    exact ⟨_, _, e⟩
  · exact (F.walk X.A room.hd).frame _ _ _ F.at0 fun b hb u e => ext b u (foot b hb).1 e
  · have := stat.1
    obtain ⟨_, ns, _⟩ := I1.nolimit
    obtain ⟨ob', _, _, g, d, _⟩ := ns
    exact wrn _ _ g e
  · intro B E' i va vb t mt _ _ _ _ _ _ _ _
    simp only [List.forIn_nil]
    exact wpAny_pure ⟨rfl, keeps_refl _⟩
  · intro B E' i va vb t mt hB dB uB hy _ ln lma lmb lk
    obtain ⟨x, y, hx, hy2, ev⟩ := hy
    have ea : va = x := by
      have := congrArg (fun l : Array Value => l[0]?) ev
      simpa using this
    have eb : vb = y := by
      have := congrArg (fun l : Array Value => l[1]?) ev
      simpa using this
    subst ea eb
    have lt : i < xs.length := by
      rw [F.rel.length]
      exact (List.getElem?_eq_some_iff.mp hx).1
    have lt2 : i < ys.length := by
      rw [F.rel2.length]
      exact (List.getElem?_eq_some_iff.mp hy2).1
    have at_ := List.getElem?_eq_getElem lt
    have at2 := List.getElem?_eq_getElem lt2
    obtain ⟨y', hy', ry⟩ := F.rel.get at_
    cases hx.symm.trans hy'
    obtain ⟨y'', hy'', ry2⟩ := F.rel2.get at2
    cases hy2.symm.trans hy''
    refine wpAny_mono (hel pins s1 I1 _ B E' xs[i] ys[i] va vb t mt ry ry2 (oks i _ _ at_ at2) hB dB uB rfl I1.ok.glob rfl rfl (fun b u nb eb => ?_) ln lma lmb) (fun z t' r => ⟨⟨_, _, at_, at2, r.1⟩, r.2⟩) fun _ _ e => e
    have e3 := stays b u nb eb
    exact lk b (List.mem_range.mpr (Heap.lt_size e3)) (wrn b u eb) u (kept b u e3)
  · intro g h5 tk5 gen bare gt sz5 keep5 W5 start
    simp only [GxR.passing_true, List.length_range] at W5
    refine Calls.spliced_nil ?_
    refine call_all_walkS (W5.in4_1.self 0 _ _ _ start ⟨g, _, _, _, _, _, _, trZ pb xs ys, rfl, W5.in4_1, start, fun j y t Qj Ej hy hj => ?_, fun z mv => ?_⟩)
    · obtain ⟨i, hi, d, e, hd, he', rfl⟩ := hy
      obtain ⟨_, ei⟩ := List.getElem?_eq_some_iff.mp hi
      rw [List.getElem_range] at ei
      subst ei
      rw [trZ_some hd he'] at hj
      exact wpAny_truthy_bool hj
    · have apart : ∀ b u, s1.heap.get? b = some u → b ∉ h3.objs.size :: [s1.heap.objs.size + 4, s1.heap.objs.size + 3, s1.heap.objs.size, s1.heap.objs.size + 1] := fun b u e hb => by
        rcases List.mem_cons.mp hb with e' | hb
        · have lb : (b : Nat) < s1.heap.objs.size := Heap.lt_size e
          exact absurd e' (Nat.ne_of_lt (Nat.lt_of_lt_of_le lb (Nat.le_trans (Nat.le_add_right _ 5) room5)))
        · exact wrn b u e hb
      have fin := inv_tab (more := more) (h' := z.heap) (g' := z.gens) (d' := z.drawn) (t' := z.toks) I1 tP (fun b u nb e => mv.heap b u (apart b u e) (keep5 b u (stays b u nb e))) (mv.heap P _ (apart P _ gP) (keep5 P _ gP3)) (AllBare.movedS (I1.bare.push bare) mv)
      rw [sh_eta s1 z mv.os] at fin
      refine ⟨.bl _, upd H1 P (.tbl (tab ++ more)), fin, rfl, hR _ ⟨⟨tab ++ more, upd_same, tr3⟩, fun b hb => upd_ne hb⟩⟩
end
end Lb

set_option Elab.async false
set_option linter.all false
set_option maxRecDepth 100000
set_option maxHeartbeats 4000000
namespace Lb
open PySem PySem.Spec PyProof.Rows L2 GxR

abbrev s_is_rising_list : Stmt := topS 18
theorem sc_is_rising_list : FnScope ["value", "low", "high"] ["value", "low", "high"] (defScope s_is_rising_list) := ⟨rfl, rfl, rfl, by decide +kernel, rfl, by decide +kernel, by decide +kernel⟩
abbrev s_is_places : Stmt := topS 22
theorem sc_is_places : FnScope ["order", "value"] ["order", "value"] (defScope s_is_places) := ⟨rfl, rfl, rfl, by decide +kernel, rfl, by decide +kernel, by decide +kernel⟩
abbrev s_in_sizes : Stmt := topS 23
theorem sc_in_sizes : FnScope ["things", "rising", "thing"] ["things"] (defScope s_in_sizes) := ⟨rfl, rfl, rfl, by decide +kernel, rfl, by decide +kernel, by decide +kernel⟩
abbrev s_way_at : Stmt := topS 24
theorem sc_way_at : FnScope ["order", "places", "place"] ["order", "places"] (defScope s_way_at) := ⟨rfl, rfl, rfl, by decide +kernel, rfl, by decide +kernel, by decide +kernel⟩
abbrev s_longer_places : Stmt := topS 25
theorem sc_longer_places : FnScope ["size", "places", "behind", "place"] ["size", "places"] (defScope s_longer_places) := ⟨rfl, rfl, rfl, by decide +kernel, rfl, by decide +kernel, by decide +kernel⟩
abbrev s_standings : Stmt := topS 26
theorem sc_standings : FnScope ["order", "way", "size", "found", "many", "begun", "longer", "ahead", "places"] ["order", "way"] (defScope s_standings) := ⟨rfl, rfl, rfl, by decide +kernel, rfl, by decide +kernel, by decide +kernel⟩
abbrev s_stands : Stmt := topS 27
theorem sc_stands : FnScope ["order", "way", "found"] ["order", "way"] (defScope s_stands) := ⟨rfl, rfl, rfl, by decide +kernel, rfl, by decide +kernel, by decide +kernel⟩
abbrev s_at_places : Stmt := topS 28
theorem sc_at_places : FnScope ["order", "places"] ["order", "places"] (defScope s_at_places) := ⟨rfl, rfl, rfl, by decide +kernel, rfl, by decide +kernel, by decide +kernel⟩
theorem vl_inv {l : List Nat} {i : Nat} {v : V} (h : (vl l)[i]? = some v) : ∃ k, l[i]? = some k ∧ v = .int (k : Int) := by
  have hi : i < l.length := by
    have z := (List.getElem?_eq_some_iff.mp h).1
    rw [vl_len] at z
    exact z
  exact ⟨l.getD i 0, getD_of hi, Option.some.inj (h.symm.trans (vl_get (getD_of hi)))⟩
theorem Paired.getL {α β : Type} {R : α → β → Prop} : ∀ {l : List α} {m : List β} {j : Nat} {x : α}, Paired R l m → l[j]? = some x → ∃ y, m[j]? = some y ∧ R x y
  | _, _, 0, _, .cons r _, e => ⟨_, rfl, by cases e; exact r⟩
  | _, _, j + 1, _, .cons _ t, e => Paired.getL (j := j) t (by simpa using e)
theorem SqT.go {K : PySem.W.Frag} {T : Addr → Prop} {a : Addr} {H H' : Hp} {xs : List V} (h : SqT K H a xs) (g : Go T H H') (t : Tabs H T) : SqT K H' a xs := g.seqT t h
/-- x[lo:hi], its kind kept -/
def rCutK (K : PySem.W.Frag) : V → Option Int → Option Int → Hp → VK → Prop := fun x lo hi H Q => ∃ (a : Addr) (xs : List V), x = .ref a ∧
  ((SqL K H a xs ∧ ∀ p, H p = none → Q (.ref p) (upd H p (.lst (cutV xs lo hi)))) ∨ (SqT K H a xs ∧ (cutV xs lo hi = xs → Q (.ref a) H) ∧ ∀ p, H p = none → Q (.ref p) (upd H p (.tup (cutV xs lo hi)))))
section
variable {X : Cx}
theorem sl_kind : SlR X (rCutK X.K) := by
  intro pins s σ H x v vl vu lo hi sl Q I rx hs pl pu h
  obtain ⟨a, xs, rfl, ⟨hq, q⟩ | ⟨hq, q0, q⟩⟩ := h
  · exact sl_list pins s σ H _ v vl vu lo hi sl Q I rx hs pl pu ⟨a, xs, rfl, hq, fun p hp => q p hp⟩
  · refine sl_tupA pins s σ H _ v vl vu lo hi sl Q I rx hs pl pu ⟨a, xs, rfl, hq, fun e => q0 ?_, fun _ p hp => q p hp⟩
    unfold cutV
    rw [e.1, e.2, List.drop_zero, Nat.sub_zero, List.take_length]
def ltV : V → V → Bool
  | .int i, .int j => decide (i < j)
  | _, _ => false
theorem elt_rise {X : Cx} {scope : Scope} {p1 p2 p3 : Pos} {z : Shared} {P0 : Addr}
    (hk : scope.kind = .function) (l1 : scope.names.lookup ("lesser" : Str) = some .local) (l2 : scope.names.lookup ("greater" : Str) = some .local) :
    EltZ X P0 z scope "lesser" "greater" (.Compare (.Name "lesser" p1) [.Lt] [.Name "greater" p2] p3) (fun v y => (∃ i, v = .int i) ∧ ∃ j, y = .int j) ltV := by
  rintro cenv A' E' v y u r t m rv ry ⟨⟨i, rfl⟩, ⟨j, rfl⟩⟩ hA hD hU hsc hgl hbl hcs old hn hm hm2
  obtain ⟨tk, rfl⟩ := rv
  obtain ⟨tk2, rfl⟩ := ry
  have kd : cenv.scope.kind = .function := by rw [hsc]; exact hk
  have k1 : cenv.kindOf "lesser" = some .local := by show cenv.scope.names.lookup _ = _; rw [hsc]; exact l1
  have k2 : cenv.kindOf "greater" = some .local := by show cenv.scope.names.lookup _ = _; rw [hsc]; exact l2
  refine wpAny_Compare1 (wpAny_Name (wpAny_loadName_local kd k1 hn hm (wpAny_Name (wpAny_loadName_local kd k2 hn hm2 (PyProof.Rows.lt_int ?_)) (by decide))) (by decide)) (by rfl)
  exact ⟨rfl, keeps_refl _⟩
end
section
variable {P : Program} {w : World} {K : PySem.W.Frag} {mg : Str → Option Value} {base : Heap} {T : Addr → Prop}
/-- rising -/
def Ris (l : List Nat) : Prop := l.Pairwise (· < ·)
def spRis (K : PySem.W.Frag) (T : Addr → Prop) : Sp := fun vs H Q _ => ∃ (a : Addr) (l : List Nat) (lo hi : Int), vs = [.ref a, .int lo, .int hi] ∧ SeqLT K H a (vl l) ∧ (∀ k ∈ l, lo ≤ (k : Int) ∧ (k : Int) ≤ hi) ∧ Ris l ∧ Tabs H T ∧ ∀ H', Go T H H' → Q (.bl true) H'
theorem cut_one (l : List Nat) : cutV (vl l) (some 1) none = vl (l.drop 1) := by
  unfold cutV
  rw [show (some (1 : Int)) = some ((1 : Nat) : Int) from rfl, HT.sIx_nat, HT.sIx_none]
  unfold vl
  rw [List.length_map, List.length_map]
  cases l with
  | nil => rfl
  | cons x r =>
    simp
    rw [List.take_of_length_le (by simp)]
theorem ris_all {l : List Nat} (h : Ris l) : ((List.range (min (vl l).length (vl (l.drop 1)).length)).all (trZ ltV (vl l) (vl (l.drop 1)))) = true := by
  refine List.all_eq_true.mpr fun j hj => ?_
  have hj := List.mem_range.mp hj
  rw [vl_len, vl_len, List.length_drop] at hj
  have e1 : (vl l)[j]? = some (V.int ((l.getD j 0 : Nat) : Int)) := vl_get (getD_of (by omega))
  have e2 : (vl (l.drop 1))[j]? = some (V.int ((l.getD (1 + j) 0 : Nat) : Int)) := vl_get (by rw [List.getElem?_drop]; exact getD_of (by omega))
  rw [trZ_some e1 e2]
  refine decide_eq_true ?_
  have z := List.pairwise_iff_getElem.mp h j (1 + j) (by omega) (by omega) (by omega)
  rw [List.getD_eq_getElem?_getD, List.getElem?_eq_getElem (by omega), List.getD_eq_getElem?_getD, List.getElem?_eq_getElem (by omega)]
  simpa using z
theorem ok_is_rising_list {f c2 t2 : Addr} {fd : FuncData} (F : Fun K "is_rising_list" "is_rising_list" s_is_rising_list f fd) (hc : fd.code = .ref c2) (hT : T t2) (TB : GxR.TabB base mg c2 t2) (G1 : Cn P w K mg base 2 "are_within_bounds" ["value", "low", "high"] (spAwb K T)) (B : Bl2 mg) (mz : mg "zip" = none) : FnOk P w K mg base CX0 3 f fd ["value", "low", "high"] (spRis K T) := by
  obtain ⟨oc, od, kV, doc, pm, an, cdv, ct, osl, rfl, lk, hcd⟩ := F.ex
  have hc' : cdv = .ref c2 := hc
  subst hc'
  refine fn_of lk hcd sc_is_rising_list (fun vs H Q E h => ?_) (fun A outer s H vs Q E hr h => ?_)
  · obtain ⟨a, l, lo, hi, rfl, _⟩ := h
    rfl
  · obtain ⟨a, l, lo, hi, rfl, ha, hb, ris, ht, q⟩ := h
    refine ⟨_, (pss_cons (ps_if (pt_not (pt_val (pe_cn G1 hr (by rfl) (pa_cons (pv 0) (pa_cons (pv 1) (pa_cons (pv 2) pa_nil))))))
        (pss_one (ps_ret pe_bl)) pss_nil)
      (pss_one (ps_ret (pe_allZ hr (by rfl) B.b.all (by decide +kernel) (by rfl) mz TB rfl ⟨rfl, rfl, by decide +kernel, by rfl, by rfl, by rfl, by decide, (fun y hy e => absurd e ((by decide +kernel : ∀ y ∈ [((".0" : Str), NameKind.local), ("lesser", NameKind.local), ("greater", NameKind.local)], y.2 ≠ NameKind.free) y hy))⟩ (pa_cons (pv 0) (pa_cons (pe_slice sl_kind (pv 0) (po_some pe_int) po_none) pa_nil)) (fun _ => rfl))))), ?_⟩
    refine ⟨.ref a, rfl, .int lo, rfl, .int hi, rfl, a, l, lo, hi, rfl, ha, hb, ht, fun H1 g1 => ⟨true, rfl, iteF ?_⟩⟩
    have ok : ∀ (m : List Nat) (i : Nat) (v : V), (vl m)[i]? = some v → ∃ k, v = .int k := fun m i v h => by
      obtain ⟨t, _, rfl⟩ := vl_inv h
      exact ⟨_, rfl⟩
    refine ⟨.ref a, rfl, .ref a, rfl, 1, rfl, ?_⟩
    rcases g1.lt ht ha with ha1 | ha1
    · refine ⟨a, vl l, rfl, .inl ⟨ha1, fun p hp => ?_⟩⟩
      rw [cut_one]
      have g2 := Go.new (o := .lst (vl (l.drop 1))) g1.1 hp
      refine ⟨a, p, vl l, vl (l.drop 1), (fun v y => (∃ i, v = .int i) ∧ ∃ j, y = .int j), ltV, rfl, .inl ⟨g2.seqL g1.1 ha1, SqL.of upd_same⟩, fun i v y h1 h2 => ⟨ok _ _ _ h1, ok _ _ _ h2⟩, g2.1 _ hT, fun ps z I1 => elt_rise rfl (by rfl) (by rfl), fun H2 tb => ?_⟩
      rw [ris_all ris]
      exact q _ (g1.trans (g2.trans (Go.tabbed hT g2.1 tb)))
    · refine ⟨a, vl l, rfl, .inr ⟨ha1, fun e => ?_, fun p hp => ?_⟩⟩
      · rw [cut_one] at e
        refine ⟨a, a, vl l, vl (l.drop 1), (fun v y => (∃ i, v = .int i) ∧ ∃ j, y = .int j), ltV, rfl, .inr ⟨ha1, by rw [e]; exact ha1⟩, fun i v y h1 h2 => ⟨ok _ _ _ h1, ok _ _ _ h2⟩, g1.1 _ hT, fun ps z I1 => elt_rise rfl (by rfl) (by rfl), fun H2 tb => ?_⟩
        rw [ris_all ris]
        exact q _ (g1.trans (Go.tabbed hT g1.1 tb))
      · rw [cut_one]
        have g2 := Go.new (o := .tup (vl (l.drop 1))) g1.1 hp
        refine ⟨a, p, vl l, vl (l.drop 1), (fun v y => (∃ i, v = .int i) ∧ ∃ j, y = .int j), ltV, rfl, .inr ⟨g2.seqT g1.1 ha1, SqT.of upd_same⟩, fun i v y h1 h2 => ⟨ok _ _ _ h1, ok _ _ _ h2⟩, g2.1 _ hT, fun ps z I1 => elt_rise rfl (by rfl) (by rfl), fun H2 tb => ?_⟩
        rw [ris_all ris]
        exact q _ (g1.trans (g2.trans (Go.tabbed hT g2.1 tb)))
def spIpl (K : PySem.W.Frag) (T : Addr → Prop) : Sp := fun vs H Q _ => ∃ (d a : Addr) (o l : List Nat), vs = [.ref d, .ref a] ∧ SeqLT K H d (vl o) ∧ SeqLT K H a (vl l) ∧ (∀ k ∈ l, k < o.length) ∧ Ris l ∧ 1 ≤ l.length ∧ Tabs H T ∧ ∀ H', Go T H H' → Q (.bl true) H'
theorem ok_is_places {f : Addr} {fd : FuncData} (F : Fun K "is_places" "is_places" s_is_places f fd) (G1 : Cn P w K mg base 3 "is_rising_list" ["value", "low", "high"] (spRis K T)) (B : Bl2 mg) : FnOk P w K mg base CX0 4 f fd ["order", "value"] (spIpl K T) := by
  refine F.ok sc_is_places (fun vs H Q E h => ?_) (fun cdv A outer s H vs Q E hr h => ?_)
  · obtain ⟨d, a, o, l, rfl, _⟩ := h
    rfl
  · obtain ⟨d, a, o, l, rfl, hd, ha, hb, ris, h1, ht, q⟩ := h
    refine ⟨_, (pss_one (ps_ret (pe_and (pe_cn G1 hr (by rfl) (pa_cons (pv 1) (pa_cons pe_int (pa_cons (pe_op op_sub (pe_callB call_len (by rfl) B.b.len PySem.boot_len (pa_cons (pv 0) pa_nil)) pe_int) pa_nil)))) (pe_one (pe_cmpR op_ge (pe_callB call_len (by rfl) B.b.len PySem.boot_len (pa_cons (pv 1) pa_nil)) pe_int (nomark _)))))), ?_⟩
    have l1 := lenV_seq (K := K) hd
    rw [vl_len] at l1
    refine ⟨.ref a, rfl, .ref d, rfl, .ref d, _, rfl, l1, _, 1, rfl, rfl, a, l, 0, (o.length : Int) - 1, rfl, ha, fun k hk => ⟨by omega, by have := hb k hk; omega⟩, ris, ht, fun H1 g1 => ⟨true, rfl, iteT ?_⟩⟩
    have l2 := lenV_seq (K := K) (g1.lt ht ha)
    rw [vl_len] at l2
    refine ⟨.ref a, rfl, .ref a, _, rfl, l2, _, _, rfl, rfl, ?_⟩
    have z := q _ g1
    rw [show true = decide ((1 : Int) ≤ (l.length : Int)) from (decide_eq_true (by omega)).symm] at z
    exact z
end
end Lb

set_option Elab.async false
set_option linter.all false
set_option maxRecDepth 100000
set_option maxHeartbeats 4000000
namespace Lb

/-! ### sizes of things among themselves -/
def cnt (xs : List Nat) (x : Nat) : Nat := (xs.filter fun y => decide (y < x)).length
def low (xs : List Nat) : List Nat := xs.map fun x => cnt xs x + 1
theorem len_low (xs : List Nat) : (low xs).length = xs.length := by
  unfold low
  rw [List.length_map]
theorem cnt_perm {a b : List Nat} (h : a.Perm b) (x : Nat) : cnt a x = cnt b x := (h.filter _).length_eq
theorem cnt_le (xs : List Nat) {x y : Nat} (h : x ≤ y) : cnt xs x ≤ cnt xs y := by
  unfold cnt
  induction xs with
  | nil => exact Nat.le_refl _
  | cons a t ih =>
    rw [List.filter_cons, List.filter_cons]
    by_cases c : a < x
    · rw [if_pos (decide_eq_true c), if_pos (decide_eq_true (show a < y by omega)), List.length_cons, List.length_cons]
      omega
    · rw [if_neg (by simpa using c)]
      split
      · rw [List.length_cons]; omega
      · exact ih
theorem cnt_lt {xs : List Nat} {x y : Nat} (h : x < y) (m : x ∈ xs) : cnt xs x < cnt xs y := by
  unfold cnt
  induction xs with
  | nil => cases m
  | cons a t ih =>
    have le := cnt_le t (Nat.le_of_lt h)
    unfold cnt at le
    rw [List.filter_cons, List.filter_cons]
    rcases List.mem_cons.mp m with rfl | m
    · rw [if_neg (by simp), if_pos (decide_eq_true h), List.length_cons]
      omega
    · have z := ih m
      by_cases c : a < x
      · rw [if_pos (decide_eq_true c), if_pos (decide_eq_true (show a < y by omega)), List.length_cons, List.length_cons]
        omega
      · rw [if_neg (by simpa using c)]
        split
        · rw [List.length_cons]; omega
        · exact z
theorem low_at {xs : List Nat} {i : Nat} (h : i < xs.length) : (low xs).getD i 0 = cnt xs (xs.getD i 0) + 1 := by
  refine at_of ?_
  unfold low
  rw [List.getElem?_map, getD_of h]
  rfl
theorem low_lt {xs : List Nat} {i j : Nat} (hi : i < xs.length) (hj : j < xs.length) : xs.getD i 0 < xs.getD j 0 ↔ (low xs).getD i 0 < (low xs).getD j 0 := by
  rw [low_at hi, low_at hj]
  constructor
  · intro h
    have := cnt_lt h (List.mem_of_getElem? (getD_of hi))
    omega
  · intro h
    refine Classical.byContradiction fun z => ?_
    have := cnt_le xs (show xs.getD j 0 ≤ xs.getD i 0 by omega)
    omega
theorem map_getD (xs : List Nat) : (List.range xs.length).map (fun i => xs.getD i 0) = xs := by
  refine List.ext_getElem? fun i => ?_
  rw [List.getElem?_map]
  by_cases h : i < xs.length
  · rw [List.getElem?_range h, getD_of h]
    rfl
  · rw [List.getElem?_eq_none (by rw [List.length_range]; omega), List.getElem?_eq_none (by omega)]
    rfl
theorem cnt_idx (xs : List Nat) (x : Nat) : cnt xs x = ((List.range xs.length).filter fun i => decide (xs.getD i 0 < x)).length := by
  unfold cnt
  have e : (xs.filter fun y => decide (y < x)).length = (((List.range xs.length).map (fun i => xs.getD i 0)).filter fun y => decide (y < x)).length := by rw [map_getD]
  rw [e, List.filter_map, List.length_map]
  rfl
theorem low_of {xs ys : List Nat} (hl : xs.length = ys.length) (h : ∀ i j, i < xs.length → j < xs.length → (xs.getD i 0 < xs.getD j 0 ↔ ys.getD i 0 < ys.getD j 0)) : low xs = low ys := by
  refine ext_at (by rw [len_low, len_low, hl]) fun k hk => ?_
  rw [len_low] at hk
  rw [low_at hk, low_at (by omega), cnt_idx, cnt_idx, ← hl]
  congr 2
  refine List.filter_congr fun i hi => ?_
  have hi := List.mem_range.mp hi
  by_cases c : xs.getD i 0 < xs.getD k 0
  · rw [decide_eq_true c, decide_eq_true ((h i k hi hk).mp c)]
  · rw [decide_eq_false c, decide_eq_false (fun z => c ((h i k hi hk).mpr z))]
theorem low_iff {xs ys : List Nat} (hl : xs.length = ys.length) (h : low xs = low ys) {i j : Nat} (hi : i < xs.length) (hj : j < xs.length) : xs.getD i 0 < xs.getD j 0 ↔ ys.getD i 0 < ys.getD j 0 := by
  rw [low_lt hi hj, h, ← low_lt (by omega) (by omega)]
theorem getD_take {xs : List Nat} {i m : Nat} (h : i < m) : (xs.take m).getD i 0 = xs.getD i 0 := by
  rw [List.getD_eq_getElem?_getD, List.getD_eq_getElem?_getD, List.getElem?_take, if_pos h]
theorem low_take {xs ys : List Nat} (hl : xs.length = ys.length) (h : low xs = low ys) (m : Nat) : low (xs.take m) = low (ys.take m) := by
  refine low_of (by rw [List.length_take, List.length_take, hl]) fun i j hi hj => ?_
  rw [List.length_take] at hi hj
  rw [getD_take (by omega), getD_take (by omega), getD_take (by omega), getD_take (by omega)]
  exact low_iff hl h (by omega) (by omega)
theorem cnt_up (n x : Nat) (h1 : 1 ≤ x) (h2 : x ≤ n + 1) : cnt (List.range' 1 n) x = x - 1 := by
  have e : List.range' 1 n = List.range' 1 (x - 1) ++ List.range' x (n - (x - 1)) := by
    have z := List.range'_append (s := 1) (m := x - 1) (n := n - (x - 1)) (step := 1)
    rw [Nat.one_mul, show 1 + (x - 1) = x by omega, show x - 1 + (n - (x - 1)) = n by omega] at z
    exact z.symm
  unfold cnt
  rw [e, List.filter_append, List.filter_eq_self.mpr (fun y hy => decide_eq_true (by have := List.mem_range'_1.mp hy; omega)), List.filter_eq_nil_iff.mpr (fun y hy => by have := List.mem_range'_1.mp hy; simp; omega), List.append_nil, List.length_range']
theorem low_ord {w : List Nat} (h : IsOrd w) : low w = w := by
  refine ext_at (len_low w) fun k hk => ?_
  rw [len_low] at hk
  have sm := h.sm hk
  rw [low_at hk, cnt_perm h.perm, cnt_up _ _ (by omega) (by omega)]
  omega
theorem idx_sorted : ∀ {l : List Int} {x : Int}, l.Pairwise (· ≤ ·) → x ∈ l → l.idxOf x = (l.filter fun y => decide (y < x)).length
  | a :: t, x, s, m => by
    obtain ⟨s1, s2⟩ := List.pairwise_cons.mp s
    by_cases e : a = x
    · subst e
      rw [List.idxOf_cons_self, List.filter_cons_of_neg (by simp), List.filter_eq_nil_iff.mpr (fun y hy => by have := s1 y hy; simp; omega)]
      rfl
    · have mt : x ∈ t := by
        rcases List.mem_cons.mp m with z | z
        · exact absurd z.symm e
        · exact z
      have := s1 x mt
      rw [List.idxOf_cons, beq_false_of_ne e, List.filter_cons_of_pos (p := fun y => decide (y < x)) (decide_eq_true (by omega)), List.length_cons, ← idx_sorted s2 mt]
      rfl
theorem cnt_cast (xs : List Nat) (k : Nat) : ((xs.map fun k : Nat => (k : Int)).filter fun y => decide (y < (k : Int))).length = cnt xs k := by
  unfold cnt
  rw [List.filter_map, List.length_map]
  congr 1
  refine List.filter_congr fun y _ => ?_
  show decide ((y : Int) < (k : Int)) = decide (y < k)
  by_cases c : y < k
  · rw [decide_eq_true c, decide_eq_true (by omega)]
  · rw [decide_eq_false c, decide_eq_false (by omega)]
/-! ### choices of places -/
def at_ (o ps : List Nat) : List Nat := ps.map fun p => o.getD p 0
def chs : List Nat → Nat → List (List Nat)
  | _, 0 => [[]]
  | l, m + 1 => (List.range (l.length - m)).flatMap fun a => (chs (l.drop (a + 1)) m).map fun r => l.getD a 0 :: r
theorem flat_congr {α β : Type} {f g : α → List β} : ∀ {l : List α}, (∀ x ∈ l, f x = g x) → l.flatMap f = l.flatMap g
  | [], _ => rfl
  | a :: t, h => by
    rw [List.flatMap_cons, List.flatMap_cons, h a (.head _), flat_congr fun x hx => h x (.tail _ hx)]
def bh (ps : List Nat) : Nat := match ps.getLast? with | none => 0 | some p => p + 1
def ext (n : Nat) (ps : List Nat) : List (List Nat) := (List.range' (bh ps) (n - bh ps)).map fun p => ps ++ [p]
def En (n : Nat) : Nat → List (List Nat)
  | 0 => [[]]
  | m + 1 => (En n m).flatMap (ext n)
def Fn_ (n : Nat) : Nat → List Nat → List (List Nat)
  | 0, ps => [ps]
  | k + 1, ps => (ext n ps).flatMap (Fn_ n k)
theorem bh_app (ps : List Nat) (p : Nat) : bh (ps ++ [p]) = p + 1 := by
  unfold bh
  rw [List.getLast?_append]
  rfl
theorem Fn_last (n : Nat) : ∀ (k : Nat) (ps : List Nat), Fn_ n (k + 1) ps = (Fn_ n k ps).flatMap (ext n)
  | 0, ps => by
    show (ext n ps).flatMap (Fn_ n 0) = [ps].flatMap (ext n)
    rw [List.flatMap_cons, List.flatMap_nil, List.append_nil]
    show (ext n ps).flatMap (fun ps => [ps]) = _
    rw [List.flatMap_singleton']
  | k + 1, ps => by
    show (ext n ps).flatMap (Fn_ n (k + 1)) = ((ext n ps).flatMap (Fn_ n k)).flatMap (ext n)
    rw [List.flatMap_assoc]
    congr 1
    funext x
    exact Fn_last n k x
theorem En_Fn (n : Nat) : ∀ k, En n k = Fn_ n k []
  | 0 => rfl
  | k + 1 => by
    rw [Fn_last, ← En_Fn n k]
    rfl
theorem chs_short : ∀ (m : Nat) (l : List Nat), l.length < m → chs l m = []
  | m + 1, l, h => by
    show (List.range (l.length - m)).flatMap _ = []
    rw [show l.length - m = 0 by omega]
    rfl
theorem flat_cut {α : Type} (f : Nat → List α) (c : Nat) : ∀ d, (∀ a, c ≤ a → a < c + d → f a = []) → (List.range (c + d)).flatMap f = (List.range c).flatMap f
  | 0, _ => rfl
  | d + 1, h => by
    rw [← Nat.add_assoc, List.range_succ, List.flatMap_append, flat_cut f c d (fun a h1 h2 => h a h1 (by omega)), List.flatMap_cons, h (c + d) (by omega) (by omega)]
    simp
theorem drop_range' (b m a : Nat) : (List.range' b m).drop a = List.range' (b + a) (m - a) := by
  rw [List.drop_range', Nat.mul_one]
theorem Fn_chs (n : Nat) : ∀ (k : Nat) (ps : List Nat), bh ps ≤ n → Fn_ n k ps = (chs (List.range' (bh ps) (n - bh ps)) k).map (ps ++ ·)
  | 0, ps, _ => by
    show [ps] = [[]].map (ps ++ ·)
    simp
  | k + 1, ps, h => by
    have e1 : Fn_ n (k + 1) ps = (List.range (n - bh ps)).flatMap fun a => Fn_ n k (ps ++ [bh ps + a]) := by
      show ((List.range' (bh ps) (n - bh ps)).map fun p => ps ++ [p]).flatMap (Fn_ n k) = _
      rw [List.range'_eq_map_range, List.map_map, List.flatMap_map]
      rfl
    have e2 : (chs (List.range' (bh ps) (n - bh ps)) (k + 1)).map (ps ++ ·) = (List.range (n - bh ps - k)).flatMap fun a => ((chs ((List.range' (bh ps) (n - bh ps)).drop (a + 1)) k).map fun r => (List.range' (bh ps) (n - bh ps)).getD a 0 :: r).map (ps ++ ·) := by
      show ((List.range ((List.range' (bh ps) (n - bh ps)).length - k)).flatMap _).map _ = _
      rw [List.length_range', List.map_flatMap]
    have step : ∀ a, a < n - bh ps → Fn_ n k (ps ++ [bh ps + a]) = ((chs ((List.range' (bh ps) (n - bh ps)).drop (a + 1)) k).map fun r => (List.range' (bh ps) (n - bh ps)).getD a 0 :: r).map (ps ++ ·) := by
      intro a ha
      rw [Fn_chs n k _ (by rw [bh_app]; omega), bh_app, drop_range', List.map_map]
      have e : (List.range' (bh ps) (n - bh ps)).getD a 0 = bh ps + a := at_of (by rw [List.getElem?_range' ha]; simp)
      rw [e, show n - bh ps - (a + 1) = n - (bh ps + a + 1) by omega, show bh ps + (a + 1) = bh ps + a + 1 by omega]
      refine List.map_congr_left fun r _ => ?_
      show (ps ++ [bh ps + a]) ++ r = ps ++ ((bh ps + a) :: r)
      simp
    have nil : ∀ a, n - bh ps - k ≤ a → a < n - bh ps → Fn_ n k (ps ++ [bh ps + a]) = [] := fun a h1 h2 => by
      rw [step a h2, chs_short k _ (by rw [List.length_drop, List.length_range']; omega)]
      rfl
    have cut := flat_cut (fun a => Fn_ n k (ps ++ [bh ps + a])) (n - bh ps - k) (n - bh ps - (n - bh ps - k)) (fun a h1 h2 => nil a h1 (by omega))
    rw [show n - bh ps - k + (n - bh ps - (n - bh ps - k)) = n - bh ps by omega] at cut
    rw [e1, e2]
    refine cut.trans ?_
    refine flat_congr fun a ha => ?_
    have := List.mem_range.mp ha
    exact step a (by omega)
theorem En_chs (n k : Nat) : En n k = chs (List.range n) k := by
  rw [En_Fn, Fn_chs n k [] (Nat.zero_le _)]
  show (chs (List.range' 0 (n - 0)) k).map _ = _
  rw [Nat.sub_zero, ← List.range_eq_range']
  exact List.map_id' _
/-! ### standings -/
def pm (o w : List Nat) (m : Nat) (ps : List Nat) : Bool := decide (low (at_ o ps) = low (w.take m))
def Sn (o w : List Nat) : Nat → List (List Nat)
  | 0 => [[]]
  | m + 1 => ((Sn o w m).flatMap (ext o.length)).filter (pm o w (m + 1))
theorem En_len {n : Nat} : ∀ {k : Nat} {ps : List Nat}, ps ∈ En n k → ps.length = k
  | 0, ps, h => by
    rw [List.mem_singleton.mp h]
    rfl
  | k + 1, ps, h => by
    obtain ⟨q, hq, h⟩ := List.mem_flatMap.mp h
    unfold ext at h
    obtain ⟨p, _, rfl⟩ := List.mem_map.mp h
    rw [List.length_append, En_len hq]
    rfl
theorem flat_filter {α β : Type} (p : α → Bool) (f : α → List β) : ∀ l : List α, (∀ x ∈ l, p x = false → f x = []) → (l.filter p).flatMap f = l.flatMap f
  | [], _ => rfl
  | a :: t, h => by
    rw [List.filter_cons, List.flatMap_cons, ← flat_filter p f t fun x hx => h x (.tail _ hx)]
    cases e : p a with
    | true => rw [if_pos rfl, List.flatMap_cons]
    | false => rw [if_neg Bool.false_ne_true, h a (.head _) e, List.nil_append]
theorem Sn_En (o w : List Nat) : ∀ m, m ≤ w.length → Sn o w m = (En o.length m).filter (pm o w m)
  | 0, _ => by
    show [[]] = [[]].filter (pm o w 0)
    rw [List.filter_cons_of_pos (by exact decide_eq_true rfl), List.filter_nil]
  | m + 1, h => by
    show ((Sn o w m).flatMap (ext o.length)).filter (pm o w (m + 1)) = ((En o.length m).flatMap (ext o.length)).filter (pm o w (m + 1))
    rw [Sn_En o w m (by omega), List.filter_flatMap, List.filter_flatMap]
    refine flat_filter _ _ _ fun ps hps hp => ?_
    refine List.filter_eq_nil_iff.mpr fun x hx hy => ?_
    unfold ext at hx
    obtain ⟨q, _, rfl⟩ := List.mem_map.mp hx
    have hy : low (at_ o (ps ++ [q])) = low (w.take (m + 1)) := of_decide_eq_true hy
    have ll := En_len hps
    have z := low_take (by unfold at_; rw [List.length_map, List.length_append, ll, List.length_take]; simp; omega) hy m
    have e : (at_ o (ps ++ [q])).take m = at_ o ps := by
      unfold at_
      rw [List.map_append, List.take_append_of_le_length (by rw [List.length_map]; omega), List.take_of_length_le (by rw [List.length_map]; omega)]
    rw [e, List.take_take, Nat.min_eq_left (by omega)] at z
    rw [show pm o w m ps = true from decide_eq_true z] at hp
    cases hp
/-- where a way stands -/
def stds (o w : List Nat) : List (List Nat) := (chs (List.range o.length) w.length).filter fun ps => decide (low (at_ o ps) = w)
theorem Sn_stds {o w : List Nat} (h : IsOrd w) : Sn o w w.length = stds o w := by
  rw [Sn_En o w _ (Nat.le_refl _), En_chs]
  unfold stds
  refine List.filter_congr fun ps _ => ?_
  unfold pm
  rw [List.take_length, low_ord h]
end Lb

set_option Elab.async false
set_option linter.all false
set_option maxRecDepth 100000
set_option maxHeartbeats 4000000
namespace Lb
open PySem PySem.Spec PyProof.Rows L2

theorem Go.put {T : Addr → Prop} {l : Addr} {H0 H : Hp} {o : HO} (g : Go T H0 H) (n : H0 l = none) (t : Tabs H0 T) : Go T H0 (upd H l o) := by
  have lT := tab_ne t n
  refine ⟨?_, fun b u n1 e => by rw [upd_ne (ne_of_none e n)]; exact g.2 b u n1 e⟩
  exact g.1.put lT
section
variable {P : Program} {w : World} {K : PySem.W.Frag} {mg : Str → Option Value} {base : Heap} {T : Addr → Prop}
theorem Go.lst {T : Addr → Prop} {a : Addr} {H H' : Hp} {xs : List V} (g : Go T H H') (t : Tabs H T) (e : H a = some (.lst xs)) : H' a = some (.lst xs) := g.2 a _ (ne_tab t e fun _ z => by cases z) e
theorem seqB_of {H : Hp} {a : Addr} {xs : List V} (h : SeqLT K H a xs) : ∃ b, SqB K b H a xs := by
  rcases h with h | h
  · exact ⟨false, h⟩
  · exact ⟨true, h⟩
def spSz (K : PySem.W.Frag) (T : Addr → Prop) : Sp := fun vs H Q _ => ∃ (a : Addr) (xs : List Nat), vs = [.ref a] ∧ SeqLT K H a (vl xs) ∧ xs.length ≤ 9 ∧ Tabs H T ∧ ∀ H' p, Go T H H' → H p = none → OrdK true H' p (vl (low xs)) → Q (.ref p) H'
theorem ok_in_sizes {f : Addr} {fd : FuncData} (F : Fun K "in_sizes" "in_sizes" s_in_sizes f fd) (B : Bl2 mg) : FnOk P w K mg base CX0 1 f fd ["things"] (spSz K T) := by
  refine F.ok sc_in_sizes (fun vs H Q E h => ?_) (fun cdv A outer s H vs Q E hr h => ?_)
  · obtain ⟨a, xs, rfl, _⟩ := h
    rfl
  · obtain ⟨a, xs, rfl, ha, b9, ht, q⟩ := h
    refine ⟨_, (pss_cons (ps_set (i := 1) sc_in_sizes.nd rfl (Or.inr rfl) (pe_callB cr_sortLT (by rfl) B.b.sorted (by decide +kernel) (pa_cons (pv 0) pa_nil)))
      (pss_one (ps_ret (pe_tupF (by rfl) B.b.tuple (pe_lc (own := [("thing", 2)]) (g := gName 2) (tt := tYes) (by rfl) sc_in_sizes.nd (pi_seq (pv 0)) (blkOk_by (by rfl)) (fun _ _ _ _ _ => (pg_name (i := 2) sc_in_sizes.nd rfl (Or.inl rfl))) (fun _ _ _ _ _ => pts_nil) (fun _ _ _ _ _ => (pe_op op_add (pe_idx (pv 1) (pa_cons (pv 2) pa_nil)) pe_int))))))), ?_⟩
    refine ⟨.ref a, rfl, a, xs.map fun k : Nat => (k : Int), rfl, ha, by rw [List.length_map]; omega, fun ns' r per srt hr0 => ?_⟩
    have g1 := Go.new (o := .lst (ns'.map V.int)) ht hr0
    have er : OrdK false (upd H r (.lst (ns'.map V.int))) r (ns'.map V.int) := upd_same
    generalize upd H r (.lst (ns'.map V.int)) = H1 at g1 er ⊢
    have ha1 := g1.lt ht ha
    obtain ⟨b, sb⟩ := seqB_of ha1
    refine ⟨.ref a, rfl, b, a, rfl, ⟨_, sb⟩, fun D hD => ?_⟩
    refine lc_seq (xs := vl xs) (fun i H2 => Made T H1 D ((low xs).take i) H2) (Made.start g1.1 hD) (fun i H2 _ m => (m.go hD).sqB g1.1 sb) (fun i x H2 hx m => ?_) (fun H2 m => ?_)
    · obtain ⟨k, hk, rfl⟩ := vl_inv hx
      have gd := m.go hD
      have hi := (List.getElem?_eq_some_iff.mp hk).1
      have er2 := gd.ord g1.1 er
      have mem : (k : Int) ∈ ns' := per.mem_iff.mpr (List.mem_map.mpr ⟨k, List.mem_of_getElem? hk, rfl⟩)
      refine ⟨rfl, .ref r, rfl, false, r, ns', rfl, er2, .int (k : Int), rfl, (k : Int), rfl, er2, mem, _, 1, rfl, rfl, ?_⟩
      rw [idx_sorted srt mem, ((per.filter _).length_eq), cnt_cast]
      have mo := m.more (k := cnt xs k + 1) hD g1.1 (Go.refl m.1)
      refine ⟨_, mo.1, by rw [vl_len, List.length_take]; exact small9 (by omega), ?_⟩
      have e : (low xs)[i]? = some (cnt xs k + 1) := by
        unfold low
        rw [List.getElem?_map, hk]
        rfl
      rw [take_snoc e]
      exact mo.2
    · rw [vl_len, List.take_of_length_le (by rw [len_low]; exact Nat.le_refl _)] at m
      refine ⟨false, D, vl (low xs), rfl, m.2.2, fun z => (nomatch z), fun _ p ob hd hp => ?_⟩
      have g2 := g1.trans (m.go hD)
      exact q _ p (g2.trans (Go.new g2.1 hp)) (g2.free hp) ⟨ob, hd, upd_same⟩
def spWay (K : PySem.W.Frag) (T : Addr → Prop) : Sp := fun vs H Q _ => ∃ (d a : Addr) (o ps : List Nat), vs = [.ref d, .ref a] ∧ SeqLT K H d (vl o) ∧ SeqLT K H a (vl ps) ∧ (∀ p ∈ ps, p < o.length) ∧ ps.length ≤ 9 ∧ Tabs H T ∧ ∀ H' p, Go T H H' → H p = none → OrdK true H' p (vl (low (at_ o ps))) → Q (.ref p) H'
theorem ok_way_at {f : Addr} {fd : FuncData} (F : Fun K "way_at" "way_at" s_way_at f fd) (G1 : Cn P w K mg base 1 "in_sizes" ["things"] (spSz K T)) (B : Bl2 mg) : FnOk P w K mg base CX0 2 f fd ["order", "places"] (spWay K T) := by
  refine F.ok sc_way_at (fun vs H Q E h => ?_) (fun cdv A outer s H vs Q E hr h => ?_)
  · obtain ⟨d, a, o, ps, rfl, _⟩ := h
    rfl
  · obtain ⟨d, a, o, ps, rfl, hd, ha, hb, b9, ht, q⟩ := h
    refine ⟨_, (pss_one (ps_ret (pe_cn G1 hr (by rfl) (pa_cons (pe_lc (own := [("place", 2)]) (g := gName 2) (tt := tYes) (by rfl) sc_way_at.nd (pi_seq (pv 1)) (blkOk_by (by rfl)) (fun _ _ _ _ _ => (pg_name (i := 2) sc_way_at.nd rfl (Or.inl rfl))) (fun _ _ _ _ _ => pts_nil) (fun _ _ _ _ _ => (pe_ix (show IxR _ (rIx K) from ix_seq) (pv 0) (pv 2) (fun _ _ => rfl)))) pa_nil)))), ?_⟩
    obtain ⟨b, sb⟩ := seqB_of ha
    refine ⟨.ref a, rfl, b, a, rfl, ⟨_, sb⟩, fun D hD => ?_⟩
    refine lc_seq (xs := vl ps) (fun i H2 => Made T H D ((at_ o ps).take i) H2) (Made.start ht hD) (fun i H2 _ m => (m.go hD).sqB ht sb) (fun i x H2 hx m => ?_) (fun H2 m => ?_)
    · obtain ⟨p, hp, rfl⟩ := vl_inv hx
      have gd := m.go hD
      have hi := (List.getElem?_eq_some_iff.mp hp).1
      refine ⟨rfl, .ref d, rfl, .int (p : Int), rfl, ix_at (gd.lt ht hd) (i := p) (hb p (List.mem_of_getElem? hp)) rfl ?_⟩
      have mo := m.more (k := o.getD p 0) hD ht (Go.refl m.1)
      refine ⟨_, mo.1, by rw [vl_len, List.length_take]; exact small9 (by omega), ?_⟩
      have e : (at_ o ps)[i]? = some (o.getD p 0) := by
        unfold at_
        rw [List.getElem?_map, hp]
        rfl
      rw [take_snoc e]
      exact mo.2
    · have la : (at_ o ps).length = ps.length := by
        unfold at_
        rw [List.length_map]
      rw [vl_len, List.take_of_length_le (by omega)] at m
      have g1 := m.go hD
      exact ⟨D, at_ o ps, rfl, .inl (SqL.of m.2.2), by omega, g1.1, fun H' p g hp e => q H' p (g1.trans g) (g1.free hp) e⟩
def LTs (K : PySem.W.Frag) (H : Hp) (ts : List Addr) (os : List (List Nat)) : Prop := Paired (fun t o => SqT K H t (vl o)) ts os
theorem LTs.go {T : Addr → Prop} {H H' : Hp} {ts : List Addr} {os : List (List Nat)} (h : LTs K H ts os) (t : Tabs H T) (g : Go T H H') : LTs K H' ts os := Paired.mapP h fun _ _ e => g.seqT t e
theorem SqT.up {H : Hp} {a D : Addr} {xs ys : List V} {u : HO} (h : SqT K H a xs) (e : H D = some (.lst ys)) : SqT K (upd H D u) a xs := by
  rcases h with (h | ⟨o, h⟩) | h
  · exact .inl (.inl (by rw [upd_ne (ne_of h e fun z => by cases z)]; exact h))
  · exact .inl (.inr ⟨o, by rw [upd_ne (ne_of h e fun z => by cases z)]; exact h⟩)
  · exact .inr h
theorem LTs.up {H : Hp} {ts : List Addr} {os : List (List Nat)} {D : Addr} {ys : List V} {u : HO} (h : LTs K H ts os) (e : H D = some (.lst ys)) : LTs K (upd H D u) ts os := Paired.mapP h fun _ _ z => SqT.up z e
theorem cat_go {T : Addr → Prop} {H : Hp} {a b : Addr} {xs ys : List Nat} {Q : VK} (ht : Tabs H T) (ha : SqT K H a (vl xs)) (hb : SqT K H b (vl ys)) (hl : xs.length + ys.length ≤ 100) (q : ∀ H' p, Go T H H' → SqT K H' p (vl (xs ++ ys)) → Q (.ref p) H') : rCatA K (.ref a) (.ref b) H Q := by
  have e : vl (xs ++ ys) = vl xs ++ vl ys := by
    unfold vl
    rw [List.map_append, List.map_append]
  refine ⟨a, b, vl xs, vl ys, rfl, rfl, ha, hb, by rw [vl_len, vl_len]; exact Nat.le_of_lt (small9 hl), fun z => q H b (Go.refl ht) ?_, fun _ z => q H a (Go.refl ht) ?_, fun _ _ p hp => q _ p (Go.new ht hp) (by rw [e]; exact SqT.of upd_same)⟩
  · rw [e, z, List.nil_append]
    exact hb
  · rw [e, z, List.append_nil]
    exact ha
def spLong (K : PySem.W.Frag) (T : Addr → Prop) : Sp := fun vs H Q _ => ∃ (a : Addr) (n : Nat) (ps : List Nat), vs = [.int (n : Int), .ref a] ∧ SqT K H a (vl ps) ∧ n ≤ 9 ∧ bh ps ≤ n ∧ ps.length ≤ 9 ∧ Tabs H T ∧ ∀ H' p ts, Go T H H' → H p = none → H' p = some (.lst (ts.map V.ref)) → LTs K H' ts (ext n ps) → Q (.ref p) H'
theorem ok_longer_places {f : Addr} {fd : FuncData} (F : Fun K "longer_places" "longer_places" s_longer_places f fd) (B : Bl2 mg) : FnOk P w K mg base CX0 1 f fd ["size", "places"] (spLong K T) := by
  refine F.ok sc_longer_places (fun vs H Q E h => ?_) (fun cdv A outer s H vs Q E hr h => ?_)
  · obtain ⟨a, n, ps, rfl, _⟩ := h
    rfl
  · obtain ⟨a, n, ps, rfl, ha, n9, hb, b9, ht, q⟩ := h
    refine ⟨_, (pss_cons (ps_set (i := 2) sc_longer_places.nd rfl (Or.inl rfl) (pe_ifExp (pt_truth (pv 1) (fun _ => rfl)) (pe_op op_add (pe_ix ix_tup (pv 1) (pe_un un_neg pe_int) (fun _ _ => rfl)) pe_int) pe_int))
      (pss_one (ps_ret (pe_lc (own := [("place", 3)]) (g := gName 3) (tt := tYes) (by rfl) sc_longer_places.nd (pi_range2 (by rfl) B.b.range (pa_cons (pv 2) (pa_cons (pv 0) pa_nil))) (blkOk_by (by rfl)) (fun _ _ _ _ _ => (pg_name (i := 3) sc_longer_places.nd rfl (Or.inl rfl))) (fun _ _ _ _ _ => pts_nil) (fun _ _ _ _ _ => (pe_op (show OpR _ _ (rCatA K) from op_catA) (pv 1) (pe_tup (pa_cons (pv 3) pa_nil)))))))), ?_⟩
    rcases List.eq_nil_or_concat ps with rfl | ⟨r, x, rfl⟩
    · have hbh : bh [] = 0 := rfl
      refine ⟨.ref a, rfl, false, .inr (.inl ⟨_, ha, rfl⟩), iteF ?_⟩
      refine ⟨.int (0 : Int), rfl, .int (n : Int), rfl, _, _, rfl, ⟨by omega, by omega, by omega, by omega⟩, fun D hD => ?_⟩
      refine lc_range (lo := (0 : Int)) (n := ((n : Int) - (0 : Int)).toNat) (fun i H2 => Go T H H2 ∧ ∃ us : List Addr, H2 D = some (.lst (us.map V.ref)) ∧ LTs K H2 us ((ext n []).take i)) ⟨Go.new ht hD, [], upd_same, .nil⟩ (fun i H2 hi m => ?_) (fun H2 m => ?_)
      · obtain ⟨g, us, eD, oa⟩ := m
        have hi' : i < n - bh [] := by rw [hbh]; omega
        refine ⟨rfl, .ref a, rfl, .int ((0 : Int) + (i : Int)), rfl, by show 1 ≤ sizeLine; decide, fun t hn => ?_⟩
        have g1 := Go.new (o := .tup [V.int ((0 : Int) + (i : Int))]) g.1 hn
        have et : SqT K (upd H2 t (.tup [V.int ((0 : Int) + (i : Int))])) t (vl [bh [] + i]) := by
          have z : V.int ((0 : Int) + (i : Int)) = V.int ((bh [] + i : Nat) : Int) := by rw [hbh]; congr 1
          rw [z]
          exact SqT.of upd_same
        refine cat_go g1.1 (g1.seqT g.1 (g.seqT ht ha)) et (by simp at b9 ⊢; try omega) fun H3 p g2 ep => ?_
        have g12 := g1.trans g2
        have lt := Paired.length oa
        have lx : (ext n []).length = n - bh [] := by
          unfold ext
          rw [List.length_map, List.length_range']
        have eD3 := g12.lst g.1 eD
        have gp := (g.trans g12).put (o := .lst (us.map V.ref ++ [V.ref p])) hD ht
        have nT : ¬ T D := tab_ne ht hD
        have gq : Go T H3 (upd H3 D (.lst (us.map V.ref ++ [V.ref p]))) ∨ True := .inr trivial
        refine ⟨_, eD3, by rw [List.length_map, lt, List.length_take, lx]; exact small9 (by omega), gp, us ++ [p], by rw [upd_same, List.map_append]; rfl, ?_⟩
        have ex : (ext n [])[i]? = some ([] ++ [bh [] + i]) := by
          unfold ext
          rw [List.getElem?_map, List.getElem?_range' hi', Nat.one_mul]
          rfl
        rw [take_snoc ex]
        exact Paired.snoc (LTs.up (oa.go g.1 g12) eD3) (SqT.up ep eD3)
      · obtain ⟨g, us, eD, oa⟩ := m
        rw [List.take_of_length_le (by unfold ext; rw [List.length_map, List.length_range', hbh]; omega)] at oa
        exact q _ D us g hD eD oa
    · rw [List.concat_eq_append] at *
      have hbh : bh (r ++ [x]) = x + 1 := bh_app r x
      refine ⟨.ref a, rfl, true, .inr (.inl ⟨_, ha, ?_⟩), iteT ?_⟩
      · cases r <;> rfl
      · refine ⟨.ref a, rfl, 1, rfl, a, _, -1, .int (x : Int), rfl, rfl, ha, ?_, _, _, rfl, rfl, ?_⟩
        · have e : vl (r ++ [x]) = vl r ++ [V.int (x : Int)] := by
            unfold vl
            rw [List.map_append, List.map_append]
            rfl
          rw [e]
          exact atI_last _ _
        · skip
          refine ⟨.int ((x : Int) + 1), rfl, .int (n : Int), rfl, _, _, rfl, ⟨by omega, by omega, by omega, by omega⟩, fun D hD => ?_⟩
          refine lc_range (lo := ((x : Int) + 1)) (n := ((n : Int) - ((x : Int) + 1)).toNat) (fun i H2 => Go T H H2 ∧ ∃ us : List Addr, H2 D = some (.lst (us.map V.ref)) ∧ LTs K H2 us ((ext n (r ++ [x])).take i)) ⟨Go.new ht hD, [], upd_same, .nil⟩ (fun i H2 hi m => ?_) (fun H2 m => ?_)
          · obtain ⟨g, us, eD, oa⟩ := m
            have hi' : i < n - bh (r ++ [x]) := by rw [hbh]; omega
            refine ⟨rfl, .ref a, rfl, .int (((x : Int) + 1) + (i : Int)), rfl, by show 1 ≤ sizeLine; decide, fun t hn => ?_⟩
            have g1 := Go.new (o := .tup [V.int (((x : Int) + 1) + (i : Int))]) g.1 hn
            have et : SqT K (upd H2 t (.tup [V.int (((x : Int) + 1) + (i : Int))])) t (vl [bh (r ++ [x]) + i]) := by
              have z : V.int (((x : Int) + 1) + (i : Int)) = V.int ((bh (r ++ [x]) + i : Nat) : Int) := by rw [hbh]; congr 1
              rw [z]
              exact SqT.of upd_same
            refine cat_go g1.1 (g1.seqT g.1 (g.seqT ht ha)) et (by simp at b9 ⊢; try omega) fun H3 p g2 ep => ?_
            have g12 := g1.trans g2
            have lt := Paired.length oa
            have lx : (ext n (r ++ [x])).length = n - bh (r ++ [x]) := by
              unfold ext
              rw [List.length_map, List.length_range']
            have eD3 := g12.lst g.1 eD
            have gp := (g.trans g12).put (o := .lst (us.map V.ref ++ [V.ref p])) hD ht
            have nT : ¬ T D := tab_ne ht hD
            have gq : Go T H3 (upd H3 D (.lst (us.map V.ref ++ [V.ref p]))) ∨ True := .inr trivial
            refine ⟨_, eD3, by rw [List.length_map, lt, List.length_take, lx]; exact small9 (by omega), gp, us ++ [p], by rw [upd_same, List.map_append]; rfl, ?_⟩
            have ex : (ext n (r ++ [x]))[i]? = some ((r ++ [x]) ++ [bh (r ++ [x]) + i]) := by
              unfold ext
              rw [List.getElem?_map, List.getElem?_range' hi', Nat.one_mul]
              rfl
            rw [take_snoc ex]
            exact Paired.snoc (LTs.up (oa.go g.1 g12) eD3) (SqT.up ep eD3)
          · obtain ⟨g, us, eD, oa⟩ := m
            rw [List.take_of_length_le (by unfold ext; rw [List.length_map, List.length_range', hbh]; omega)] at oa
            exact q _ D us g hD eD oa
end
end Lb

set_option Elab.async false
set_option linter.all false
set_option maxRecDepth 100000
set_option maxHeartbeats 4000000
namespace Lb
open PySem PySem.Spec PyProof.Rows L2

theorem eqv_ints : ∀ a b : List Int, PyData.eqvAll (a.map PyData.int) (b.map PyData.int) = decide (a = b)
  | [], [] => by
    rw [List.map_nil, PyData.eqvAll]
    rfl
  | [], y :: b => by
    rw [List.map_nil, List.map_cons, PyData.eqvAll]
    · rfl
    all_goals exact fun _ => (nomatch ·)
  | x :: a, [] => by
    rw [List.map_nil, List.map_cons, PyData.eqvAll]
    · rfl
    all_goals exact fun _ => (nomatch ·)
  | x :: a, y :: b => by
    rw [List.map_cons, List.map_cons, PyData.eqvAll, eqv_ints a b, Bool.eq_iff_iff, Bool.and_eq_true, decide_eq_true_iff, decide_eq_true_iff]
    have e : PyData.eqv (.int x) (.int y) = true ↔ x = y := by
      rw [PyData.eqv]
      simp
    rw [e]
    constructor
    · rintro ⟨rfl, rfl⟩
      rfl
    · intro z
      cases z
      exact ⟨rfl, rfl⟩
theorem cast_eq {a b : List Nat} : (a.map fun k : Nat => (k : Int)) = b.map (fun k : Nat => (k : Int)) ↔ a = b := List.map_inj_right fun x y e => Int.ofNat.inj e
theorem eqv_dl (a b : List Nat) : PyData.eqvAll (dl a) (dl b) = decide (a = b) := by
  have e : ∀ l : List Nat, dl l = (l.map fun k : Nat => (k : Int)).map PyData.int := fun l => by
    unfold dl
    rw [List.map_map]
    rfl
  rw [e, e, eqv_ints]
  by_cases h : a = b
  · rw [decide_eq_true h, decide_eq_true (cast_eq.mpr h)]
  · rw [decide_eq_false h, decide_eq_false (fun z => h (cast_eq.mp z))]
theorem eqv_tup (a b : List Nat) : PyData.eqv (.tuple (dl a)) (.tuple (dl b)) = decide (a = b) := by
  rw [PyData.eqv, eqv_dl]
section
variable {P : Program} {w : World} {K : PySem.W.Frag} {mg : Str → Option Value} {base : Heap} {T : Addr → Prop}
theorem sub_flat {α β : Type} (f : α → List β) {l m : List α} (h : l.Sublist m) : (l.flatMap f).length ≤ (m.flatMap f).length := by
  induction h with
  | slnil => exact Nat.le_refl _
  | cons a _ ih =>
    rw [List.flatMap_cons, List.length_append]
    omega
  | cons_cons a _ ih =>
    rw [List.flatMap_cons, List.flatMap_cons, List.length_append, List.length_append]
    omega
theorem En_few : ∀ n, n ≤ 9 → ∀ k, k ≤ 9 → (En n k).length ≤ 126 := by
  have h : ((List.range 10).all fun n => (List.range 10).all fun k => decide ((En n k).length ≤ 126)) = true := by decide +kernel
  intro n hn k hk
  exact of_decide_eq_true (List.all_eq_true.mp (List.all_eq_true.mp h n (List.mem_range.mpr (by omega))) k (List.mem_range.mpr (by omega)))
theorem ext_lt {n : Nat} {ps q : List Nat} (hp : ∀ p ∈ ps, p < n) (h : q ∈ ext n ps) : ∀ p ∈ q, p < n := by
  unfold ext at h
  obtain ⟨x, hx, rfl⟩ := List.mem_map.mp h
  intro p hm
  rcases List.mem_append.mp hm with hm | hm
  · exact hp p hm
  · rw [List.mem_singleton.mp hm]
    have := List.mem_range'_1.mp hx
    omega
theorem En_lt {n : Nat} : ∀ {k : Nat} {ps : List Nat}, ps ∈ En n k → ∀ p ∈ ps, p < n
  | 0, ps, h => by
    rw [List.mem_singleton.mp h]
    intro p hp
    cases hp
  | k + 1, ps, h => by
    obtain ⟨q, hq, h⟩ := List.mem_flatMap.mp h
    exact ext_lt (En_lt hq) h
theorem bh_le {n : Nat} {ps : List Nat} (h : ∀ p ∈ ps, p < n) : bh ps ≤ n := by
  unfold bh
  cases e : ps.getLast? with
  | none => exact Nat.zero_le _
  | some p => exact h p (List.mem_of_getLast? e)
theorem Sn_sub (o w : List Nat) (m : Nat) (h : m ≤ w.length) : (Sn o w m).Sublist (En o.length m) := by
  rw [Sn_En o w m h]
  exact List.filter_sublist
theorem nice_low {xs : List Nat} (h : xs.length ≤ 9) : Nice 1 404 (.tuple (dl (low xs))) := (nice_ord (o := low xs) (fun k hk => by
  unfold low at hk
  obtain ⟨x, _, rfl⟩ := List.mem_map.mp hk
  have : cnt xs x ≤ xs.length := List.length_filter_le _ _
  omega) (by rw [len_low]; omega)).2
def spStd (K : PySem.W.Frag) (T : Addr → Prop) : Sp := fun vs H Q _ => ∃ (a d : Addr) (o v : List Nat), vs = [.ref a, .ref d] ∧ SeqLT K H a (vl o) ∧ SeqLT K H d (vl v) ∧ IsOrd o ∧ IsOrd v ∧ Tabs H T ∧ ∀ H' p ts, Go T H H' → H p = none → H' p = some (.lst (ts.map V.ref)) → LTs K H' ts (stds o v) → Q (.ref p) H'
theorem ok_standings {f : Addr} {fd : FuncData} (F : Fun K "standings" "standings" s_standings f fd) (G0 : Cn P w K mg base 4 "check_order" ["order"] (spChk K T)) (G1 : Cn P w K mg base 4 "in_sizes" ["things"] (spSz K T)) (G2 : Cn P w K mg base 4 "longer_places" ["size", "places"] (spLong K T)) (G3 : Cn P w K mg base 4 "way_at" ["order", "places"] (spWay K T)) (B : Bl2 mg) : FnOk P w K mg base CX0 5 f fd ["order", "way"] (spStd K T) := by
  refine F.ok sc_standings (fun vs H Q E h => ?_) (fun cdv A outer s H vs Q E hr h => ?_)
  · obtain ⟨a, d, o, v, rfl, _⟩ := h
    rfl
  · obtain ⟨a, d, o, v, rfl, ha, hd, io, iv, ht, q⟩ := h
    have b9 := io.hi
    have c9 := iv.hi
    have hun := hr.un
    have eu : (A.deeper (envOfC "standings" (defScope s_standings) s.heap.objs.size f cdv)).units = A.units + 3 := rfl
    have hu : A.units + 3 + 64 < cLine := by omega
    refine ⟨_, (pss_cons (ps_expr (pe_cn G0 hr (by rfl) (pa_cons (pv 0) pa_nil)))
      (pss_cons (ps_expr (pe_cn G0 hr (by rfl) (pa_cons (pv 1) pa_nil)))
      (pss_cons (ps_set (i := 2) sc_standings.nd rfl (Or.inr rfl) (pe_callB call_len (by rfl) B.b.len PySem.boot_len (pa_cons (pv 0) pa_nil)))
      (pss_cons (ps_set (i := 3) sc_standings.nd rfl (Or.inl rfl) (pe_lst (pa_cons (pe_tup pa_nil) pa_nil)))
      (pss_cons (ps_for PassesOwn.never rfl (pi_range2 (by rfl) B.b.range (pa_cons pe_int (pa_cons (pe_op op_add (pe_callB call_len (by rfl) B.b.len PySem.boot_len (pa_cons (pv 1) pa_nil)) pe_int) pa_nil))) (pg_name (i := 4) sc_standings.nd rfl (Or.inl rfl))
        (pss_cons (ps_set (i := 5) sc_standings.nd rfl (Or.inr rfl) (pe_cn G1 hr (by rfl) (pa_cons (pe_slice sl_cut (pv 1) po_none (po_some (pv 4))) pa_nil)))
      (pss_cons (ps_setLc2 (i := 6) (own := [("ahead", 7), ("places", 8)]) (vs1 := [8]) (g := gName 7) (g1 := gName 8) (tt := tYes) (by rfl) sc_standings.nd rfl rfl (by rfl) (pi_list (pv 3)) (blkOk_by (by rfl)) (by decide) (fun _ _ _ _ _ => (pg_name (i := 7) sc_standings.nd rfl (Or.inl rfl))) (fun _ _ _ _ _ => pts_nil) (fun _ _ _ _ _ => (show PI _ _ _ (iList K _) from pi_list (pe_cn G2 hr (by rfl) (pa_cons (pv 2) (pa_cons (pv 7) pa_nil))))) (fun _ _ _ _ _ => (pg_name (i := 8) sc_standings.nd rfl (Or.inl rfl))) (fun _ _ _ _ _ => pts_nil) (fun _ _ _ _ _ => (pv 8)))
      (pss_one (ps_setLc (i := 3) (own := [("places", 8)]) (g := gName 8)  (by rfl) sc_standings.nd rfl rfl (by rfl) (pi_list (pv 6)) (blkOk_by (by rfl)) (fun _ _ _ _ _ => (pg_name (i := 8) sc_standings.nd rfl (Or.inl rfl))) (fun _ _ _ _ _ => (pts_one (pt_cmpR (show OpR _ _ (rEqD K) from op_eqD hu) (pe_cn G3 hr (by rfl) (pa_cons (pv 0) (pa_cons (pv 8) pa_nil))) (pv 5) (nomark _)))) (fun _ _ _ _ _ => (pv 8)))))))
      (pss_one (ps_ret (pv 3)))))))), ?_⟩
    refine ⟨.ref a, rfl, a, o, rfl, ha, io, ht, fun H1 g1 => ?_⟩
    refine ⟨.ref d, rfl, d, v, rfl, g1.lt ht hd, iv, g1.1, fun H2 g2 => ?_⟩
    have g12 := g1.trans g2
    have l1 := lenV_seq (K := K) (g12.lt ht ha)
    rw [vl_len] at l1
    refine ⟨.ref a, rfl, .ref a, _, rfl, l1, ?_⟩
    refine ⟨by show 0 ≤ sizeLine; decide, fun t hn => ⟨by show 1 ≤ sizeLine; decide, fun D hD => ?_⟩⟩
    have g3 := Go.new (o := .tup []) g12.1 hn
    have g4 := Go.new (o := .lst [V.ref t]) g3.1 hD
    have et : SqT K (upd H2 t (.tup [])) t (vl []) := SqT.of upd_same
    have e4 : (upd (upd H2 t (.tup [])) D (.lst [V.ref t])) D = some (.lst [V.ref t]) := upd_same
    have et4 := g4.seqT g3.1 et
    have m4 := g12.trans (g3.trans g4)
    have hD0 := (g12.trans g3).free hD
    generalize upd (upd H2 t (.tup [])) D (.lst [V.ref t]) = H4 at g4 e4 et4 m4 ⊢
    clear g3 g4 et hn hD
    have l2 := lenV_seq (K := K) (m4.lt ht hd)
    rw [vl_len] at l2
    refine ⟨.ref d, rfl, .ref d, _, rfl, l2, _, 1, rfl, rfl, _, _, rfl, ⟨by omega, by omega, by omega, by omega⟩, ?_⟩
    refine for_range (lo := 1) (n := ((v.length : Int) + 1 - 1).toNat) (fun i σ H5 => ∃ (mv bv lv : Option V) (D : Addr) (ts : List Addr), σ = [some (.ref a), some (.ref d), some (.int (o.length : Int)), some (.ref D), mv, bv, lv, none, none] ∧ Go T H H5 ∧ H D = none ∧ H5 D = some (.lst (ts.map V.ref)) ∧ LTs K H5 ts (Sn o v i))
      ⟨none, none, none, D, [t], rfl, m4, hD0, e4, .cons et4 .nil⟩ ?_ ?_
    · rintro i σ H5 hi ⟨mv, bv, lv, D5, ts, rfl, g5, hD5, e5, o5⟩
      have hi' : i < v.length := by omega
      refine ⟨.ref d, rfl, .int (1 + (i : Int)), rfl, _, rfl, d, vl v, rfl, g5.lt ht hd, fun H6 p hc sq => ?_⟩
      have ec : cutV (vl v) none (some (1 + (i : Int))) = vl (v.take (i + 1)) := by
        rw [show 1 + (i : Int) = ((i + 1 : Nat) : Int) by omega]
        unfold cutV
        rw [HT.sIx_nat, HT.sIx_none, vl_len, Nat.min_eq_left (by omega)]
        unfold vl
        rw [List.drop_zero, Nat.sub_zero, ← List.map_take, ← List.map_take]
      have sq2 : SeqLT K H6 p (cutV (vl v) none (some (1 + (i : Int)))) := sq
      rw [ec] at sq2
      have g6 := Go.cut g5.1 hc
      refine ⟨p, v.take (i + 1), rfl, sq2, by rw [List.length_take]; omega, g6.1, fun H7 b g7 hb eb => ?_⟩
      have g57 := g6.trans g7
      have g7' := g5.trans g57
      have e7 := g57.lst g5.1 e5
      have o7 := o5.go g5.1 g57
      refine ⟨.ref D5, rfl, D5, rfl, ⟨_, SqL.of e7⟩, fun L hL => ?_⟩
      have lts := Paired.length o7
      have sub := Sn_sub o v i (by omega)
      have few := En_few o.length b9 (i + 1) (by omega)
      have ok : ∀ {ps : List Nat}, ps ∈ Sn o v i → (∀ p ∈ ps, p < o.length) ∧ ps.length = i := fun h => ⟨En_lt (sub.subset h), En_len (sub.subset h)⟩
      have bnd : ∀ k, (((Sn o v i).take k).flatMap (ext o.length)).length ≤ 126 := fun k => Nat.le_trans (sub_flat _ ((List.take_sublist k _).trans sub)) few
      refine ⟨fun k m H8 => m = ts.length - k ∧ k ≤ ts.length ∧ Go T H7 H8 ∧ ∃ us : List Addr, H8 L = some (.lst (us.map V.ref)) ∧ LTs K H8 us (((Sn o v i).take k).flatMap (ext o.length)), ⟨_, rfl, Nat.zero_le _, Go.new g7.1 hL, [], upd_same, .nil⟩, ?_⟩
      rintro k m H8 ⟨rfl, hk, g8, us, e8, o8⟩
      have e78 := g8.lst g7.1 e7
      by_cases hlt : k < ts.length
      · refine .inr ⟨⟨ts.map V.ref, _, SqL.of e78, by rw [List.getElem?_map, List.getElem?_eq_getElem hlt]; rfl⟩, fun H9 => Go T H7 H9 ∧ ∃ us : List Addr, H9 L = some (.lst (us.map V.ref)) ∧ LTs K H9 us (((Sn o v i).take (k + 1)).flatMap (ext o.length)), fun H' p' => ⟨_, by omega, rfl, hlt, p'⟩, ?_⟩
        rintro x H' ⟨rfl, hx⟩
        have hx := hx _ (SqL.of e78)
        rw [List.getElem?_map] at hx
        obtain ⟨ti, hti, rfl⟩ := Option.map_eq_some_iff.mp hx
        obtain ⟨ps, hps, eti⟩ := Paired.getL o7 hti
        obtain ⟨lt1, ln1⟩ := ok (List.mem_of_getElem? hps)
        refine ⟨rfl, .int (o.length : Int), rfl, .ref ti, rfl, ti, o.length, ps, rfl, g8.seqT g7.1 eti, b9, bh_le lt1, by omega, g8.1, fun H9 r ts9 g9 hr9 e9 o9 => ?_⟩
        have l9 := Paired.length o9
        have e89 := g9.lst g8.1 e8
        have o89 := o8.go g8.1 g9
        have tk : ((Sn o v i).take (k + 1)).flatMap (ext o.length) = ((Sn o v i).take k).flatMap (ext o.length) ++ ext o.length ps := by
          rw [take_snoc hps, List.flatMap_append, List.flatMap_cons, List.flatMap_nil, List.append_nil]
        have b1 := bnd (k + 1)
        rw [tk, List.length_append] at b1
        refine ⟨r, rfl, ⟨_, SqL.of e9⟩, ?_⟩
        have gr := g8.trans g9
        refine ⟨fun j m H10 => m = ts9.length - j ∧ j ≤ ts9.length ∧ Go T H7 H10 ∧ H10 r = some (.lst (ts9.map V.ref)) ∧ LTs K H10 ts9 (ext o.length ps) ∧ r ≠ L ∧ ∃ us : List Addr, H10 L = some (.lst (us.map V.ref)) ∧ LTs K H10 us (((Sn o v i).take k).flatMap (ext o.length) ++ (ext o.length ps).take j), ⟨_, rfl, Nat.zero_le _, gr, e9, o9, (ne_of_none e8 hr9).symm, us, e89, by rw [List.take_zero, List.append_nil]; exact o89⟩, ?_⟩
        rintro j m H10 ⟨rfl, hj, g10, er, or', nrL, us, e10, o10⟩
        by_cases hjt : j < ts9.length
        · refine .inr ⟨⟨ts9.map V.ref, _, SqL.of er, by rw [List.getElem?_map, List.getElem?_eq_getElem hjt]; rfl⟩, fun H11 => Go T H7 H11 ∧ H11 r = some (.lst (ts9.map V.ref)) ∧ LTs K H11 ts9 (ext o.length ps) ∧ r ≠ L ∧ ∃ us : List Addr, H11 L = some (.lst (us.map V.ref)) ∧ LTs K H11 us (((Sn o v i).take k).flatMap (ext o.length) ++ (ext o.length ps).take (j + 1)), fun H' p' => ⟨_, by omega, rfl, hjt, p'⟩, ?_⟩
          rintro y H' ⟨rfl, hy⟩
          have hy := hy _ (SqL.of er)
          rw [List.getElem?_map] at hy
          obtain ⟨tj, htj, rfl⟩ := Option.map_eq_some_iff.mp hy
          obtain ⟨pq, hpq, etj⟩ := Paired.getL or' htj
          have lu := Paired.length o10
          rw [List.length_append, List.length_take] at lu
          refine ⟨rfl, .ref tj, rfl, _, e10, by rw [List.length_map, lu]; exact small1000 (by omega), g10.put hL g7.1, by rw [upd_ne nrL]; exact er, LTs.up or' e10, nrL, us ++ [tj], by rw [upd_same, List.map_append]; rfl, ?_⟩
          rw [take_snoc hpq, ← List.append_assoc]
          exact Paired.snoc (LTs.up o10 e10) (SqT.up etj e10)
        · refine .inl ⟨⟨_, SqL.of er, by rw [List.length_map]; omega⟩, ?_⟩
          refine ⟨g10, us, e10, ?_⟩
          rw [tk]
          have tj : (ext o.length ps).take j = ext o.length ps := List.take_of_length_le (by omega)
          rw [tj] at o10
          exact o10
      · refine .inl ⟨⟨_, SqL.of e78, by rw [List.length_map]; omega⟩, ?_⟩
        rw [List.take_of_length_le (by omega)] at o8
        have g8' := g7'.trans g8
        have hL0 := g7'.free hL
        have eb8 := g8.ord g7.1 eb
        refine ⟨.ref L, rfl, L, rfl, ⟨_, SqL.of e8⟩, fun M hM => ?_⟩
        have lus := Paired.length o8
        refine lc_list (xs := us.map V.ref) (fun j H9 => Go T H8 H9 ∧ ∃ ws : List Addr, H9 M = some (.lst (ws.map V.ref)) ∧ LTs K H9 ws ((((Sn o v i).flatMap (ext o.length)).take j).filter (pm o v (i + 1)))) ⟨Go.new g8.1 hM, [], upd_same, .nil⟩ (fun j H9 _ m => SqL.of (m.1.lst g8.1 e8)) (fun j x H9 hx m => ?_) (fun H9 m => ?_)
        · obtain ⟨g9, ws, e9, o9⟩ := m
          rw [List.getElem?_map] at hx
          obtain ⟨ti, hti, rfl⟩ := Option.map_eq_some_iff.mp hx
          obtain ⟨pq, hpq, eti⟩ := Paired.getL o8 hti
          obtain ⟨ps, hps, hpe⟩ := List.mem_flatMap.mp (List.mem_of_getElem? hpq)
          obtain ⟨lt1, ln1⟩ := ok hps
          have lpq : pq.length ≤ 9 := by
            unfold ext at hpe
            obtain ⟨z, _, rfl⟩ := List.mem_map.mp hpe
            rw [List.length_append, ln1]
            show i + 1 ≤ 9
            omega
          have g89 := g8'.trans g9
          refine ⟨rfl, .ref a, rfl, .ref ti, rfl, a, ti, o, pq, rfl, g89.lt ht ha, .inr (g9.seqT g8.1 eti), ext_lt lt1 hpe, lpq, g9.1, fun H10 z g10 hz ez => ?_⟩
          have eb10 := g10.ord g9.1 (g9.ord g8.1 eb8)
          have e10 := g10.lst g9.1 e9
          have oz := o9.go g9.1 g10
          have nz : Nice 1 404 (.tuple (dl (low (at_ o pq)))) := (nice_low (by unfold at_; rw [List.length_map]; exact lpq))
          have nb : Nice 1 404 (.tuple (dl (low (v.take (i + 1))))) := (nice_low (by rw [List.length_take]; omega))
          refine ⟨.ref b, rfl, _, _, ord_dp ez, ord_dp eb10, nz.shaped (by decide), nb.shaped (by decide), _, rfl, ?_⟩
          rw [eqv_tup, take_snoc hpq, List.filter_append]
          by_cases c : low (at_ o pq) = low (v.take (i + 1))
          · rw [decide_eq_true c]
            have lw := Paired.length oz
            have lf := List.length_filter_le (pm o v (i + 1)) (((Sn o v i).flatMap (ext o.length)).take j)
            have lf2 := List.length_take_le j ((Sn o v i).flatMap (ext o.length))
            have b2 := bnd (Sn o v i).length
            rw [List.take_length] at b2
            refine iteT ⟨.ref ti, rfl, _, e10, by rw [List.length_map, lw]; refine small1000 ?_; rw [List.length_take] at lf; omega, (g9.trans g10).put hM g8.1, ws ++ [ti], by rw [upd_same, List.map_append]; rfl, ?_⟩
            rw [List.filter_cons_of_pos (by exact decide_eq_true c), List.filter_nil]
            exact Paired.snoc (LTs.up oz e10) (SqT.up (g10.seqT g9.1 (g9.seqT g8.1 eti)) e10)
          · rw [decide_eq_false c]
            refine iteF ⟨g9.trans g10, ws, e10, ?_⟩
            rw [List.filter_cons_of_neg (by exact fun z => c (of_decide_eq_true z)), List.filter_nil, List.append_nil]
            exact oz
        · obtain ⟨g9, ws, e9, o9⟩ := m
          rw [List.length_map, lus, List.take_length] at o9
          exact ⟨_, _, _, M, ws, rfl, g8'.trans g9, g8'.free hM, e9, o9⟩
    · rintro σ H5 ⟨mv, bv, lv, D5, ts, rfl, g5, hD5, e5, o5⟩
      rw [show ((v.length : Int) + 1 - 1).toNat = v.length by omega, Sn_stds iv] at o5
      exact ⟨.ref D5, rfl, q H5 D5 ts g5 hD5 e5 o5⟩
end
end Lb

set_option Elab.async false
set_option linter.all false
set_option maxRecDepth 100000
set_option maxHeartbeats 4000000
namespace Lb
open PySem PySem.Spec PyProof.Rows L2

abbrev s_order : Stmt := topS 39
theorem sc_order : FnScope ["_law_pot_here", "_law_size", "_law_left", "_law_found", "_law_turn"] ["_law_pot_here", "_law_size"] (defScope s_order) := ⟨rfl, rfl, rfl, by decide +kernel, rfl, by decide +kernel, by decide +kernel⟩
abbrev s_passed : Stmt := topS 40
theorem sc_passed : FnScope ["_law_pot_here", "_law_order_here"] ["_law_pot_here", "_law_order_here"] (defScope s_passed) := ⟨rfl, rfl, rfl, by decide +kernel, rfl, by decide +kernel, by decide +kernel⟩
abbrev s_raised : Stmt := topS 41
theorem sc_raised : FnScope ["_law_order_here", "_law_place", "_law_thing", "_law_more", "_law_other"] ["_law_order_here", "_law_place", "_law_thing"] (defScope s_raised) := ⟨rfl, rfl, rfl, by decide +kernel, rfl, by decide +kernel, by decide +kernel⟩
abbrev s_four : Stmt := topS 42
theorem sc_four : FnScope [] [] (defScope s_four) := ⟨rfl, rfl, rfl, by decide +kernel, rfl, by decide +kernel, by decide +kernel⟩
abbrev s_choices : Stmt := topS 44
theorem sc_choices : FnScope ["_law_some", "_law_many", "_law_found", "_law_at", "_law_rest"] ["_law_some", "_law_many"] (defScope s_choices) := ⟨rfl, rfl, rfl, by decide +kernel, rfl, by decide +kernel, by decide +kernel⟩
abbrev s_lowered : Stmt := topS 45
theorem sc_lowered : FnScope ["_law_things", "_law_thing", "_law_other"] ["_law_things"] (defScope s_lowered) := ⟨rfl, rfl, rfl, by decide +kernel, rfl, by decide +kernel, by decide +kernel⟩
section
variable {P : Program} {w : World} {K : PySem.W.Frag} {mg : Str → Option Value} {base : Heap} {T : Addr → Prop}
def Fst (K : PySem.W.Frag) (H : Hp) (v : V) : List (List Nat) → Prop
  | [] => v = .non
  | x :: _ => ∃ t, v = .ref t ∧ SqT K H t (vl x)
def spSts (K : PySem.W.Frag) (T : Addr → Prop) : Sp := fun vs H Q _ => ∃ (a d : Addr) (o u : List Nat), vs = [.ref a, .ref d] ∧ SeqLT K H a (vl o) ∧ SeqLT K H d (vl u) ∧ IsOrd o ∧ IsOrd u ∧ Tabs H T ∧ ∀ H' v, Go T H H' → Fst K H' v (stds o u) → Q v H'
theorem ok_stands {f : Addr} {fd : FuncData} (F : Fun K "stands" "stands" s_stands f fd) (G1 : Cn P w K mg base 5 "standings" ["order", "way"] (spStd K T)) : FnOk P w K mg base CX0 6 f fd ["order", "way"] (spSts K T) := by
  refine F.ok sc_stands (fun vs H Q E h => ?_) (fun cdv A outer s H vs Q E hr h => ?_)
  · obtain ⟨a, d, o, u, rfl, _⟩ := h
    rfl
  · obtain ⟨a, d, o, u, rfl, ha, hd, io, iu, ht, q⟩ := h
    refine ⟨_, (pss_cons (ps_set (i := 2) sc_stands.nd rfl (Or.inl rfl) (pe_cn G1 hr (by rfl) (pa_cons (pv 0) (pa_cons (pv 1) pa_nil))))
      (pss_one (ps_ret (pe_ifExp (pt_truth (pv 2) (fun _ => rfl)) (pe_ix ix_list (pv 2) pe_int (fun _ _ => rfl)) pe_non)))), ?_⟩
    refine ⟨.ref a, rfl, .ref d, rfl, a, d, o, u, rfl, ha, hd, io, iu, ht, fun H1 p ts g1 hp ep op => ?_⟩
    cases e : stds o u with
    | nil =>
      rw [e] at op
      cases op
      refine ⟨.ref p, rfl, false, .inl ⟨_, SqL.of ep, rfl⟩, iteF ?_⟩
      exact q H1 _ g1 (by rw [e]; rfl)
    | cons x r =>
      rw [e] at op
      cases op with
      | cons et tl =>
        refine ⟨.ref p, rfl, true, .inl ⟨_, SqL.of ep, rfl⟩, iteT ?_⟩
        exact ⟨.ref p, rfl, p, _, 0, _, rfl, rfl, SqL.of ep, atI_nat (j := 0) rfl, q H1 _ g1 (by rw [e]; exact ⟨_, rfl, et⟩)⟩
def spAtp (K : PySem.W.Frag) (T : Addr → Prop) : Sp := fun vs H Q _ => ∃ (d a : Addr) (o ps : List Nat), vs = [.ref d, .ref a] ∧ SeqLT K H d (vl o) ∧ SeqLT K H a (vl ps) ∧ IsOrd o ∧ (∀ p ∈ ps, p < o.length) ∧ Ris ps ∧ 1 ≤ ps.length ∧ ps.length ≤ 9 ∧ Tabs H T ∧ ∀ H' p, Go T H H' → H p = none → OrdK true H' p (vl (low (at_ o ps))) → Q (.ref p) H'
theorem ok_at_places {f : Addr} {fd : FuncData} (F : Fun K "at_places" "at_places" s_at_places f fd) (G0 : Cn P w K mg base 4 "check_order" ["order"] (spChk K T)) (G1 : Cn P w K mg base 4 "is_places" ["order", "value"] (spIpl K T)) (G2 : Cn P w K mg base 4 "way_at" ["order", "places"] (spWay K T)) : FnOk P w K mg base CX0 5 f fd ["order", "places"] (spAtp K T) := by
  refine F.ok sc_at_places (fun vs H Q E h => ?_) (fun cdv A outer s H vs Q E hr h => ?_)
  · obtain ⟨d, a, o, ps, rfl, _⟩ := h
    rfl
  · obtain ⟨d, a, o, ps, rfl, hd, ha, io, hb, ris, h1, b9, ht, q⟩ := h
    refine ⟨_, (pss_cons (ps_expr (pe_cn G0 hr (by rfl) (pa_cons (pv 0) pa_nil)))
      (pss_cons (ps_if (pt_not (pt_val (pe_cn G1 hr (by rfl) (pa_cons (pv 0) (pa_cons (pv 1) pa_nil)))))
        (pss_one ps_never) pss_nil)
      (pss_one (ps_ret (pe_cn G2 hr (by rfl) (pa_cons (pv 0) (pa_cons (pv 1) pa_nil))))))), ?_⟩
    refine ⟨.ref d, rfl, d, o, rfl, hd, io, ht, fun H1 g1 => ?_⟩
    refine ⟨.ref d, rfl, .ref a, rfl, d, a, o, ps, rfl, g1.lt ht hd, g1.lt ht ha, hb, ris, h1, g1.1, fun H2 g2 => ⟨true, rfl, iteF ?_⟩⟩
    have g12 := g1.trans g2
    exact ⟨.ref d, rfl, .ref a, rfl, d, a, o, ps, rfl, g12.lt ht hd, g12.lt ht ha, hb, b9, g12.1, fun H' p g hp e => q H' p (g12.trans g) (g12.free hp) e⟩
/-! ### the law's own -/
theorem ok_lowered {f : Addr} {fd : FuncData} (F : Fun K "_law_lowered" "_law_lowered" s_lowered f fd) (B : Bl2 mg) : FnOk P w K mg base CX0 1 f fd ["_law_things"] (spSz K T) := by
  refine F.ok sc_lowered (fun vs H Q E h => ?_) (fun cdv A outer s H vs Q E hr h => ?_)
  · obtain ⟨a, xs, rfl, _⟩ := h
    rfl
  · obtain ⟨a, xs, rfl, ha, b9, ht, q⟩ := h
    refine ⟨_, (pss_one (ps_ret (pe_tupF (by rfl) B.b.tuple (pe_lc (own := [("_law_thing", 1)]) (g := gName 1) (tt := tYes) (by rfl) sc_lowered.nd (show PI _ _ _ (iSeq K _) from pi_seq (pv 0)) (blkOk_by (by rfl)) (fun _ _ _ _ _ => (pg_name (i := 1) sc_lowered.nd rfl (Or.inr rfl))) (fun _ _ _ _ _ => pts_nil) (fun _ _ _ _ _ => (pe_op op_add pe_int (pe_callB (show CallR _ _ (rLen K) from lenK) (by rfl) B.b.len PySem.boot_len (pa_cons (pe_lc (own := [("_law_other", 2)]) (g := gName 2)  (by rfl) sc_lowered.nd (show PI _ _ _ (iSeq K _) from pi_seq (pv 0)) (blkOk_by (by rfl)) (fun _ _ _ _ _ => (pg_name (i := 2) sc_lowered.nd rfl (Or.inl rfl))) (fun _ _ _ _ _ => (pts_one (pt_cmpR op_lt (pv 2) (pv 1) (nomark _)))) (fun _ _ _ _ _ => (pv 2))) pa_nil)))))))), ?_⟩
    obtain ⟨b, sb⟩ := seqB_of ha
    refine ⟨.ref a, rfl, b, a, rfl, ⟨_, sb⟩, fun D hD => ?_⟩
    refine lc_seq (xs := vl xs) (fun i H2 => Made T H D ((low xs).take i) H2) (Made.start ht hD) (fun i H2 _ m => (m.go hD).sqB ht sb) (fun i x H2 hx m => ?_) (fun H2 m => ?_)
    · obtain ⟨k, hk, rfl⟩ := vl_inv hx
      have gd := m.go hD
      have hi := (List.getElem?_eq_some_iff.mp hk).1
      refine ⟨rfl, .ref a, rfl, b, a, rfl, ⟨_, gd.sqB ht sb⟩, fun L hL => ?_⟩
      have nLD : D ≠ L := fun z => by rw [z] at m; have := m.2.2; rw [hL] at this; cases this
      refine lc_seq (xs := vl xs) (fun j H3 => Made T H2 L ((xs.take j).filter fun y => decide (y < k)) H3) (Made.start m.1 hL) (fun j H3 _ m3 => (m3.go hL).sqB m.1 (gd.sqB ht sb)) (fun j x H3 hx3 m3 => ?_) (fun H3 m3 => ?_)
      · obtain ⟨y, hy, rfl⟩ := vl_inv hx3
        have hj := (List.getElem?_eq_some_iff.mp hy).1
        have mo := m3.more (k := y) hL m.1 (Go.refl m3.1)
        rw [take_snoc hy, List.filter_append]
        have lf := List.length_filter_le (fun y => decide (y < k)) (xs.take j)
        rw [List.length_take] at lf
        refine ⟨rfl, .int (y : Int), rfl, .int (k : Int), rfl, _, _, rfl, rfl, _, rfl, ?_⟩
        by_cases c : y < k
        · rw [decide_eq_true (show ((y : Nat) : Int) < (k : Int) by omega)]
          refine iteT ⟨.int (y : Int), rfl, _, mo.1, by rw [vl_len]; exact small9 (by omega), ?_⟩
          rw [List.filter_cons_of_pos (by exact decide_eq_true c), List.filter_nil]
          exact mo.2
        · rw [decide_eq_false (show ¬ ((y : Nat) : Int) < (k : Int) by omega)]
          refine iteF ?_
          rw [List.filter_cons_of_neg (by exact fun z => c (of_decide_eq_true z)), List.filter_nil, List.append_nil]
          exact m3
      · rw [vl_len, List.take_length] at m3
        have g3 := m3.go hL
        have l3 := lenV_seq (K := K) (H := H3) (a := L) (.inl (SqL.of m3.2.2))
        rw [vl_len] at l3
        refine ⟨.ref L, _, rfl, l3, 1, _, rfl, rfl, ?_⟩
        have mo := m.more (k := cnt xs k + 1) hD ht g3
        have ec : (1 : Int) + (((xs.filter fun y => decide (y < k)).length : Nat) : Int) = ((cnt xs k + 1 : Nat) : Int) := by
          unfold cnt
          omega
        have e : (low xs)[i]? = some (cnt xs k + 1) := by
          unfold low
          rw [List.getElem?_map, hk]
          rfl
        refine ⟨_, mo.1, by rw [vl_len, List.length_take]; exact small9 (by omega), ?_⟩
        rw [take_snoc e]
        have z := mo.2
        rw [← ec] at z
        exact z
    · rw [vl_len, List.take_of_length_le (by rw [len_low]; exact Nat.le_refl _)] at m
      refine ⟨false, D, vl (low xs), rfl, m.2.2, fun z => (nomatch z), fun _ p ob hd hp => ?_⟩
      have g2 := m.go hD
      exact q _ p (g2.trans (Go.new g2.1 hp)) (g2.free hp) ⟨ob, hd, upd_same⟩
def spUnd (T : Addr → Prop) : Sp := fun vs H Q _ => ∃ (b : Bool) (a : Addr) (o : List Nat), vs = [.ref a] ∧ OrdK b H a (vl o) ∧ IsOrd o ∧ Tabs H T ∧ Out T H Q (und o)
def spTrn (T : Addr → Prop) : Sp := fun vs H Q _ => ∃ (b : Bool) (a : Addr) (o : List Nat), vs = [.ref a] ∧ OrdK b H a (vl o) ∧ IsOrd o ∧ Tabs H T ∧ Out T H Q (trn o)
end
end Lb

set_option Elab.async false
set_option linter.all false
set_option maxRecDepth 100000
set_option maxHeartbeats 4000000
namespace Lb
open PySem PySem.Spec PyProof.Rows L2

abbrev s_pick : Stmt := topS 38
theorem sc_pick : FnScope ["_law_pot_here", "_law_some"] ["_law_pot_here", "_law_some"] (defScope s_pick) := ⟨rfl, rfl, rfl, by decide +kernel, rfl, by decide +kernel, by decide +kernel⟩
theorem none_ne {H : Hp} {a b : Addr} {u : HO} (n : H a = none) (e : H b = some u) : a ≠ b := fun z => by
  rw [z, e] at n
  cases n
theorem Gp.put {T : Addr → Prop} {q l : Addr} {H0 H : Hp} {o : HO} (g : Gp T q H0 H) (n : H0 l = none) (t : Tabs H0 T) (p : PotAt H0 q) : Gp T q H0 (upd H l o) := by
  have lT := tab_ne t n
  obtain ⟨x0, y0, e0, _⟩ := p
  have lq : l ≠ q := fun z => by
    rw [z, e0] at n
    cases n
  refine ⟨?_, ?_, fun b u n1 n2 e => by rw [upd_ne (ne_of_none e n)]; exact g.old b u n1 n2 e⟩
  · exact g.tab.put lT
  · obtain ⟨x, y, e, r⟩ := g.pot
    exact ⟨x, y, by rw [upd_ne lq.symm]; exact e, r⟩
theorem erase_perm : ∀ (l : List Nat) (k x : Nat), l[k]? = some x → (x :: l.eraseIdx k).Perm l
  | a :: r, 0, x, h => by
    have e : a = x := Option.some.inj h
    subst e
    exact List.Perm.refl _
  | a :: r, k + 1, x, h => by
    rw [List.eraseIdx_cons_succ]
    exact (List.Perm.swap a x _).trans ((erase_perm r k x h).cons a)
theorem vl_erase : ∀ (l : List Nat) (k : Nat), (vl l).eraseIdx k = vl (l.eraseIdx k)
  | [], _ => rfl
  | a :: r, 0 => rfl
  | a :: r, k + 1 => by
    show V.int (a : Int) :: (vl r).eraseIdx k = V.int (a : Int) :: vl (r.eraseIdx k)
    rw [vl_erase r k]
theorem seq_in {n j : Nat} (hj : j < n) : seqIndex? (j : Int) n = some j := (ixN_seq (ix_in hj)).1
theorem Gp.seqT {K : PySem.W.Frag} {T : Addr → Prop} {q a : Addr} {H H' : Hp} {xs : List V} (g : Gp T q H H') (t : Tabs H T) (p : PotAt H q) (h : SqT K H a xs) : SqT K H' a xs := by
  obtain ⟨x, y, e, _⟩ := p
  rcases h with (h | ⟨o, h⟩) | h
  · exact .inl (.inl (g.old a _ (ne_tab t h fun _ z => by cases z) (ne_of h e fun z => by cases z) h))
  · exact .inl (.inr ⟨o, g.old a _ (ne_tab t h fun _ z => by cases z) (ne_of h e fun z => by cases z) h⟩)
  · exact .inr h
theorem Gp.seqL {K : PySem.W.Frag} {T : Addr → Prop} {q a : Addr} {H H' : Hp} {xs : List V} (g : Gp T q H H') (t : Tabs H T) (n : a ≠ q) (h : SqL K H a xs) : SqL K H' a xs := by
  rcases h with (h | ⟨o, h⟩) | h
  · exact .inl (.inl (g.old a _ (ne_tab t h fun _ z => by cases z) n h))
  · exact .inl (.inr ⟨o, g.old a _ (ne_tab t h fun _ z => by cases z) n h⟩)
  · exact .inr h
theorem Gp.seqLT {K : PySem.W.Frag} {T : Addr → Prop} {q a : Addr} {H H' : Hp} {xs : List V} (g : Gp T q H H') (t : Tabs H T) (p : PotAt H q) (n : a ≠ q) (h : SeqLT K H a xs) : SeqLT K H' a xs := h.imp (g.seqL t n) (g.seqT t p)
theorem Gp.lst {T : Addr → Prop} {q a : Addr} {H H' : Hp} {xs : List V} (g : Gp T q H H') (t : Tabs H T) (n : a ≠ q) (e : H a = some (.lst xs)) : H' a = some (.lst xs) := g.old a _ (ne_tab t e fun _ z => by cases z) n e
theorem PotAt.ne {H : Hp} {q l : Addr} (p : PotAt H q) (n : H l = none) : l ≠ q := by
  obtain ⟨x, y, e, _⟩ := p
  exact none_ne n e
section
variable {P : Program} {w : World} {K : PySem.W.Frag} {mg : Str → Option Value} {base : Heap} {T : Addr → Prop}
def spPick (T : Addr → Prop) : Sp := fun vs H Q _ => ∃ (q L : Addr) (xs : List V), vs = [.ref q, .ref L] ∧ H L = some (.lst xs) ∧ 1 ≤ xs.length ∧ xs.length ≤ 100 ∧ L ≠ q ∧ PotAt H q ∧ Tabs H T ∧ ∀ H' x, Gp T q H H' → x ∈ xs → Q x H'
theorem ok_pick {f : Addr} {fd : FuncData} (F : Fun K "_law_pick" "_law_pick" s_pick f fd) (G1 : Cn P w K mg base 1 "_law_draw" ["_law_pot_here", "_law_size"] (spDraw T)) (B : Bl2 mg) : FnOk P w K mg base CX0 2 f fd ["_law_pot_here", "_law_some"] (spPick T) := by
  refine F.ok sc_pick (fun vs H Q E h => ?_) (fun cdv A outer s H vs Q E hr h => ?_)
  · obtain ⟨q, L, xs, rfl, _⟩ := h
    rfl
  · obtain ⟨q, L, xs, rfl, eL, h1, h2, Lq, pt, ht, k⟩ := h
    refine ⟨_, (pss_one (ps_ret (pe_ix ix_list (pv 1) (pe_cn G1 hr (by rfl) (pa_cons (pv 0) (pa_cons (pe_callB call_len (by rfl) B.b.len PySem.boot_len (pa_cons (pv 1) pa_nil)) pa_nil))) (fun _ _ => rfl)))), ?_⟩
    refine ⟨.ref L, rfl, .ref q, rfl, .ref L, rfl, .ref L, xs.length, rfl, .inl ⟨_, SqL.of eL, rfl⟩, q, xs.length, rfl, h1, h2, pt, ht, fun H' d g hd => ?_⟩
    have e' := g.lst ht Lq eL
    have hm : xs[d]? = some xs[d] := List.getElem?_eq_getElem hd
    exact ⟨L, _, (d : Int), xs[d], rfl, rfl, SqL.of e', atI_nat hm, k H' _ g (List.getElem_mem hd)⟩

def spLord (T : Addr → Prop) : Sp := fun vs H Q _ => ∃ (q : Addr) (n : Nat), vs = [.ref q, .int (n : Int)] ∧ 1 ≤ n ∧ n ≤ 9 ∧ PotAt H q ∧ Tabs H T ∧ ∀ H' p o, Gp T q H H' → OrdK true H' p (vl o) → IsOrd o → o.length = n → Q (.ref p) H'
theorem ok_lorder {f : Addr} {fd : FuncData} (F : Fun K "_law_order" "_law_order" s_order f fd) (G1 : Cn P w K mg base 1 "_law_draw" ["_law_pot_here", "_law_size"] (spDraw T)) (B : Bl2 mg) : FnOk P w K mg base CX0 2 f fd ["_law_pot_here", "_law_size"] (spLord T) := by
  refine F.ok sc_order (fun vs H Q E h => ?_) (fun cdv A outer s H vs Q E hr h => ?_)
  · obtain ⟨q, n, rfl, _⟩ := h
    rfl
  · obtain ⟨q, n, rfl, h1, h9, pt, ht, k⟩ := h
    refine ⟨_, (pss_cons (ps_par (i := 2) (j := 3) (by rfl) sc_order.nd rfl rfl (by decide) rfl rfl (pa_cons (pe_listRg rfl (by rfl) B.b.list (prg_2 (by rfl) B.b.range pe_int (pe_op op_add (pv 1) pe_int))) (pa_cons (pe_lst pa_nil) pa_nil)) (by rfl))
      (pss_cons (ps_for PassesOwn.never rfl (pi_range1 (by rfl) B.b.range (pa_cons (pv 1) pa_nil)) (pg_name (i := 4) sc_order.nd rfl (Or.inl rfl))
        (pss_one (ps_expr (pe_bm PySem.F.plainAttrs_list PySem.F.slot_list_append PySem.F.type_list_append mt_append (pv 3) (pa_cons (pe_bm PySem.F.plainAttrs_list PySem.F.slot_list_pop PySem.F.type_list_pop mt_popAt (pv 2) (pa_cons (pe_cn G1 hr (by rfl) (pa_cons (pv 0) (pa_cons (pe_callB call_len (by rfl) B.b.len PySem.boot_len (pa_cons (pv 2) pa_nil)) pa_nil))) pa_nil)) pa_nil)))))
      (pss_one (ps_ret (pe_tupF (by rfl) B.b.tuple (pv 3)))))), ?_⟩
    refine ⟨.int (n : Int), rfl, _, 1, rfl, rfl, 1, (n : Int) + 1, rfl, rfl, RgOk.of_le (by omega) (by omega) (by omega) (by omega), fun l hl => ?_⟩
    rw [rg_vl]
    refine ⟨Nat.zero_le _, fun g hg => ⟨_, _, rfl, ?_⟩⟩
    have lg : l ≠ g := ne_of_none upd_same hg
    have g0 : H g = none := by
      rw [upd_ne lg.symm] at hg
      exact hg
    have lq := pt.ne hl
    have gq := pt.ne g0
    have gp0 := ((Gp.refl ht pt).put (o := .lst (vl (List.range' 1 n))) hl ht pt).put (o := .lst []) g0 ht pt
    refine ⟨.int (n : Int), rfl, (n : Int), rfl, by omega, by omega, ?_⟩
    refine for_range (lo := 0) (n := ((n : Int)).toNat) (fun i σ H2 => ∃ (lf ff : List Nat) (tv : Option V), σ = [some (.ref q), some (.int (n : Int)), some (.ref l), some (.ref g), tv] ∧ H2 l = some (.lst (vl lf)) ∧ H2 g = some (.lst (vl ff)) ∧ lf.length = n - i ∧ ff.length = i ∧ (ff ++ lf).Perm (List.range' 1 n) ∧ Gp T q H H2)
      ⟨List.range' 1 n, [], none, rfl, by rw [upd_ne lg, upd_same], by rw [upd_same]; rfl, by rw [List.length_range']; omega, rfl, List.Perm.refl _, gp0⟩ ?_ ?_
    · rintro i σ H2 hi ⟨lf, ff, tv, rfl, el, eg, nl, nf, hp, gp⟩
      have sl : SqL K H2 l (vl lf) := SqL.of el
      have sg : SqL K H2 g (vl ff) := SqL.of eg
      refine ⟨.ref g, rfl, .inl ⟨rfl, _, sg⟩, .ref l, rfl, .inl ⟨rfl, _, sl⟩, .ref q, rfl, .ref l, rfl, .ref l, lf.length, rfl, .inl ⟨_, sl, (vl_len lf).symm⟩, ?_⟩
      refine ⟨q, lf.length, rfl, by omega, by omega, gp.pot, gp.tab, fun H3 d g3 hd => ?_⟩
      have el3 : H3 l = some (.lst (vl lf)) := g3.old l _ (tab_ne ht hl) lq el
      have eg3 : H3 g = some (.lst (vl ff)) := g3.old g _ (tab_ne ht g0) gq eg
      refine ⟨l, vl lf, (d : Int), d, _, rfl, rfl, el3, by omega, by omega, by rw [vl_len]; exact seq_in hd, vl_get (getD_of hd), ?_⟩
      rw [vl_erase]
      refine ⟨g, vl ff, _, rfl, rfl, by rw [upd_ne lg.symm]; exact eg3, by rw [vl_len]; exact small9 (by omega), ?_⟩
      rw [vl_snoc]
      have perm : (ff ++ [lf.getD d 0] ++ lf.eraseIdx d).Perm (List.range' 1 n) := by
        rw [List.append_assoc]
        exact ((erase_perm lf d _ (getD_of hd)).append_left ff).trans hp
      refine ⟨lf.eraseIdx d, ff ++ [lf.getD d 0], _, rfl, by rw [upd_ne lg, upd_same], upd_same, ?_, by rw [List.length_append, nf]; rfl, perm, ((gp.trans g3).put hl ht pt).put g0 ht pt⟩
      rw [List.length_eraseIdx_of_lt hd]
      omega
    · rintro σ H2 ⟨lf, ff, tv, rfl, el, eg, nl, nf, hp, gp⟩
      have e0 : lf = [] := List.length_eq_zero_iff.mp (by omega)
      rw [e0, List.append_nil] at hp
      have len : ff.length = n := by rw [hp.length_eq, List.length_range']
      refine ⟨.ref g, rfl, false, g, vl ff, rfl, eg, fun z => (nomatch z), fun _ x ob hod hx => ?_⟩
      have g6 := Go.new (o := .frz ob (.tup (vl ff))) gp.tab hx
      exact k _ x ff (gp.then g6) ⟨ob, hod, upd_same⟩ ⟨by omega, by omega, by rw [len]; exact hp⟩ len
def spPass (K : PySem.W.Frag) (T : Addr → Prop) : Sp := fun vs H Q _ => ∃ (q a : Addr) (o : List Nat), vs = [.ref q, .ref a] ∧ OrdK true H a (vl o) ∧ PotAt H q ∧ Tabs H T ∧ ∀ H' p, Gp T q H H' → SeqLT K H' p (vl o) → (OrdK true H' p (vl o) ∨ (H p = none ∧ H' p = some (.lst (vl o)))) → Q (.ref p) H'
theorem ok_passed {f : Addr} {fd : FuncData} (F : Fun K "_law_passed" "_law_passed" s_passed f fd) (G1 : Cn P w K mg base 2 "_law_draw" ["_law_pot_here", "_law_size"] (spDraw T)) (B : Bl2 mg) : FnOk P w K mg base CX0 3 f fd ["_law_pot_here", "_law_order_here"] (spPass K T) := by
  refine F.ok sc_passed (fun vs H Q E h => ?_) (fun cdv A outer s H vs Q E hr h => ?_)
  · obtain ⟨q, a, o, rfl, _⟩ := h
    rfl
  · obtain ⟨q, a, o, rfl, ha, pt, ht, k⟩ := h
    refine ⟨_, (pss_one (ps_ret (pe_ifExp (pt_cmpR op_eq (pe_cn G1 hr (by rfl) (pa_cons (pv 0) (pa_cons pe_int pa_nil))) pe_int (nomark _)) (pe_callTy call_list_of (by rfl) B.b.list (by decide +kernel) (pa_cons (pv 1) pa_nil)) (pe_tupF (by rfl) B.b.tuple (pv 1))))), ?_⟩
    refine ⟨.ref q, rfl, q, 2, rfl, by decide, by decide, pt, ht, fun H1 d c1 hd => ⟨rfl, _, rfl, ?_⟩⟩
    have ha1 := c1.ordT ht pt ha
    by_cases e : (d : Int) = 0
    · rw [decide_eq_true (congrArg V.int e)]
      refine iteT ⟨.ref a, rfl, a, vl o, rfl, ha1.lt, fun x hx => ?_⟩
      have g2 := Go.new (o := .lst (vl o)) c1.tab hx
      exact k _ x (c1.then g2) (.inl (SqL.of upd_same)) (.inr ⟨c1.free hx, upd_same⟩)
    · rw [decide_eq_false (fun z => e (by injection z))]
      refine iteF ?_
      exact ⟨.ref a, rfl, true, a, vl o, rfl, ha1, fun _ => k _ a c1 ha1.lt (.inl ha1), fun z => (nomatch z)⟩
end
end Lb

set_option Elab.async false
set_option linter.all false
set_option maxRecDepth 100000
set_option maxHeartbeats 4000000
namespace Lb
open PySem PySem.Spec PyProof.Rows L2

theorem Paired.app {α β : Type} {R : α → β → Prop} : ∀ {l : List α} {m : List β} {l2 : List α} {m2 : List β}, Paired R l m → Paired R l2 m2 → Paired R (l ++ l2) (m ++ m2)
  | _, _, _, _, .nil, q => q
  | _, _, _, _, .cons r t, q => .cons r (Paired.app t q)
theorem flat_len {α β : Type} {f : Nat → List α} {g : Nat → List β} : ∀ l : List Nat, (∀ a ∈ l, (f a).length = (g a).length) → (l.flatMap f).length = (l.flatMap g).length
  | [], _ => rfl
  | a :: t, h => by
    rw [List.flatMap_cons, List.flatMap_cons, List.length_append, List.length_append, h a (.head _), flat_len t fun x hx => h x (.tail _ hx)]
theorem chs_len : ∀ (n : Nat) (l m : List Nat), l.length = m.length → (chs l n).length = (chs m n).length
  | 0, _, _, _ => rfl
  | n + 1, l, m, h => by
    show ((List.range (l.length - n)).flatMap _).length = ((List.range (m.length - n)).flatMap _).length
    rw [h]
    refine flat_len _ fun a _ => ?_
    rw [List.length_map, List.length_map]
    exact chs_len n _ _ (by rw [List.length_drop, List.length_drop, h])
theorem chs_few {l : List Nat} (h : l.length ≤ 9) {n : Nat} (hn : n ≤ 9) : (chs l n).length ≤ 126 := by
  rw [chs_len n l (List.range l.length) (by rw [List.length_range]), ← En_chs]
  exact En_few _ h _ hn
def chF (l : List Nat) (m : Nat) (a : Nat) : List (List Nat) := (chs (l.drop (a + 1)) m).map fun r => l.getD a 0 :: r
theorem chs_mem : ∀ {n : Nat} {l r : List Nat}, r ∈ chs l n → r.length = n
  | 0, l, r, h => by
    rw [List.mem_singleton.mp h]
    rfl
  | n + 1, l, r, h => by
    obtain ⟨a, _, h⟩ := List.mem_flatMap.mp h
    obtain ⟨s, hs, rfl⟩ := List.mem_map.mp h
    rw [List.length_cons, chs_mem hs]
theorem cut_from (l : List Nat) (k : Nat) (h : k ≤ l.length) : cutV (vl l) (some (k : Int)) none = vl (l.drop k) := by
  unfold cutV
  rw [HT.sIx_nat, HT.sIx_none, vl_len, Nat.min_eq_left h]
  unfold vl
  rw [← List.map_drop, ← List.map_drop, List.take_of_length_le (by rw [List.length_map, List.length_map, List.length_drop]; exact Nat.le_refl _)]
section
variable {P : Program} {w : World} {K : PySem.W.Frag} {mg : Str → Option Value} {base : Heap} {T : Addr → Prop}
def spChs (K : PySem.W.Frag) (T : Addr → Prop) (n : Nat) : Sp := fun vs H Q _ => ∃ (a : Addr) (l : List Nat), vs = [.ref a, .int (n : Int)] ∧ SeqLT K H a (vl l) ∧ l.length ≤ 9 ∧ Tabs H T ∧ ∀ H' p ts, Go T H H' → H p = none → H' p = some (.lst (ts.map V.ref)) → LTs K H' ts (chs l n) → Q (.ref p) H'
def spChP (K : PySem.W.Frag) (T : Addr → Prop) : Nat → Sp
  | 0 => fun _ _ _ _ => False
  | m + 1 => spChs K T m
theorem choices_step {f : Addr} {fd : FuncData} (F : Fun K "_law_choices" "_law_choices" s_choices f fd) (B : Bl2 mg) (n : Nat) (n9 : n ≤ 9) (G : Cn P w K mg base n "_law_choices" ["_law_some", "_law_many"] (spChP K T n)) : FnOk P w K mg base CX0 (n + 1) f fd ["_law_some", "_law_many"] (spChs K T n) := by
  refine F.ok sc_choices (fun vs H Q E h => ?_) (fun cdv A outer s H vs Q E hr h => ?_)
  · obtain ⟨a, l, rfl, _⟩ := h
    rfl
  · obtain ⟨a, l, rfl, ha, b9, ht, q⟩ := h
    refine ⟨_, (pss_cons (ps_if (pt_cmpR op_eq (pv 1) pe_int (nomark _))
        (pss_one (ps_ret (pe_lst (pa_cons (pe_tup pa_nil) pa_nil)))) pss_nil)
      (pss_cons (ps_set (i := 2) sc_choices.nd rfl (Or.inl rfl) (pe_lst pa_nil))
      (pss_cons (ps_for PassesOwn.never rfl (pi_range1 (by rfl) B.b.range (pa_cons (pe_op op_add (pe_op op_sub (pe_callB call_len (by rfl) B.b.len PySem.boot_len (pa_cons (pv 0) pa_nil)) (pv 1)) pe_int) pa_nil)) (pg_name (i := 3) sc_choices.nd rfl (Or.inr rfl))
        (pss_one (ps_expr (pe_bm PySem.F.plainAttrs_list PySem.F.slot_list_extend PySem.F.type_list_extend mt_extend (pv 2) (pa_cons (pe_lc (own := [("_law_rest", 4)]) (g := gName 4) (tt := tYes) (by rfl) sc_choices.nd (pi_list (pe_cn G hr (by rfl) (pa_cons (pe_slice sl_cut (pv 0) (po_some (pe_op op_add (pv 3) pe_int)) po_none) (pa_cons (pe_op op_sub (pv 1) pe_int) pa_nil)))) (blkOk_by (by rfl)) (fun _ _ _ _ _ => (pg_name (i := 4) sc_choices.nd rfl (Or.inl rfl))) (fun _ _ _ _ _ => pts_nil) (fun _ _ _ _ _ => (pe_op (show OpR _ _ (rCatA K) from op_catA) (pe_tup (pa_cons (pe_ix (show IxR _ (rIx K) from ix_seq) (pv 0) (pv 3) (fun _ _ => rfl)) pa_nil)) (pv 4)))) pa_nil)))))
      (pss_one (ps_ret (pv 2)))))), ?_⟩
    cases n with
    | zero =>
      refine ⟨.int 0, rfl, rfl, _, rfl, ?_⟩
      rw [decide_eq_true rfl]
      refine iteT ⟨by show 0 ≤ sizeLine; decide, fun t0 h0 => ⟨by show 1 ≤ sizeLine; decide, fun L hL => ?_⟩⟩
      have g2 := Go.new (o := .tup []) ht h0
      have g3 := Go.new (o := .lst [V.ref t0]) g2.1 hL
      exact q _ L [t0] (g2.trans g3) (g2.free hL) upd_same (.cons (g3.seqT g2.1 (SqT.of upd_same)) .nil)
    | succ m =>
      refine ⟨.int ((m + 1 : Nat) : Int), rfl, rfl, _, rfl, ?_⟩
      rw [decide_eq_false (show ¬ V.int ((m + 1 : Nat) : Int) = V.int 0 from fun z => by injection z with z; omega)]
      refine iteF ⟨Nat.zero_le _, fun g hg => ?_⟩
      have g2 := Go.new (o := .lst []) ht hg
      have few := chs_few b9 n9
      have l1 := lenV_seq (K := K) (g2.lt ht ha)
      rw [vl_len] at l1
      have bnd : ∀ k, k ≤ l.length - m → ((List.range k).flatMap (chF l m)).length ≤ 126 := fun k hk => Nat.le_trans (sub_flat _ (List.range_sublist.mpr hk)) few
      refine ⟨.ref a, rfl, .ref a, _, rfl, l1, .int ((m + 1 : Nat) : Int), rfl, _, _, rfl, rfl, _, 1, rfl, rfl, _, rfl, by omega, by omega, ?_⟩
      refine for_range (lo := 0) (n := ((l.length : Int) - ((m + 1 : Nat) : Int) + 1).toNat) (fun i σ H3 => ∃ tv : Option V, σ = [some (.ref a), some (.int ((m + 1 : Nat) : Int)), some (.ref g), tv, none] ∧ Go T H H3 ∧ ∃ us : List Addr, H3 g = some (.lst (us.map V.ref)) ∧ LTs K H3 us ((List.range i).flatMap (chF l m)))
        ⟨none, rfl, g2, [], upd_same, .nil⟩ ?_ ?_
      · rintro i σ H3 hi ⟨tv, rfl, g3, us, e3, o3⟩
        have hi' : i < l.length - m := by omega
        refine ⟨.ref g, rfl, .inl ⟨rfl, _, SqL.of e3⟩, .ref a, rfl, .int (0 + (i : Int)), rfl, _, 1, rfl, rfl, _, rfl, a, vl l, rfl, g3.lt ht ha, fun H4 p hc sq => ?_⟩
        have sq2 : SeqLT K H4 p (cutV (vl l) (some (0 + (i : Int) + 1)) none) := sq
        rw [show 0 + (i : Int) + 1 = ((i + 1 : Nat) : Int) by omega, cut_from l (i + 1) (by omega)] at sq2
        have g4 := Go.cut g3.1 hc
        refine ⟨.int ((m + 1 : Nat) : Int), rfl, _, 1, rfl, rfl, p, l.drop (i + 1), ?_, sq2, by rw [List.length_drop]; omega, g4.1, fun H5 r ts5 g5 hr5 e5 o5 => ?_⟩
        · show [V.ref p, V.int (((m + 1 : Nat) : Int) - 1)] = _
          rw [show ((m + 1 : Nat) : Int) - 1 = (m : Int) by omega]
        have g35 := g4.trans g5
        have e35 := g35.lst g3.1 e3
        have o35 := o3.go g3.1 g35
        have g05 := g3.trans g35
        have l5 := Paired.length o5
        have f5 := chs_few (l := l.drop (i + 1)) (by rw [List.length_drop]; omega) (n := m) (by omega)
        refine ⟨r, rfl, ⟨_, SqL.of e5⟩, fun D hD => ?_⟩
        refine lc_list (xs := ts5.map V.ref) (fun j H6 => Go T H5 H6 ∧ ∃ ws : List Addr, H6 D = some (.lst (ws.map V.ref)) ∧ LTs K H6 ws (((chs (l.drop (i + 1)) m).take j).map fun r => l.getD i 0 :: r)) ⟨Go.new g5.1 hD, [], upd_same, .nil⟩ (fun j H6 _ z => SqL.of (z.1.lst g5.1 e5)) (fun j z H6 hz w6 => ?_) (fun H6 w6 => ?_)
        · obtain ⟨g6, ws, eD, ow⟩ := w6
          rw [List.getElem?_map] at hz
          obtain ⟨ti, hti, rfl⟩ := Option.map_eq_some_iff.mp hz
          obtain ⟨o', ho', so⟩ := Paired.getL o5 hti
          have lo' := chs_mem (List.mem_of_getElem? ho')
          have so6 := g6.seqT g5.1 so
          refine ⟨rfl, .ref a, rfl, .int (0 + (i : Int)), rfl, ix_at ((g05.trans g6).lt ht ha) (i := i) (by omega) (by omega) ⟨by show 1 ≤ sizeLine; decide, fun s1 hs1 => ?_⟩⟩
          have g7 := Go.new (o := .tup (vl [l.getD i 0])) g6.1 hs1
          refine ⟨.ref ti, rfl, cat_go (xs := [l.getD i 0]) (ys := o') g7.1 (SqT.of upd_same) (g7.seqT g6.1 so6) (by show 1 + _ ≤ 100; omega) fun H8 p8 g8 e8 => ?_⟩
          have g78 := g7.trans g8
          have eD8 := g78.lst g6.1 eD
          have lw := Paired.length ow
          rw [List.length_map, List.length_take] at lw
          refine ⟨_, eD8, by rw [List.length_map, lw]; exact small1000 (by omega), (g6.trans g78).put hD g5.1, ws ++ [p8], by rw [upd_same, List.map_append]; rfl, ?_⟩
          rw [take_snoc ho', List.map_append]
          exact Paired.snoc (LTs.up (ow.go g6.1 g78) eD8) (SqT.up e8 eD8)
        · obtain ⟨g6, ws, eD, ow⟩ := w6
          rw [List.length_map, List.take_of_length_le (by omega)] at ow
          have e6 := g6.lst g5.1 e35
          have lu := Paired.length o35
          have lw := Paired.length ow
          rw [List.length_map] at lw
          have b1 := bnd i (by omega)
          refine ⟨g, D, us.map V.ref, ws.map V.ref, rfl, rfl, e6, eD, Nat.le_of_lt (small1000 (by rw [List.length_map, List.length_map]; omega)), ?_⟩
          refine ⟨_, rfl, (g05.trans g6).put hg ht, us ++ ws, by rw [upd_same, List.map_append], ?_⟩
          rw [List.range_succ, List.flatMap_append, List.flatMap_cons, List.flatMap_nil, List.append_nil]
          exact Paired.app (LTs.up (o35.go g5.1 g6) e6) (LTs.up ow e6)
      · rintro σ H3 ⟨tv, rfl, g3, us, e3, o3⟩
        rw [show ((l.length : Int) - ((m + 1 : Nat) : Int) + 1).toNat = l.length - m by omega] at o3
        exact ⟨.ref g, rfl, q H3 g us g3 hg e3 o3⟩
theorem ok_choices {f : Addr} {fd : FuncData} (DA : Df K mg "_law_choices" s_choices ["_law_some", "_law_many"] f fd) (B : Bl2 mg) : ∀ n, n ≤ 9 → FnOk P w K mg base CX0 (n + 1) f fd ["_law_some", "_law_many"] (spChs K T n)
  | 0, h => choices_step DA.fn B 0 h (DA.cn ⟨fun _ _ _ _ h => h.elim, fun _ _ _ _ _ _ _ _ _ _ _ _ _ h => h.elim⟩)
  | n + 1, h => choices_step DA.fn B (n + 1) h (DA.cn (ok_choices DA B n (by omega)))
end
end Lb

set_option Elab.async false
set_option linter.all false
set_option maxRecDepth 100000
set_option maxHeartbeats 4000000
namespace Lb
open PySem PySem.Spec PyProof.Rows L2

abbrev s_drawn : Stmt := topS 43
theorem sc_drawn : FnScope ["_law_pot_here", "_law_most", "_law_way", "_law_order_here", "_law_turn", "_law_one", "_law_two", "_law_found"] ["_law_pot_here", "_law_most"] (defScope s_drawn) := ⟨rfl, rfl, rfl, by decide +kernel, rfl, by decide +kernel, by decide +kernel⟩
section
variable {X : Cx} {es : List Expr} {t : TA}
def tTupD (t : TA) : TE := fun σ H Q => t σ H fun xs H1 => xs.length ≤ sizeLine ∧ ∀ (p : Addr) (o : Obj), o.dict = none → H1 p = none → Q (.ref p) (upd H1 p (.frz o (.tup xs)))
theorem pe_tupD {x1} {pos : Pos} (h : PA X es t) : PE X (.Tuple es x1 pos) (tTupD t) := by
  refine ⟨fun pins s σ H Q I hq => ?_⟩
  refine wpAny_Tuple_spliced (thn (h.run pos pins s σ H _ I hq) fun us s1 ⟨xs, H1, I1, r, z, q⟩ => ⟨by rw [← r.length]; exact z, ?_⟩)
  exact ⟨.ref s1.heap.objs.size, _, inv_frz I1 (fun b o e => e) z r s1.toks, rfl, q _ _ rfl (I1.hok.fresh (Nat.le_refl _))⟩

def rSlF (K : PySem.W.Frag) : V → Option Int → Option Int → Hp → VK → Prop := fun x lo hi H Q => ∃ a xs, x = .ref a ∧ OrdK true H a xs ∧ (cutV xs lo hi = xs → Q (.ref a) H) ∧ ∀ (p : Addr) (o : Obj), o.dict = none → H p = none → Q (.ref p) (upd H p (.frz o (.tup (cutV xs lo hi))))
theorem sl_tupF : SlR X (rSlF X.K) := by
  intro pins s σ H x v vl vu lo hi sl Q I rx hs pl pu h
  obtain ⟨a, xs, rfl, hx, q1, q2⟩ := h
  by_cases hw : HT.sIx xs.length 0 lo = 0 ∧ HT.sIx xs.length xs.length hi = xs.length
  · refine sl_tupA pins s σ H _ v vl vu lo hi sl Q I rx hs pl pu ⟨a, xs, rfl, hx.sqT, fun _ => q1 ?_, fun z => absurd hw z⟩
    unfold cutV
    rw [hw.1, hw.2, List.drop_zero, Nat.sub_zero, List.take_length]
  · cases rx
    obtain ⟨its, r, ht, hz⟩ := I.tuple hx.sqT
    have hlen : its.toArray.size = xs.length := by rw [List.size_toArray]; exact r.length.symm
    refine ⟨"tuple", _, PyProof.Rows.slot_tuple_getitem.lookup, ht.typeIs, ?_⟩
    refine HT.getItem_tuple_cut ht hs pl pu (by rw [hlen]; exact hw) ?_ (by rw [hlen]; exact hz)
    rw [hlen]
    exact ⟨.ref s.heap.objs.size, _, inv_frz I (fun b o e => e) (Nat.le_trans (cutV_length xs lo hi) hz) ((r.drop (HT.sIx xs.length 0 lo)).take (HT.sIx xs.length xs.length hi - HT.sIx xs.length 0 lo)) s.toks, rfl, q2 _ _ rfl (I.hok.fresh (Nat.le_refl _))⟩
def rCatFF : R2 := fun x y H Q => ∃ a b xs ys, x = .ref a ∧ y = .ref b ∧ OrdK true H a xs ∧ OrdK true H b ys ∧ xs.length + ys.length ≤ sizeLine ∧
  (xs = [] → Q (.ref b) H) ∧ (xs ≠ [] → ys = [] → Q (.ref a) H) ∧ (xs ≠ [] → ys ≠ [] → ∀ (p : Addr) (o : Obj), o.dict = none → H p = none → Q (.ref p) (upd H p (.frz o (.tup (xs ++ ys)))))
theorem op_catFF : OpR X (binaryOp .Add) rCatFF := by
  intro pins s σ H x y v u Q I rx ry h
  obtain ⟨a, b, xs, ys, rfl, rfl, ha, hb, hz, q0, q1, q2⟩ := h
  by_cases e : xs = []
  · exact op_catA pins s σ H _ _ v u Q I rx ry ⟨a, b, xs, ys, rfl, rfl, ha.sqT, hb.sqT, hz, q0, fun z => absurd e z, fun z => absurd e z⟩
  · by_cases e2 : ys = []
    · exact op_catA pins s σ H _ _ v u Q I rx ry ⟨a, b, xs, ys, rfl, rfl, ha.sqT, hb.sqT, hz, fun z => absurd z e, q1, fun _ z => absurd e2 z⟩
    · exact op_catF pins s σ H _ _ v u Q I rx ry ⟨a, b, xs, ys, rfl, rfl, ha.sqT, hb.sqT, e, e2, hz, q2 e e2⟩
end
theorem cut_mid (o : List Nat) (a b : Nat) (ha : a ≤ o.length) (hb : b ≤ o.length) : cutV (vl o) (some (a : Int)) (some (b : Int)) = vl ((o.drop a).take (b - a)) := by
  unfold cutV
  rw [HT.sIx_nat, HT.sIx_nat, vl_len, Nat.min_eq_left ha, Nat.min_eq_left hb]
  unfold vl
  rw [← List.map_drop, ← List.map_take, ← List.map_drop, ← List.map_take]
theorem slF_go {K : PySem.W.Frag} {T : Addr → Prop} {H : Hp} {a : Addr} {xs zs : List Nat} {lo hi : Option Int} {Q : VK} (ht : Tabs H T) (ha : OrdK true H a (vl xs)) (e : cutV (vl xs) lo hi = vl zs) (q : ∀ H' p, Go T H H' → OrdK true H' p (vl zs) → Q (.ref p) H') : rSlF K (.ref a) lo hi H Q := by
  refine ⟨a, vl xs, rfl, ha, fun z => q H a (Go.refl ht) (by rw [← e, z]; exact ha), fun p o od hp => ?_⟩
  rw [e]
  exact q _ p (Go.new ht hp) ⟨o, od, upd_same⟩
theorem catF_go {T : Addr → Prop} {H : Hp} {a b : Addr} {xs ys : List Nat} {Q : VK} (ht : Tabs H T) (ha : OrdK true H a (vl xs)) (hb : OrdK true H b (vl ys)) (hl : xs.length + ys.length ≤ 100) (q : ∀ H' p, Go T H H' → OrdK true H' p (vl (xs ++ ys)) → Q (.ref p) H') : rCatFF (.ref a) (.ref b) H Q := by
  have e : vl (xs ++ ys) = vl xs ++ vl ys := by
    unfold vl
    rw [List.map_append, List.map_append]
  refine ⟨a, b, vl xs, vl ys, rfl, rfl, ha, hb, by rw [vl_len, vl_len]; exact Nat.le_of_lt (small9 hl), fun z => q H b (Go.refl ht) ?_, fun _ z => q H a (Go.refl ht) ?_, fun _ _ p o od hp => q _ p (Go.new ht hp) (by rw [e]; exact ⟨o, od, upd_same⟩)⟩
  · rw [e, z, List.nil_append]
    exact hb
  · rw [e, z, List.append_nil]
    exact ha
/-- a thing put in -/
def up1 (th x : Nat) : Nat := if th ≤ x then x + 1 else x
def rsd (o : List Nat) (pl th : Nat) : List Nat := (o.map (up1 th)).take pl ++ [th] ++ (o.map (up1 th)).drop pl
theorem len_rsd {o : List Nat} {pl th : Nat} : (rsd o pl th).length = o.length + 1 := by
  unfold rsd
  rw [List.length_append, List.length_append, List.length_take, List.length_drop, List.length_map, List.length_singleton]
  omega
theorem ord_rsd {o : List Nat} (h : IsOrd o) (h8 : o.length ≤ 8) {pl th : Nat} (h1 : 1 ≤ th) (h2 : th ≤ o.length + 1) : IsOrd (rsd o pl th) := by
  refine ⟨by rw [len_rsd]; omega, by rw [len_rsd]; omega, ?_⟩
  rw [len_rsd]
  have p1 : (rsd o pl th).Perm (th :: o.map (up1 th)) := by
    unfold rsd
    rw [List.append_assoc]
    refine List.perm_middle.trans ?_
    show (th :: (List.take pl (o.map (up1 th)) ++ List.drop pl (o.map (up1 th)))).Perm _
    rw [List.take_append_drop]
  refine p1.trans (((h.perm.map _).cons th).trans ?_)
  have e1 : List.range' 1 o.length = List.range' 1 (th - 1) ++ List.range' th (o.length - (th - 1)) := by
    have z := List.range'_append (s := 1) (m := th - 1) (n := o.length - (th - 1)) (step := 1)
    rw [Nat.one_mul, show 1 + (th - 1) = th by omega, show th - 1 + (o.length - (th - 1)) = o.length by omega] at z
    exact z.symm
  have e2 : List.range' 1 (o.length + 1) = List.range' 1 (th - 1) ++ th :: List.range' (th + 1) (o.length - (th - 1)) := by
    have z := List.range'_append (s := 1) (m := th - 1) (n := o.length - (th - 1) + 1) (step := 1)
    rw [Nat.one_mul, show 1 + (th - 1) = th by omega, show th - 1 + (o.length - (th - 1) + 1) = o.length + 1 by omega] at z
    rw [← z, List.range'_succ]
  rw [e1, e2, List.map_append]
  have m1 : (List.range' 1 (th - 1)).map (up1 th) = List.range' 1 (th - 1) := (List.map_congr_left (g := id) fun x hx => by
    have := List.mem_range'_1.mp hx
    unfold up1
    rw [if_neg (by omega)]
    rfl).trans (List.map_id _)
  have m2 : (List.range' th (o.length - (th - 1))).map (up1 th) = List.range' (th + 1) (o.length - (th - 1)) := by
    rw [List.map_congr_left (g := fun x => 1 + x) fun x hx => by
      have := List.mem_range'_1.mp hx
      unfold up1
      rw [if_pos (by omega), Nat.add_comm]]
    rw [List.map_add_range', Nat.add_comm]
  rw [m1, m2]
  exact List.perm_middle.symm
section
variable {P : Program} {w : World} {K : PySem.W.Frag} {mg : Str → Option Value} {base : Heap} {T : Addr → Prop}
def spRsd (T : Addr → Prop) : Sp := fun vs H Q _ => ∃ (a : Addr) (o : List Nat) (pl th : Nat), vs = [.ref a, .int (pl : Int), .int (th : Int)] ∧ OrdK true H a (vl o) ∧ o.length ≤ 8 ∧ pl ≤ o.length ∧ Tabs H T ∧ ∀ H' p, Go T H H' → OrdK true H' p (vl (rsd o pl th)) → Q (.ref p) H'
theorem ok_raised {f : Addr} {fd : FuncData} (F : Fun K "_law_raised" "_law_raised" s_raised f fd) (B : Bl2 mg) : FnOk P w K mg base CX0 1 f fd ["_law_order_here", "_law_place", "_law_thing"] (spRsd T) := by
  refine F.ok sc_raised (fun vs H Q E h => ?_) (fun cdv A outer s H vs Q E hr h => ?_)
  · obtain ⟨a, o, pl, th, rfl, _⟩ := h
    rfl
  · obtain ⟨a, o, pl, th, rfl, ha, h8, hp, ht, q⟩ := h
    refine ⟨_, (pss_cons (ps_set (i := 3) sc_raised.nd rfl (Or.inl rfl) (pe_tupF (by rfl) B.b.tuple (pe_lc (own := [("_law_other", 4)]) (g := gName 4) (tt := tYes) (by rfl) sc_raised.nd (pi_seq (pv 0)) (blkOk_by (by rfl)) (fun _ _ _ _ _ => (pg_name (i := 4) sc_raised.nd rfl (Or.inl rfl))) (fun _ _ _ _ _ => pts_nil) (fun _ _ _ _ _ => (pe_ifExp (pt_cmpR op_ge (pv 4) (pv 2) (nomark _)) (pe_op op_add (pv 4) pe_int) (pv 4))))))
      (pss_one (ps_ret (pe_op op_catFF (pe_op op_catFF (pe_slice sl_tupF (pv 3) po_none (po_some (pv 1))) (pe_tupD (pa_cons (pv 2) pa_nil))) (pe_slice sl_tupF (pv 3) (po_some (pv 1)) po_none))))), ?_⟩
    refine ⟨.ref a, rfl, true, a, rfl, ⟨_, ha.sqT⟩, fun D hD => ?_⟩
    refine lc_seq (b := true) (xs := vl o) (fun i H2 => Made T H D ((o.map (up1 th)).take i) H2) (Made.start ht hD) (fun i H2 _ m => (m.go hD).sqB (b := true) ht ha.sqT) (fun i x H2 hx m => ?_) (fun H2 m => ?_)
    · obtain ⟨k, hk, rfl⟩ := vl_inv hx
      have hi := (List.getElem?_eq_some_iff.mp hk).1
      have mo := m.more (k := up1 th k) hD ht (Go.refl m.1)
      have e : (o.map (up1 th))[i]? = some (up1 th k) := by
        rw [List.getElem?_map, hk]
        rfl
      refine ⟨rfl, .int (k : Int), rfl, .int (th : Int), rfl, _, _, rfl, rfl, _, rfl, ?_⟩
      rw [take_snoc e]
      by_cases c : th ≤ k
      · have eu : up1 th k = k + 1 := if_pos c
        rw [eu] at mo ⊢
        rw [decide_eq_true (show (th : Int) ≤ (k : Int) by omega)]
        exact iteT ⟨.int (k : Int), rfl, _, 1, rfl, rfl, _, mo.1, by rw [vl_len, List.length_take]; exact small9 (by omega), mo.2⟩
      · have eu : up1 th k = k := if_neg c
        rw [eu] at mo ⊢
        rw [decide_eq_false (show ¬ (th : Int) ≤ (k : Int) by omega)]
        exact iteF ⟨.int (k : Int), rfl, _, mo.1, by rw [vl_len, List.length_take]; exact small9 (by omega), mo.2⟩
    · rw [vl_len, List.take_of_length_le (by rw [List.length_map]; exact Nat.le_refl _)] at m
      refine ⟨false, D, vl (o.map (up1 th)), rfl, m.2.2, fun z => (nomatch z), fun _ p ob hd hp0 => ?_⟩
      have g1 := (m.go hD).trans (Go.new (o := .frz ob (.tup (vl (o.map (up1 th))))) (m.go hD).1 hp0)
      have ep : OrdK true (upd H2 p (.frz ob (.tup (vl (o.map (up1 th)))))) p (vl (o.map (up1 th))) := ⟨ob, hd, upd_same⟩
      generalize upd H2 p (.frz ob (.tup (vl (o.map (up1 th))))) = H3 at g1 ep ⊢
      refine ⟨.ref p, rfl, .int (pl : Int), rfl, _, rfl, slF_go g1.1 ep (zs := (o.map (up1 th)).take pl) ?_ fun H4 b g4 eb => ?_⟩
      · have z := cut_mid (o.map (up1 th)) 0 pl (Nat.zero_le _) (by rw [List.length_map]; exact hp)
        rw [List.drop_zero, Nat.sub_zero] at z
        exact z
      · have lm : (o.map (up1 th)).length = o.length := List.length_map _
        have l1 : ((o.map (up1 th)).take pl).length ≤ 8 := by rw [List.length_take]; omega
        refine ⟨.int (th : Int), rfl, by show 1 ≤ sizeLine; decide, fun t ob2 od2 hn => ?_⟩
        have g5 := Go.new (o := .frz ob2 (.tup (vl [th]))) g4.1 hn
        refine catF_go (xs := (o.map (up1 th)).take pl) (ys := [th]) g5.1 (g5.ord g4.1 eb) ⟨ob2, od2, upd_same⟩ (by show _ + 1 ≤ 100; omega) fun H6 c g6 ec => ?_
        have g56 := g5.trans g6
        refine ⟨.ref p, rfl, .int (pl : Int), rfl, _, rfl, ?_⟩
        unfold tNoPart
        refine slF_go g56.1 (g56.ord g4.1 (g4.ord g1.1 ep)) (cut_from _ pl (by omega)) fun H7 d g7 ed => ?_
        refine catF_go (xs := (o.map (up1 th)).take pl ++ [th]) (ys := (o.map (up1 th)).drop pl) g7.1 (g7.ord g6.1 ec) ed (by rw [List.length_append, List.length_drop]; show _ + 1 + _ ≤ 100; omega) fun H8 r g8 er => ?_
        exact q H8 r (g1.trans (g4.trans (g56.trans (g7.trans g8)))) er
end
end Lb

set_option Elab.async false
set_option linter.all false
set_option maxRecDepth 100000
set_option maxHeartbeats 4000000
namespace Lb
open PySem PySem.Spec PyProof.Rows L2

theorem rg0_vl (n : Nat) : rgV 0 (n : Int) = vl (List.range n) := by
  unfold rgV vl
  rw [show ((n : Int) - 0).toNat = n by omega, List.map_map]
  refine List.map_congr_left fun i _ => ?_
  show V.int (0 + (i : Int)) = V.int (i : Int)
  rw [Int.zero_add]
theorem chs_lt : ∀ {n : Nat} {l r : List Nat}, r ∈ chs l n → ∀ x ∈ r, x ∈ l
  | 0, l, r, h, x, hx => by
    rw [List.mem_singleton.mp h] at hx
    cases hx
  | n + 1, l, r, h, x, hx => by
    obtain ⟨a, ha, h⟩ := List.mem_flatMap.mp h
    obtain ⟨s, hs, rfl⟩ := List.mem_map.mp h
    have ha := List.mem_range.mp ha
    rcases List.mem_cons.mp hx with rfl | hx
    · exact List.mem_of_getElem? (getD_of (by omega))
    · exact List.mem_of_mem_drop (chs_lt hs x hx)
section
variable {P : Program} {w : World} {K : PySem.W.Frag} {mg : Str → Option Value} {base : Heap} {T : Addr → Prop}
end
end Lb

set_option Elab.async false
set_option linter.all false
set_option maxRecDepth 100000
set_option maxHeartbeats 4000000
namespace Lb
open PySem PySem.Spec PyProof.Rows L2

def fourL : List (List Nat) := [[4, 2, 3, 1], [3, 5, 1, 4, 2], [4, 2, 5, 1, 3], [3, 5, 1, 6, 2, 4]]
theorem ord_list {o : List Nat} (h : (decide (1 ≤ o.length) && decide (o.length ≤ 9) && (o.isPerm (List.range' 1 o.length))) = true) : IsOrd o := by
  simp only [Bool.and_eq_true, decide_eq_true_eq] at h
  exact ⟨h.1.1, h.1.2, List.isPerm_iff.mp h.2⟩
section
variable {X : Cx} {k : Nat} {x : Str} {ps : List Str} {sp : Sp} {p pos : Pos}
theorem pe_cn0 (C : Cn X.prog X.w X.K X.mg X.base k x ps sp) (hr : Room k X.A) (hg : Gl X x) (hdb : (x == ("__debug__" : Str)) = false := by decide) : PE X (.Call (.Name x p) [] [] pos) (tCall sp [] E0 tNil) := by
  obtain ⟨f, fd, h1, h2, h3, h4⟩ := C.ex
  exact pe_call0 h1 hr hg h2 h3 h4 .nil pass0 hdb
end
section
variable {P : Program} {w : World} {K : PySem.W.Frag} {mg : Str → Option Value} {base : Heap} {T : Addr → Prop}
def KAt (H : Hp) (ts : List Addr) (os : List (List Nat)) : Prop := Paired (fun t o => OrdK true H t (vl o)) ts os
theorem KAt.go {T : Addr → Prop} {H H' : Hp} {ts : List Addr} {os : List (List Nat)} (h : KAt H ts os) (t : Tabs H T) (g : Go T H H') : KAt H' ts os := Paired.mapP h fun _ _ e => g.ord t e
def spFour (T : Addr → Prop) : Sp := fun vs H Q _ => vs = [] ∧ Tabs H T ∧ ∀ H' p ts, Go T H H' → H p = none → H' p = some (.lst (ts.map V.ref)) → KAt H' ts fourL → Q (.ref p) H'
theorem ok_four {f : Addr} {fd : FuncData} (F : Fun K "_law_four" "_law_four" s_four f fd) (B : Bl2 mg) : FnOk P w K mg base CX0 1 f fd [] (spFour T) := by
  refine F.ok sc_four (fun vs H Q E h => ?_) (fun cdv A outer s H vs Q E hr h => ?_)
  · obtain ⟨rfl, _⟩ := h
    rfl
  · obtain ⟨rfl, ht, q⟩ := h
    refine ⟨_, (pss_one (ps_ret (pe_lst (pa_cons (pe_tupD (pa_cons pe_int (pa_cons pe_int (pa_cons pe_int (pa_cons pe_int pa_nil))))) (pa_cons (pe_tupD (pa_cons pe_int (pa_cons pe_int (pa_cons pe_int (pa_cons pe_int (pa_cons pe_int pa_nil)))))) (pa_cons (pe_tupD (pa_cons pe_int (pa_cons pe_int (pa_cons pe_int (pa_cons pe_int (pa_cons pe_int pa_nil)))))) (pa_cons (pe_tupD (pa_cons pe_int (pa_cons pe_int (pa_cons pe_int (pa_cons pe_int (pa_cons pe_int (pa_cons pe_int pa_nil))))))) pa_nil))))))), ?_⟩
    refine ⟨by show 4 ≤ sizeLine; decide, fun t1 o1 d1 h1 => ⟨by show 5 ≤ sizeLine; decide, fun t2 o2 d2 h2 => ⟨by show 5 ≤ sizeLine; decide, fun t3 o3 d3 h3 => ⟨by show 6 ≤ sizeLine; decide, fun t4 o4 d4 h4 => ⟨by show 4 ≤ sizeLine; decide, fun L hL => ?_⟩⟩⟩⟩⟩
    have g1 := Go.new (o := .frz o1 (.tup (vl [4, 2, 3, 1]))) ht h1
    have g2 := Go.new (o := .frz o2 (.tup (vl [3, 5, 1, 4, 2]))) g1.1 h2
    have g3 := Go.new (o := .frz o3 (.tup (vl [4, 2, 5, 1, 3]))) g2.1 h3
    have g4 := Go.new (o := .frz o4 (.tup (vl [3, 5, 1, 6, 2, 4]))) g3.1 h4
    have g5 := Go.new (o := .lst [V.ref t1, V.ref t2, V.ref t3, V.ref t4]) g4.1 hL
    have g14 := g1.trans (g2.trans (g3.trans g4))
    exact q _ L [t1, t2, t3, t4] (g14.trans g5) (g14.free hL) upd_same (.cons ((g2.trans (g3.trans (g4.trans g5))).ord g1.1 ⟨o1, d1, upd_same⟩) (.cons ((g3.trans (g4.trans g5)).ord g2.1 ⟨o2, d2, upd_same⟩) (.cons ((g4.trans g5).ord g3.1 ⟨o3, d3, upd_same⟩) (.cons (g5.ord g4.1 ⟨o4, d4, upd_same⟩) .nil))))
def spDrawn (T : Addr → Prop) : Sp := fun vs H Q _ => ∃ (q : Addr) (n : Nat), vs = [.ref q, .int (n : Int)] ∧ 4 ≤ n ∧ n ≤ 9 ∧ PotAt H q ∧ Tabs H T ∧ ∀ H' p o, Gp T q H H' → OrdK true H' p (vl o) → IsOrd o → o.length ≤ n → Q (.ref p) H'
end
end Lb

set_option Elab.async false
set_option linter.all false
set_option maxRecDepth 100000
set_option maxHeartbeats 4000000
namespace Lb

theorem len_at (o ps : List Nat) : (at_ o ps).length = ps.length := by
  unfold at_
  rw [List.length_map]
theorem at_at {o ps : List Nat} {k : Nat} (h : k < ps.length) : (at_ o ps).getD k 0 = o.getD (ps.getD k 0) 0 := at_of (by
  unfold at_
  rw [List.getElem?_map, getD_of h]
  rfl)
theorem ris_lt {ps : List Nat} (h : Ris ps) {i j : Nat} (ij : i < j) (hj : j < ps.length) : ps.getD i 0 < ps.getD j 0 := by
  have z := List.pairwise_iff_getElem.mp h i j (by omega) hj ij
  rw [List.getD_eq_getElem?_getD, List.getElem?_eq_getElem (by omega), List.getD_eq_getElem?_getD, List.getElem?_eq_getElem hj]
  simpa using z
theorem ris_cmp {ps : List Nat} (h : Ris ps) {i j : Nat} (hi : i < ps.length) (hj : j < ps.length) : ps.getD i 0 < ps.getD j 0 ↔ i < j := by
  constructor
  · intro z
    refine Classical.byContradiction fun c => ?_
    rcases Nat.lt_or_ge j i with y | y
    · have := ris_lt h y hi
      omega
    · have : i = j := by omega
      subst this
      omega
  · intro z
    exact ris_lt h z hj
/-- unlike things -/
def Inj (a : List Nat) : Prop := ∀ i j, i < a.length → j < a.length → a.getD i 0 = a.getD j 0 → i = j
theorem cnt_full {a : List Nat} {x : Nat} (m : x ∈ a) : cnt a x < a.length := by
  unfold cnt
  induction a with
  | nil => cases m
  | cons y t ih =>
    rw [List.filter_cons, List.length_cons]
    rcases List.mem_cons.mp m with rfl | m
    · rw [if_neg (by simp)]
      have := List.length_filter_le (fun y => decide (y < x)) t
      omega
    · have := ih m
      split
      · rw [List.length_cons]; omega
      · omega
theorem low_is_ord {a : List Nat} (h : Inj a) (h1 : 1 ≤ a.length) (h9 : a.length ≤ 9) : IsOrd (low a) := by
  refine ord_of (by rw [len_low]; exact h1) (by rw [len_low]; exact h9) (fun k hk => ?_) (fun i j hi hj e => ?_)
  · rw [len_low] at hk ⊢
    rw [low_at hk]
    have := cnt_full (List.mem_of_getElem? (getD_of hk))
    omega
  · rw [len_low] at hi hj
    refine h i j hi hj ?_
    have a1 := (low_lt hi hj)
    have a2 := (low_lt hj hi)
    omega
theorem inj_at {o ps : List Nat} (io : IsOrd o) (r : Ris ps) (hb : ∀ p ∈ ps, p < o.length) : Inj (at_ o ps) := by
  intro i j hi hj e
  rw [len_at] at hi hj
  rw [at_at hi, at_at hj] at e
  have z := io.inj (hb _ (List.mem_of_getElem? (getD_of hi))) (hb _ (List.mem_of_getElem? (getD_of hj))) e
  have c1 := ris_cmp r hi hj
  have c2 := ris_cmp r hj hi
  omega
theorem low_trn {o ps : List Nat} (io : IsOrd o) (r : Ris ps) (hb : ∀ p ∈ ps, p < o.length) (h1 : 1 ≤ ps.length) (h9 : ps.length ≤ 9) : low (at_ (trn o) (ps.map fun p => o.length - 1 - p).reverse) = trn (low (at_ o ps)) := by
  have la := len_at o ps
  have il := low_is_ord (inj_at io r hb) (by omega) (by omega)
  have it := ord_trn il
  rw [← low_ord it]
  have ll := len_low (at_ o ps)
  have lq : (ps.map fun p => o.length - 1 - p).reverse.length = ps.length := by rw [List.length_reverse, List.length_map]
  have hq : ∀ k, k < ps.length → (ps.map fun p => o.length - 1 - p).reverse.getD k 0 = o.length - 1 - ps.getD (ps.length - 1 - k) 0 := fun k hk => at_of (by
    rw [List.getElem?_reverse (by rw [List.length_map]; exact hk), List.getElem?_map, List.length_map, getD_of (by omega)]
    rfl)
  have hv : ∀ k, k < ps.length → (at_ (trn o) (ps.map fun p => o.length - 1 - p).reverse).getD k 0 = o.length + 1 - (at_ o ps).getD (ps.length - 1 - k) 0 := fun k hk => by
    have lt := hb _ (List.mem_of_getElem? (getD_of (show ps.length - 1 - k < ps.length by omega)))
    rw [at_at (by rw [lq]; exact hk), hq k hk, at_trn (by omega), at_at (by omega)]
    congr 2
    omega
  have hw : ∀ k, k < ps.length → (trn (low (at_ o ps))).getD k 0 = ps.length + 1 - (low (at_ o ps)).getD (ps.length - 1 - k) 0 := fun k hk => by
    rw [at_trn (by omega), ll, la]
  refine low_of (by rw [len_at, lq, len_trn, ll, la]) fun i j hi hj => ?_
  rw [len_at, lq] at hi hj
  rw [hv i hi, hv j hj, hw i hi, hw j hj]
  have c := low_lt (xs := at_ o ps) (i := ps.length - 1 - j) (j := ps.length - 1 - i) (by omega) (by omega)
  have b1 : (at_ o ps).getD (ps.length - 1 - i) 0 ≤ o.length := by
    rw [at_at (by omega)]
    exact (io.sm (hb _ (List.mem_of_getElem? (getD_of (by omega))))).2
  have b2 : (at_ o ps).getD (ps.length - 1 - j) 0 ≤ o.length := by
    rw [at_at (by omega)]
    exact (io.sm (hb _ (List.mem_of_getElem? (getD_of (by omega))))).2
  have d1 := (il.sm (k := ps.length - 1 - i) (by omega)).2
  have d2 := (il.sm (k := ps.length - 1 - j) (by omega)).2
  omega
theorem cnt_range {m i : Nat} (h : i < m) : ((List.range m).filter fun k => decide (k < i)).length = i := by
  have z := cnt_up m (i + 1) (by omega) (by omega)
  unfold cnt at z
  rw [List.range'_eq_map_range, List.filter_map, List.length_map] at z
  rw [show i + 1 - 1 = i by omega] at z
  rw [← z]
  congr 1
  · refine List.filter_congr fun k _ => ?_
    show decide (k < _) = decide (1 + k < i + 1)
    rw [z]
    by_cases c : k < i
    · rw [decide_eq_true c, decide_eq_true (by omega)]
    · rw [decide_eq_false c, decide_eq_false (by omega)]
theorem cnt_ris {us : List Nat} (h : Ris us) {i : Nat} (hi : i < us.length) : cnt us (us.getD i 0) = i := by
  rw [cnt_idx, List.filter_congr (q := fun k => decide (k < i)) fun k hk => ?_, cnt_range hi]
  have c := ris_cmp h (List.mem_range.mp hk) hi
  by_cases z : k < i
  · rw [decide_eq_true z, decide_eq_true (c.mpr z)]
  · rw [decide_eq_false z, decide_eq_false (fun y => z (c.mp y))]
theorem low_und {o ps us : List Nat} (io : IsOrd o) (r : Ris ps) (hb : ∀ p ∈ ps, p < o.length) (h1 : 1 ≤ ps.length) (h9 : ps.length ≤ 9) (per : us.Perm ((at_ o ps).map fun x => x - 1)) (srt : us.Pairwise (· ≤ ·)) : low (at_ (und o) us) = und (low (at_ o ps)) := by
  have la := len_at o ps
  have inj := inj_at io r hb
  have il := low_is_ord inj (by omega) (by omega)
  have iu := ord_und il
  have ll := len_low (at_ o ps)
  have lu : us.length = ps.length := by rw [per.length_eq, List.length_map, la]
  have pos : ∀ x ∈ at_ o ps, 1 ≤ x := fun x hx => by
    unfold at_ at hx
    obtain ⟨p, hp, rfl⟩ := List.mem_map.mp hx
    exact (io.sm (hb p hp)).1
  have nd : us.Nodup := by
    refine per.nodup_iff.mpr ?_
    refine List.pairwise_iff_getElem.mpr fun i j hi hj ij e => ?_
    rw [List.length_map] at hi hj
    rw [List.getElem_map, List.getElem_map] at e
    have p1 := pos _ (List.getElem_mem hi)
    have p2 := pos _ (List.getElem_mem hj)
    have := inj i j hi hj (by rw [List.getD_eq_getElem?_getD, List.getElem?_eq_getElem hi, List.getD_eq_getElem?_getD, List.getElem?_eq_getElem hj]; show (at_ o ps)[i] = (at_ o ps)[j]; omega)
    omega
  have ris : Ris us := (srt.and nd).imp fun z => Nat.lt_of_le_of_ne z.1 z.2
  have key : ∀ i, i < ps.length → ∃ k, k < ps.length ∧ (at_ (und o) us).getD i 0 = ps.getD k 0 + 1 ∧ (und (low (at_ o ps))).getD i 0 = k + 1 := by
    intro i hi
    have mu : us.getD i 0 ∈ us := List.mem_of_getElem? (getD_of (by omega))
    obtain ⟨x, hx, e⟩ := List.mem_map.mp (per.mem_iff.mp mu)
    have px := pos x hx
    obtain ⟨k, hk⟩ := List.getElem?_of_mem hx
    have hkl : k < ps.length := by
      have := (List.getElem?_eq_some_iff.mp hk).1
      omega
    have ex := at_of hk
    have c1 := cnt_ris ris (i := i) (by omega)
    rw [cnt_perm per] at c1
    have c2 : cnt ((at_ o ps).map fun x => x - 1) (us.getD i 0) = cnt (at_ o ps) x := by
      unfold cnt
      rw [List.filter_map, List.length_map]
      congr 1
      refine List.filter_congr fun y hy => ?_
      have py := pos y hy
      show decide (y - 1 < us.getD i 0) = decide (y < x)
      by_cases z : y < x
      · rw [decide_eq_true z, decide_eq_true (by omega)]
      · rw [decide_eq_false z, decide_eq_false (by omega)]
    have lk := low_at (xs := at_ o ps) (i := k) (by omega)
    rw [ex, ← c2, c1] at lk
    refine ⟨k, hkl, ?_, ?_⟩
    · rw [at_at (by omega), at_und (by have := io.sm (hb _ (List.mem_of_getElem? (getD_of hkl))); rw [at_at hkl] at ex; omega), show us.getD i 0 + 1 = x by omega, ← ex, at_at hkl, io.idx (hb _ (List.mem_of_getElem? (getD_of hkl)))]
    · rw [at_und (by omega), ← lk, il.idx (by omega)]
  rw [← low_ord iu]
  refine low_of (by rw [len_at, len_und, ll, la, lu]) fun i j hi hj => ?_
  rw [len_at, lu] at hi hj
  obtain ⟨k, hk, e1, e2⟩ := key i hi
  obtain ⟨k', hk', e3, e4⟩ := key j hj
  rw [e1, e2, e3, e4]
  have := ris_cmp r hk hk'
  omega
end Lb

set_option Elab.async false
set_option linter.all false
set_option maxRecDepth 100000
set_option maxHeartbeats 4000000
namespace Lb
open PySem PySem.Spec PyProof.Rows L2

section
variable {P : Program} {w : World} {K : PySem.W.Frag} {mg : Str → Option Value} {base : Heap} {T : Addr → Prop}
theorem ok_drawn {f : Addr} {fd : FuncData} (F : Fun K "_law_drawn" "_law_drawn" s_drawn f fd) (G1 : Cn P w K mg base 2 "_law_draw" ["_law_pot_here", "_law_size"] (spDraw T)) (G2 : Cn P w K mg base 2 "_law_pick" ["_law_pot_here", "_law_some"] (spPick T)) (G3 : Cn P w K mg base 2 "_law_order" ["_law_pot_here", "_law_size"] (spLord T)) (G4 : Cn P w K mg base 2 "_law_raised" ["_law_order_here", "_law_place", "_law_thing"] (spRsd T)) (G5 : Cn P w K mg base 2 "_law_four" [] (spFour T)) (B : Bl2 mg) : FnOk P w K mg base CX0 3 f fd ["_law_pot_here", "_law_most"] (spDrawn T) := by
  refine F.ok sc_drawn (fun vs H Q E h => ?_) (fun cdv A outer s H vs Q E hr h => ?_)
  · obtain ⟨q, n, rfl, _⟩ := h
    rfl
  · obtain ⟨q, n, rfl, n4, n8, pt, ht, k⟩ := h
    refine ⟨_, (pss_cons (ps_set (i := 2) sc_drawn.nd rfl (Or.inl rfl) (pe_cn G1 hr (by rfl) (pa_cons (pv 0) (pa_cons pe_int pa_nil))))
      (pss_cons (ps_if (pt_cmpR op_lt (pv 2) pe_int (nomark _))
        (pss_one (ps_ret (pe_cn G3 hr (by rfl) (pa_cons (pv 0) (pa_cons (pe_op op_add pe_int (pe_cn G1 hr (by rfl) (pa_cons (pv 0) (pa_cons (pv 1) pa_nil)))) pa_nil))))) pss_nil)
      (pss_cons (ps_set (i := 3) sc_drawn.nd rfl (Or.inl rfl) (pe_cn G2 hr (by rfl) (pa_cons (pv 0) (pa_cons (pe_op op_cat (pe_cn0 G5 hr (by rfl)) (pe_lst (pa_cons (pe_tupD (pa_cons pe_int (pa_cons pe_int (pa_cons pe_int (pa_cons pe_int pa_nil))))) pa_nil))) pa_nil))))
      (pss_cons (ps_set (i := 3) sc_drawn.nd rfl (Or.inl rfl) (pe_ifExp (pt_cmpR op_le (pe_callB call_len (by rfl) B.b.len PySem.boot_len (pa_cons (pv 3) pa_nil)) (pv 1) (nomark _)) (pv 3) (pe_tupD (pa_cons pe_int (pa_cons pe_int (pa_cons pe_int (pa_cons pe_int pa_nil)))))))
      (pss_cons (ps_for PassesOwn.never rfl (pi_range1 (by rfl) B.b.range (pa_cons (pe_cn G1 hr (by rfl) (pa_cons (pv 0) (pa_cons (pe_op op_add (pe_op op_sub (pv 1) (pe_callB call_len (by rfl) B.b.len PySem.boot_len (pa_cons (pv 3) pa_nil))) pe_int) pa_nil))) pa_nil)) (pg_name (i := 4) sc_drawn.nd rfl (Or.inl rfl))
        (pss_one (ps_set (i := 3) sc_drawn.nd rfl (Or.inl rfl) (pe_cn G4 hr (by rfl) (pa_cons (pv 3) (pa_cons (pe_cn G1 hr (by rfl) (pa_cons (pv 0) (pa_cons (pe_op op_add (pe_callB call_len (by rfl) B.b.len PySem.boot_len (pa_cons (pv 3) pa_nil)) pe_int) pa_nil))) (pa_cons (pe_op op_add pe_int (pe_cn G1 hr (by rfl) (pa_cons (pv 0) (pa_cons (pe_op op_add (pe_callB call_len (by rfl) B.b.len PySem.boot_len (pa_cons (pv 3) pa_nil)) pe_int) pa_nil)))) pa_nil)))))))
      (pss_cons (ps_if (pt_cmpR op_eq (pv 2) pe_int (nomark _))
        (pss_cons (ps_par3 (i := 5) (j := 6) (l := 7) (by rfl) sc_drawn.nd rfl rfl rfl (by decide) (by decide) (by decide) rfl rfl rfl (pa_cons (pe_cn G1 hr (by rfl) (pa_cons (pv 0) (pa_cons (pe_callB call_len (by rfl) B.b.len PySem.boot_len (pa_cons (pv 3) pa_nil)) pa_nil))) (pa_cons (pe_cn G1 hr (by rfl) (pa_cons (pv 0) (pa_cons (pe_callB call_len (by rfl) B.b.len PySem.boot_len (pa_cons (pv 3) pa_nil)) pa_nil))) (pa_cons (pe_callTy call_list_of (by rfl) B.b.list (by decide +kernel) (pa_cons (pv 3) pa_nil)) pa_nil))) (by rfl))
      (pss_cons (ps_asg (pe_tup (pa_cons (pe_ix ix_list (pv 7) (pv 6) (fun _ _ => rfl)) (pa_cons (pe_ix ix_list (pv 7) (pv 5) (fun _ _ => rfl)) pa_nil))) (pg_tup rfl (pgs_cons (pg_sub (pv 7) (pv 5) set_list) (pgs_cons (pg_sub (pv 7) (pv 6) set_list) pgs_nil))))
      (pss_one (ps_set (i := 3) sc_drawn.nd rfl (Or.inl rfl) (pe_tupF (by rfl) B.b.tuple (pv 7)))))) pss_nil)
      (pss_one (ps_ret (pv 3))))))))), ?_⟩
    refine ⟨.ref q, rfl, q, 5, rfl, by decide, by decide, pt, ht, fun H1 way c1 hw => ?_⟩
    refine ⟨.int (way : Int), rfl, _, _, rfl, rfl, _, rfl, ?_⟩
    by_cases w2 : way < 2
    · rw [decide_eq_true (show (way : Int) < 2 by omega)]
      refine iteT ⟨.ref q, rfl, .ref q, rfl, .int (n : Int), rfl, q, n, rfl, by omega, by omega, c1.pot, c1.tab, fun H2 d c2 hd => ⟨1, _, rfl, rfl, ?_⟩⟩
      refine ⟨q, d + 1, ?_, by omega, by omega, c2.pot, c2.tab, fun H3 p o c3 hp io lo => k H3 p o (c1.trans (c2.trans c3)) hp io (by omega)⟩
      show [V.ref q, V.int (1 + (d : Int))] = _
      rw [show (1 : Int) + (d : Int) = ((d + 1 : Nat) : Int) by omega]
    · rw [decide_eq_false (show ¬ (way : Int) < 2 by omega)]
      refine iteF ?_
      refine ⟨.ref q, rfl, rfl, c1.tab, fun H2 p2 ts g2 hp2 e2 k2 => ?_⟩
      refine ⟨by show 4 ≤ sizeLine; decide, fun t5 o5 d5 h5 => ⟨by show 1 ≤ sizeLine; decide, fun L5 hL5 => ?_⟩⟩
      have g3 := Go.new (o := .frz o5 (.tup (vl [3, 4, 1, 2]))) g2.1 h5
      have g4 := Go.new (o := .lst [V.ref t5]) g3.1 hL5
      have e5 : OrdK true _ t5 (vl [3, 4, 1, 2]) := g4.ord g3.1 ⟨o5, d5, upd_same⟩
      have eL5 : (upd (upd H2 t5 (.frz o5 (.tup (vl [3, 4, 1, 2])))) L5 (.lst [V.ref t5])) L5 = some (.lst [V.ref t5]) := upd_same
      have g24 := g3.trans g4
      have lts : ts.length = 4 := Paired.length k2
      refine ⟨p2, L5, ts.map V.ref, [V.ref t5], rfl, rfl, g24.lst g2.1 e2, eL5, by rw [List.length_map, lts]; show 5 ≤ sizeLine; decide, fun L hL => ?_⟩
      have g5 := Go.new (o := .lst (ts.map V.ref ++ [V.ref t5])) g4.1 hL
      have g25 := g24.trans g5
      have c5 := (c1.then g2).then g25
      have Lq : L ≠ q := (c1.then (g2.trans g24)).pot.ne hL
      have eL : (upd (upd (upd H2 t5 (.frz o5 (.tup (vl [3, 4, 1, 2])))) L5 (.lst [V.ref t5])) L (.lst (ts.map V.ref ++ [V.ref t5]))) L = some (.lst (ts.map V.ref ++ [V.ref t5])) := upd_same
      have k5 := k2.go g2.1 g25
      have e55 := g5.ord g4.1 e5
      refine ⟨q, L, ts.map V.ref ++ [V.ref t5], rfl, eL, by rw [List.length_append]; show 1 ≤ _ + 1; omega, by rw [List.length_append, List.length_map, lts]; show 5 ≤ 100; decide, Lq, c5.pot, c5.tab, fun H6 x c6 hx => ?_⟩
      have hx' : ∃ p o, x = .ref p ∧ OrdK true H6 p (vl o) ∧ IsOrd o ∧ 4 ≤ o.length ∧ o.length ≤ 6 := by
        rcases List.mem_append.mp hx with h | h
        · obtain ⟨t, ht', rfl⟩ := List.mem_map.mp h
          obtain ⟨i, hi⟩ := List.getElem?_of_mem ht'
          obtain ⟨o, ho, eo⟩ := Paired.getL k5 hi
          have all : ∀ o ∈ fourL, IsOrd o ∧ 4 ≤ o.length ∧ o.length ≤ 6 := by
            intro o ho
            have : o ∈ [[4, 2, 3, 1], [3, 5, 1, 4, 2], [4, 2, 5, 1, 3], [3, 5, 1, 6, 2, 4]] := ho
            simp only [List.mem_cons, List.not_mem_nil, or_false] at this
            rcases this with rfl | rfl | rfl | rfl <;> exact ⟨ord_list (by decide), by decide, by decide⟩
          exact ⟨t, o, rfl, c6.ordT c5.tab c5.pot eo, all o (List.mem_of_getElem? ho)⟩
        · cases List.mem_singleton.mp h
          exact ⟨t5, [3, 4, 1, 2], rfl, c6.ordT c5.tab c5.pot e55, ord_list (by decide), by decide, by decide⟩
      obtain ⟨p, o, rfl, ep, io, o4, o6⟩ := hx'
      have c16 := c5.trans c6
      have l1 := lenV_seq (K := K) ep.lt
      rw [vl_len] at l1
      refine ⟨.ref p, rfl, .ref p, _, rfl, l1, .int (n : Int), rfl, _, _, rfl, rfl, _, rfl, ?_⟩
      by_cases cz : o.length ≤ n
      · rw [decide_eq_true (show (o.length : Int) ≤ (n : Int) by omega)]
        refine iteT ?_
        have eN : ∀ (a b : Nat), b ≤ a → (a : Int) - (b : Int) + 1 = ((a - b + 1 : Nat) : Int) := fun a b h => by omega
        refine ⟨.ref p, rfl, .ref q, rfl, .int (n : Int), rfl, .ref p, rfl, .ref p, _, rfl, l1, _, _, rfl, rfl, _, 1, rfl, rfl, q, n - o.length + 1, ?_, by omega, by omega, c16.pot, c16.tab, fun H7 d c7 hd => ⟨(d : Int), rfl, by omega, by omega, ?_⟩⟩
        · show [V.ref q, V.int ((n : Int) - (o.length : Int) + 1)] = _
          rw [eN n o.length (by omega)]
        refine for_range (lo := 0) (n := ((d : Int)).toNat) (fun i σ H8 => ∃ (p : Addr) (o : List Nat) (tv : Option V), σ = [some (.ref q), some (.int (n : Int)), some (.int (way : Int)), some (.ref p), tv, none, none, none] ∧ Gp T q H H8 ∧ OrdK true H8 p (vl o) ∧ IsOrd o ∧ o.length + d ≤ n + i)
          ⟨p, o, none, rfl, c16.trans c7, c7.ordT c16.tab c16.pot ep, io, by omega⟩ ?_ ?_
        · rintro i σ H8 hi ⟨p', o', tv, rfl, c8, ep', io', le'⟩
          have l8 : o'.length ≤ 8 := by omega
          have eM : ∀ a : Nat, (a : Int) + 1 = ((a + 1 : Nat) : Int) := fun a => by omega
          have la := lenV_seq (K := K) ep'.lt
          rw [vl_len] at la
          refine ⟨.ref p', rfl, .ref q, rfl, .ref p', rfl, .ref p', _, rfl, la, _, 1, rfl, rfl, q, o'.length + 1, ?_, by omega, by omega, c8.pot, c8.tab, fun H9 d1 c9 h1 => ?_⟩
          · show [V.ref q, V.int ((o'.length : Int) + 1)] = _
            rw [eM]
          have ep9 := c9.ordT c8.tab c8.pot ep'
          have lb := lenV_seq (K := K) ep9.lt
          rw [vl_len] at lb
          refine ⟨.ref q, rfl, .ref p', rfl, .ref p', _, rfl, lb, _, 1, rfl, rfl, q, o'.length + 1, ?_, by omega, by omega, c9.pot, c9.tab, fun H10 d2 c10 h2 => ⟨1, _, rfl, rfl, ?_⟩⟩
          · show [V.ref q, V.int ((o'.length : Int) + 1)] = _
            rw [eM]
          have ep10 := c10.ordT c9.tab c9.pot ep9
          refine ⟨p', o', d1, d2 + 1, ?_, ep10, l8, by omega, c10.tab, fun H11 r g11 er => ?_⟩
          · show [V.ref p', V.int (d1 : Int), V.int (1 + (d2 : Int))] = _
            rw [Int.add_comm, eM]
          refine ⟨r, rsd o' d1 (d2 + 1), _, rfl, ((c8.trans c9).trans c10).then g11, er, ord_rsd io' l8 (by omega) (by omega), by rw [len_rsd]; omega⟩
        · rintro σ H8 ⟨p', o', tv, rfl, c8, ep', io', le'⟩
          have l8 : o'.length ≤ n := by omega
          refine ⟨.int (way : Int), rfl, rfl, _, rfl, ?_⟩
          by_cases w4 : way = 4
          · subst w4
            rw [decide_eq_true (show V.int ((4 : Nat) : Int) = V.int 4 from rfl)]
            have b1 := io'.lo
            have la := lenV_seq (K := K) ep'.lt
            rw [vl_len] at la
            refine iteT ⟨.ref q, rfl, .ref p', rfl, .ref p', _, rfl, la, q, o'.length, rfl, b1, by omega, c8.pot, c8.tab, fun H9 i c9 hi => ?_⟩
            have ep9 := c9.ordT c8.tab c8.pot ep'
            have lb := lenV_seq (K := K) ep9.lt
            rw [vl_len] at lb
            refine ⟨.ref q, rfl, .ref p', rfl, .ref p', _, rfl, lb, q, o'.length, rfl, b1, by omega, c9.pot, c9.tab, fun H10 j c10 hj => ?_⟩
            have ep10 := c10.ordT c9.tab c9.pot ep9
            refine ⟨.ref p', rfl, p', vl o', rfl, ep10.lt, fun l hl => ⟨_, _, _, rfl, ?_⟩⟩
            have c0 := (c8.trans c9).trans c10
            have g1 := Go.new (o := .lst (vl o')) c10.tab hl
            have e1 : (upd H10 l (.lst (vl o'))) l = some (.lst (vl o')) := upd_same
            have hl0 := c0.free hl
            have lq := c0.pot.ne hl
            refine ⟨.ref l, rfl, .int (j : Int), rfl, l, _, (j : Int), _, rfl, rfl, SqL.of e1, atI_nat (vl_get (getD_of hj)), .ref l, rfl, .int (i : Int), rfl, l, _, (i : Int), _, rfl, rfl, SqL.of e1, atI_nat (vl_get (getD_of hi)), by show 2 ≤ sizeLine; decide, fun t hn => ?_⟩
            have nlt : l ≠ t := ne_of_none e1 hn
            refine ⟨t, _, rfl, SqT.of upd_same, rfl, _, _, rfl, ?_⟩
            have e2 : (upd (upd H10 l (.lst (vl o'))) t (.tup [V.int (o'.getD j 0 : Nat), V.int (o'.getD i 0 : Nat)])) l = some (.lst (vl o')) := by
              rw [upd_ne nlt]
              exact e1
            refine ⟨.ref l, rfl, .int (i : Int), rfl, l, vl o', (i : Int), i, rfl, rfl, e2, ix_in (by rw [vl_len]; exact hi), _, _, rfl, .ref l, rfl, .int (j : Int), rfl, l, _, (j : Int), j, rfl, rfl, upd_same, ix_in (by rw [List.length_set, vl_len]; exact hj), rfl, ?_⟩
            rw [vl_set, vl_set]
            refine ⟨.ref l, rfl, false, l, vl (exch o' i j), rfl, upd_same, fun z => (nomatch z), fun _ x ob hd hx => ?_⟩
            have g2 := (c0.then g1).then (Go.new (o := .tup [V.int (o'.getD j 0 : Nat), V.int (o'.getD i 0 : Nat)]) g1.1 hn)
            have g3 := (g2.put (o := .lst (vl (o'.set i (o'.getD j 0)))) hl0 ht pt).put (o := .lst (vl (exch o' i j))) hl0 ht pt
            have g4 := Go.new (o := .frz ob (.tup (vl (exch o' i j)))) g3.tab hx
            exact ⟨.ref x, rfl, k _ x (exch o' i j) (g3.then g4) ⟨ob, hd, upd_same⟩ (ord_exch io' hi hj) (by rw [len_exch]; exact l8)⟩
          · rw [decide_eq_false (fun z => w4 (by injection z with z; omega))]
            refine iteF ?_
            exact ⟨.ref p', rfl, k _ p' o' c8 ep' io' l8⟩
      · rw [decide_eq_false (show ¬ (o.length : Int) ≤ (n : Int) by omega)]
        refine iteF ⟨by show 4 ≤ sizeLine; decide, fun tz oz dz hz => ?_⟩
        have gz := Go.new (o := .frz oz (.tup [V.int 4, V.int 2, V.int 3, V.int 1])) c16.tab hz
        have epz : OrdK true (upd H6 tz (.frz oz (.tup [V.int 4, V.int 2, V.int 3, V.int 1]))) tz (vl [4, 2, 3, 1]) := ⟨oz, dz, upd_same⟩
        have c1z := c16.then gz
        clear ep io o4 o6 cz l1
        obtain ⟨o, hoo⟩ : ∃ o, o = [4, 2, 3, 1] := ⟨_, rfl⟩
        have io : IsOrd o := by rw [hoo]; exact ord_list (by decide)
        have cz : o.length ≤ n := by rw [hoo]; exact n4
        have ep : OrdK true (upd H6 tz (.frz oz (.tup [V.int 4, V.int 2, V.int 3, V.int 1]))) tz (vl o) := by rw [hoo]; exact epz
        have l1 := lenV_seq (K := K) ep.lt
        rw [vl_len] at l1
        generalize (upd H6 tz (.frz oz (.tup [V.int 4, V.int 2, V.int 3, V.int 1]))) = H6 at *
        have eN : ∀ (a b : Nat), b ≤ a → (a : Int) - (b : Int) + 1 = ((a - b + 1 : Nat) : Int) := fun a b h => by omega
        refine ⟨.ref q, rfl, .int (n : Int), rfl, .ref tz, rfl, .ref tz, _, rfl, l1, _, _, rfl, rfl, _, 1, rfl, rfl, q, n - o.length + 1, ?_, by omega, by omega, c1z.pot, c1z.tab, fun H7 d c7 hd => ⟨(d : Int), rfl, by omega, by omega, ?_⟩⟩
        · show [V.ref q, V.int ((n : Int) - (o.length : Int) + 1)] = _
          rw [eN n o.length (by omega)]
        refine for_range (lo := 0) (n := ((d : Int)).toNat) (fun i σ H8 => ∃ (p : Addr) (o : List Nat) (tv : Option V), σ = [some (.ref q), some (.int (n : Int)), some (.int (way : Int)), some (.ref p), tv, none, none, none] ∧ Gp T q H H8 ∧ OrdK true H8 p (vl o) ∧ IsOrd o ∧ o.length + d ≤ n + i)
          ⟨tz, o, none, rfl, c1z.trans c7, c7.ordT c1z.tab c1z.pot ep, io, by omega⟩ ?_ ?_
        · rintro i σ H8 hi ⟨p', o', tv, rfl, c8, ep', io', le'⟩
          have l8 : o'.length ≤ 8 := by omega
          have eM : ∀ a : Nat, (a : Int) + 1 = ((a + 1 : Nat) : Int) := fun a => by omega
          have la := lenV_seq (K := K) ep'.lt
          rw [vl_len] at la
          refine ⟨.ref p', rfl, .ref q, rfl, .ref p', rfl, .ref p', _, rfl, la, _, 1, rfl, rfl, q, o'.length + 1, ?_, by omega, by omega, c8.pot, c8.tab, fun H9 d1 c9 h1 => ?_⟩
          · show [V.ref q, V.int ((o'.length : Int) + 1)] = _
            rw [eM]
          have ep9 := c9.ordT c8.tab c8.pot ep'
          have lb := lenV_seq (K := K) ep9.lt
          rw [vl_len] at lb
          refine ⟨.ref q, rfl, .ref p', rfl, .ref p', _, rfl, lb, _, 1, rfl, rfl, q, o'.length + 1, ?_, by omega, by omega, c9.pot, c9.tab, fun H10 d2 c10 h2 => ⟨1, _, rfl, rfl, ?_⟩⟩
          · show [V.ref q, V.int ((o'.length : Int) + 1)] = _
            rw [eM]
          have ep10 := c10.ordT c9.tab c9.pot ep9
          refine ⟨p', o', d1, d2 + 1, ?_, ep10, l8, by omega, c10.tab, fun H11 r g11 er => ?_⟩
          · show [V.ref p', V.int (d1 : Int), V.int (1 + (d2 : Int))] = _
            rw [Int.add_comm, eM]
          refine ⟨r, rsd o' d1 (d2 + 1), _, rfl, ((c8.trans c9).trans c10).then g11, er, ord_rsd io' l8 (by omega) (by omega), by rw [len_rsd]; omega⟩
        · rintro σ H8 ⟨p', o', tv, rfl, c8, ep', io', le'⟩
          have l8 : o'.length ≤ n := by omega
          refine ⟨.int (way : Int), rfl, rfl, _, rfl, ?_⟩
          by_cases w4 : way = 4
          · subst w4
            rw [decide_eq_true (show V.int ((4 : Nat) : Int) = V.int 4 from rfl)]
            have b1 := io'.lo
            have la := lenV_seq (K := K) ep'.lt
            rw [vl_len] at la
            refine iteT ⟨.ref q, rfl, .ref p', rfl, .ref p', _, rfl, la, q, o'.length, rfl, b1, by omega, c8.pot, c8.tab, fun H9 i c9 hi => ?_⟩
            have ep9 := c9.ordT c8.tab c8.pot ep'
            have lb := lenV_seq (K := K) ep9.lt
            rw [vl_len] at lb
            refine ⟨.ref q, rfl, .ref p', rfl, .ref p', _, rfl, lb, q, o'.length, rfl, b1, by omega, c9.pot, c9.tab, fun H10 j c10 hj => ?_⟩
            have ep10 := c10.ordT c9.tab c9.pot ep9
            refine ⟨.ref p', rfl, p', vl o', rfl, ep10.lt, fun l hl => ⟨_, _, _, rfl, ?_⟩⟩
            have c0 := (c8.trans c9).trans c10
            have g1 := Go.new (o := .lst (vl o')) c10.tab hl
            have e1 : (upd H10 l (.lst (vl o'))) l = some (.lst (vl o')) := upd_same
            have hl0 := c0.free hl
            have lq := c0.pot.ne hl
            refine ⟨.ref l, rfl, .int (j : Int), rfl, l, _, (j : Int), _, rfl, rfl, SqL.of e1, atI_nat (vl_get (getD_of hj)), .ref l, rfl, .int (i : Int), rfl, l, _, (i : Int), _, rfl, rfl, SqL.of e1, atI_nat (vl_get (getD_of hi)), by show 2 ≤ sizeLine; decide, fun t hn => ?_⟩
            have nlt : l ≠ t := ne_of_none e1 hn
            refine ⟨t, _, rfl, SqT.of upd_same, rfl, _, _, rfl, ?_⟩
            have e2 : (upd (upd H10 l (.lst (vl o'))) t (.tup [V.int (o'.getD j 0 : Nat), V.int (o'.getD i 0 : Nat)])) l = some (.lst (vl o')) := by
              rw [upd_ne nlt]
              exact e1
            refine ⟨.ref l, rfl, .int (i : Int), rfl, l, vl o', (i : Int), i, rfl, rfl, e2, ix_in (by rw [vl_len]; exact hi), _, _, rfl, .ref l, rfl, .int (j : Int), rfl, l, _, (j : Int), j, rfl, rfl, upd_same, ix_in (by rw [List.length_set, vl_len]; exact hj), rfl, ?_⟩
            rw [vl_set, vl_set]
            refine ⟨.ref l, rfl, false, l, vl (exch o' i j), rfl, upd_same, fun z => (nomatch z), fun _ x ob hd hx => ?_⟩
            have g2 := (c0.then g1).then (Go.new (o := .tup [V.int (o'.getD j 0 : Nat), V.int (o'.getD i 0 : Nat)]) g1.1 hn)
            have g3 := (g2.put (o := .lst (vl (o'.set i (o'.getD j 0)))) hl0 ht pt).put (o := .lst (vl (exch o' i j))) hl0 ht pt
            have g4 := Go.new (o := .frz ob (.tup (vl (exch o' i j)))) g3.tab hx
            exact ⟨.ref x, rfl, k _ x (exch o' i j) (g3.then g4) ⟨ob, hd, upd_same⟩ (ord_exch io' hi hj) (by rw [len_exch]; exact l8)⟩
          · rw [decide_eq_false (fun z => w4 (by injection z with z; omega))]
            refine iteF ?_
            exact ⟨.ref p', rfl, k _ p' o' c8 ep' io' l8⟩
end
end Lb

set_option Elab.async false
set_option linter.all false
set_option maxRecDepth 100000
set_option maxHeartbeats 4000000
namespace Lb
theorem chs_of : ∀ {ps l : List Nat}, ps.Sublist l → ps ∈ chs l ps.length
  | [], l, _ => .head _
  | x :: s, l, h => by
    obtain ⟨r1, r2, e, hx, hs⟩ := List.cons_sublist_iff.mp h
    obtain ⟨a, ha⟩ := List.getElem?_of_mem hx
    have al := (List.getElem?_eq_some_iff.mp ha).1
    have hsl := hs.length_le
    show x :: s ∈ (List.range (l.length - s.length)).flatMap fun a => (chs (l.drop (a + 1)) s.length).map fun r => l.getD a 0 :: r
    refine List.mem_flatMap.mpr ⟨a, List.mem_range.mpr (by rw [e, List.length_append]; omega), ?_⟩
    refine List.mem_map.mpr ⟨s, chs_of ?_, ?_⟩
    · refine hs.trans ?_
      rw [e]
      have z : (r1 ++ r2).drop (a + 1) = r1.drop (a + 1) ++ r2 := List.drop_append_of_le_length (by omega)
      rw [z]
      exact List.sublist_append_right _ _
    · have : l.getD a 0 = x := at_of (by rw [e, List.getElem?_append_left al]; exact ha)
      rw [this]
theorem ris_range (n : Nat) : Ris (List.range n) := List.pairwise_lt_range
theorem ris_eq {a b : List Nat} (ha : Ris a) (hb : Ris b) (p : a.Perm b) : a = b := List.Perm.eq_of_pairwise (le := (· < ·)) (fun x y _ _ h1 h2 => absurd h1 (by omega)) ha hb p
theorem ris_nodup {a : List Nat} (h : Ris a) : a.Nodup := List.Pairwise.imp (fun z => Nat.ne_of_lt z) h
theorem ris_sub {ps : List Nat} {n : Nat} (r : Ris ps) (hb : ∀ p ∈ ps, p < n) : ps.Sublist (List.range n) := by
  have e : ps = (List.range n).filter fun k => decide (k ∈ ps) := by
    refine ris_eq r (List.Pairwise.filter _ (ris_range n)) ((List.perm_ext_iff_of_nodup (ris_nodup r) (List.Pairwise.filter _ List.nodup_range)).mpr fun a => ?_)
    rw [List.mem_filter, List.mem_range]
    exact ⟨fun h => ⟨hb a h, decide_eq_true h⟩, fun h => of_decide_eq_true h.2⟩
  rw [e]
  exact List.filter_sublist
theorem chs_sub : ∀ {n : Nat} {l r : List Nat}, r ∈ chs l n → r.Sublist l
  | 0, l, r, h => by
    rw [List.mem_singleton.mp h]
    exact List.nil_sublist _
  | n + 1, l, r, h => by
    obtain ⟨a, ha, h⟩ := List.mem_flatMap.mp h
    obtain ⟨s, hs, rfl⟩ := List.mem_map.mp h
    have ha := List.mem_range.mp ha
    have z := chs_sub hs
    have e : l.drop a = l.getD a 0 :: l.drop (a + 1) := by
      rw [List.drop_eq_getElem_cons (by omega)]
      congr 1
      exact (at_of (List.getElem?_eq_getElem (by omega))).symm
    refine List.Sublist.trans ?_ (List.drop_sublist a l)
    rw [e]
    exact z.cons_cons _
theorem stds_ris {o w ps : List Nat} (h : ps ∈ stds o w) : Ris ps ∧ (∀ p ∈ ps, p < o.length) ∧ ps.length = w.length ∧ low (at_ o ps) = w := by
  unfold stds at h
  obtain ⟨h1, h2⟩ := List.mem_filter.mp h
  exact ⟨(ris_range _).sublist (chs_sub h1), fun p hp => List.mem_range.mp (chs_lt h1 p hp), chs_mem h1, of_decide_eq_true h2⟩
theorem stds_of {o w ps : List Nat} (r : Ris ps) (hb : ∀ p ∈ ps, p < o.length) (l : ps.length = w.length) (e : low (at_ o ps) = w) : ps ∈ stds o w := by
  unfold stds
  refine List.mem_filter.mpr ⟨?_, decide_eq_true e⟩
  rw [← l]
  exact chs_of (ris_sub r hb)
/-! ### undone and turned -/
theorem std_in {o w u ps rs : List Nat} (h : ps ∈ stds o w) (h2 : rs ∈ stds w u) : at_ ps rs ∈ stds o u := by
  obtain ⟨r, hb, l, e⟩ := stds_ris h
  obtain ⟨r2, hb2, l2, e2⟩ := stds_ris h2
  have hin : ∀ k, k < rs.length → rs.getD k 0 < ps.length := fun k hk => by
    rw [l]
    exact hb2 _ (List.mem_of_getElem? (getD_of hk))
  refine stds_of ?_ (fun p hp => ?_) ?_ ?_
  · refine List.pairwise_iff_getElem.mpr fun i j hi hj ij => ?_
    rw [len_at] at hi hj
    have a := at_at (o := ps) (ps := rs) hi
    have b := at_at (o := ps) (ps := rs) hj
    rw [List.getD_eq_getElem?_getD, List.getElem?_eq_getElem (by rw [len_at]; exact hi)] at a
    rw [List.getD_eq_getElem?_getD, List.getElem?_eq_getElem (by rw [len_at]; exact hj)] at b
    simp only [Option.getD_some] at a b
    rw [a, b]
    exact (ris_cmp r (hin i hi) (hin j hj)).mpr (ris_lt r2 ij hj)
  · unfold at_ at hp
    obtain ⟨k, hk, rfl⟩ := List.mem_map.mp hp
    exact hb _ (List.mem_of_getElem? (getD_of (by rw [l]; exact hb2 k hk)))
  · rw [len_at, l2]
  · rw [← e2]
    refine low_of (by rw [len_at, len_at, len_at]) fun i j hi hj => ?_
    rw [len_at, len_at] at hi hj
    have la := len_at o ps
    rw [at_at (o := o) (ps := at_ ps rs) (k := i) (by rw [len_at]; exact hi), at_at (o := o) (ps := at_ ps rs) (k := j) (by rw [len_at]; exact hj), at_at (o := ps) (ps := rs) hi, at_at (o := ps) (ps := rs) hj, at_at (o := w) (ps := rs) hi, at_at (o := w) (ps := rs) hj]
    have c := low_lt (xs := at_ o ps) (i := rs.getD i 0) (j := rs.getD j 0) (by rw [la]; exact hin i hi) (by rw [la]; exact hin j hj)
    rw [at_at (hin i hi), at_at (hin j hj), e] at c
    exact c
def tko (o : List Nat) (p : Nat) : List Nat := (o.filter fun x => decide (x ≠ o.getD p 0)).map fun x => if o.getD p 0 < x then x - 1 else x
theorem nodup_ord {o : List Nat} (io : IsOrd o) : o.Nodup := io.perm.nodup_iff.mpr List.nodup_range'
theorem filt_at {o : List Nat} (io : IsOrd o) {p : Nat} (hp : p < o.length) : (o.filter fun x => decide (x ≠ o.getD p 0)) = at_ o ((List.range o.length).filter fun k => decide (k ≠ p)) := by
  have e : o = (List.range o.length).map fun i => o.getD i 0 := (map_getD o).symm
  unfold at_
  have z : (o.filter fun x => decide (x ≠ o.getD p 0)) = ((List.range o.length).map fun i => o.getD i 0).filter fun x => decide (x ≠ o.getD p 0) := by rw [← e]
  rw [z, List.filter_map]
  congr 1
  refine List.filter_congr fun k hk => ?_
  show decide (o.getD k 0 ≠ o.getD p 0) = decide (k ≠ p)
  by_cases c : k = p
  · subst c
    rw [decide_eq_false (fun z => z rfl), decide_eq_false (fun z => z rfl)]
  · rw [decide_eq_true (show k ≠ p from c)]
    exact decide_eq_true (show o.getD k 0 ≠ o.getD p 0 from fun z => c (io.inj (List.mem_range.mp hk) hp z))
theorem cnt_ord {o : List Nat} (io : IsOrd o) {x : Nat} (hx : x ∈ o) : cnt o x + 1 = x := by
  obtain ⟨k, hk⟩ := List.getElem?_of_mem hx
  have hl := (List.getElem?_eq_some_iff.mp hk).1
  have z := low_at (xs := o) hl
  rw [low_ord io, at_of hk] at z
  exact z.symm
theorem tko_low {o : List Nat} (io : IsOrd o) {p : Nat} (hp : p < o.length) : tko o p = low (at_ o ((List.range o.length).filter fun k => decide (k ≠ p))) := by
  rw [← filt_at io hp]
  have mg : o.getD p 0 ∈ o := List.mem_of_getElem? (getD_of hp)
  have tk : tko o p = (o.filter fun x => decide (x ≠ o.getD p 0)).map fun x => if o.getD p 0 < x then x - 1 else x := rfl
  rw [tk]
  generalize o.getD p 0 = g at mg
  unfold low
  have ee : o.erase g = o.filter fun x => decide (x ≠ g) := by
    rw [(nodup_ord io).erase_eq_filter]
    refine List.filter_congr fun x _ => ?_
    by_cases c : x = g
    · subst c
      simp
    · simp [c]
  have pr := List.perm_cons_erase mg
  rw [ee] at pr
  refine List.map_congr_left fun x hx => ?_
  obtain ⟨hx1, hx2⟩ := List.mem_filter.mp hx
  have ne : x ≠ g := of_decide_eq_true hx2
  have c1 := cnt_ord io hx1
  rw [cnt_perm pr] at c1
  have c2 : cnt (g :: o.filter fun x => decide (x ≠ g)) x = cnt (o.filter fun x => decide (x ≠ g)) x + if g < x then 1 else 0 := by
    unfold cnt
    by_cases c : g < x
    · rw [List.filter_cons_of_pos (by exact decide_eq_true c), if_pos c]
      rfl
    · rw [List.filter_cons_of_neg (by exact fun z => c (of_decide_eq_true z)), if_neg c]
      rfl
  rw [c2] at c1
  by_cases c : g < x
  · rw [if_pos c] at c1 ⊢
    omega
  · rw [if_neg c] at c1 ⊢
    omega
theorem len_out {n p : Nat} (hp : p < n) : ((List.range n).filter fun k => decide (k ≠ p)).length = n - 1 := by
  have ee : (List.range n).erase p = (List.range n).filter fun k => decide (k ≠ p) := by
    rw [List.nodup_range.erase_eq_filter]
    refine List.filter_congr fun x _ => ?_
    by_cases c : x = p
    · subst c
      simp
    · simp [c]
  rw [← ee, List.length_erase_of_mem (List.mem_range.mpr hp), List.length_range]
theorem tko_std {o : List Nat} (io : IsOrd o) {p : Nat} (hp : p < o.length) : ((List.range o.length).filter fun k => decide (k ≠ p)) ∈ stds o (tko o p) := by
  refine stds_of (List.Pairwise.filter _ (ris_range _)) (fun k hk => List.mem_range.mp (List.mem_filter.mp hk).1) ?_ (tko_low io hp).symm
  rw [tko_low io hp, len_low, len_at]
theorem ord_tko {o : List Nat} (io : IsOrd o) {p : Nat} (hp : p < o.length) (h2 : 2 ≤ o.length) : IsOrd (tko o p) := by
  have l9 := io.hi
  rw [tko_low io hp]
  refine low_is_ord (inj_at io (List.Pairwise.filter _ (ris_range _)) fun k hk => List.mem_range.mp (List.mem_filter.mp hk).1) ?_ ?_
  · rw [len_at, len_out hp]
    omega
  · rw [len_at, len_out hp]
    omega

theorem rsd_at {o : List Nat} {pl th p : Nat} (h : pl ≤ o.length) (hp : p < o.length + 1) : (rsd o pl th).getD p 0 = if p < pl then up1 th (o.getD p 0) else if p = pl then th else up1 th (o.getD (p - 1) 0) := by
  have lm : (o.map (up1 th)).length = o.length := List.length_map _
  have lt : ((o.map (up1 th)).take pl).length = pl := by rw [List.length_take]; omega
  have mg : ∀ k, k < o.length → (o.map (up1 th))[k]? = some (up1 th (o.getD k 0)) := fun k hk => by
    rw [List.getElem?_map, getD_of hk]
    rfl
  unfold rsd
  refine at_of ?_
  by_cases c : p < pl
  · rw [if_pos c, List.append_assoc, List.getElem?_append_left (by omega), List.getElem?_take_of_lt c, mg p (by omega)]
  · rw [if_neg c]
    by_cases c2 : p = pl
    · rw [if_pos c2, List.append_assoc, List.getElem?_append_right (by omega), lt, c2, Nat.sub_self]
      rfl
    · rw [if_neg c2, List.getElem?_append_right (by rw [List.length_append, lt]; show pl + 1 ≤ p; omega), List.getElem?_drop, List.length_append, lt]
      show (o.map (up1 th))[pl + (p - (pl + 1))]? = _
      rw [show pl + (p - (pl + 1)) = p - 1 by omega, mg (p - 1) (by omega)]
theorem up1_ne (th x : Nat) : up1 th x ≠ th := by
  unfold up1
  split <;> omega
theorem up1_back (th x : Nat) : (if th < up1 th x then up1 th x - 1 else up1 th x) = x := by
  unfold up1
  by_cases c : th ≤ x
  · rw [if_pos c, if_pos (by omega)]
    omega
  · rw [if_neg c, if_neg (by omega)]
theorem tko_rsd {o : List Nat} {pl th : Nat} (h : pl ≤ o.length) : tko (rsd o pl th) pl = o := by
  have e : (rsd o pl th).getD pl 0 = th := by rw [rsd_at h (by omega), if_neg (by omega), if_pos rfl]
  unfold tko
  rw [e]
  have keep : ∀ l : List Nat, ((l.map (up1 th)).filter fun x => decide (x ≠ th)) = l.map (up1 th) := fun l => List.filter_eq_self.mpr fun x hx => by
    obtain ⟨y, _, rfl⟩ := List.mem_map.mp hx
    exact decide_eq_true (up1_ne th y)
  have e1 : rsd o pl th = (o.take pl).map (up1 th) ++ [th] ++ (o.drop pl).map (up1 th) := by
    unfold rsd
    rw [← List.map_take, ← List.map_drop]
  rw [e1, List.filter_append, List.filter_append, keep, keep, List.filter_cons_of_neg (by simp), List.filter_nil, List.append_nil, ← List.map_append, List.take_append_drop, List.map_map]
  have z : o.map ((fun x => if th < x then x - 1 else x) ∘ up1 th) = o.map id := List.map_congr_left fun x _ => up1_back th x
  rw [z, List.map_id]
theorem std_rsd {o w ps : List Nat} {pl th : Nat} (io : IsOrd o) (h8 : o.length ≤ 8) (h : pl ≤ o.length) (h1 : 1 ≤ th) (h2 : th ≤ o.length + 1) (hp : ps ∈ stds o w) : stds (rsd o pl th) w ≠ [] := fun z => by
  have ir := ord_rsd (pl := pl) io h8 h1 h2
  have t := tko_std ir (p := pl) (by rw [len_rsd]; omega)
  rw [tko_rsd h] at t
  have y := std_in t hp
  rw [z] at y
  cases y
/-! ### level -/
def inv : List Nat → Nat
  | [] => 0
  | x :: r => cnt r x + inv r
theorem sm_range_succ (f : Nat → Nat) (n : Nat) : sm (List.range (n + 1)) f = f 0 + sm (List.range n) fun i => f (i + 1) := by
  rw [List.range_succ_eq_map, sm_cons, sm_map]
theorem inv_sm : ∀ o : List Nat, inv o = sm (List.range o.length) fun a => cnt (o.drop (a + 1)) (o.getD a 0)
  | [] => rfl
  | x :: r => by
    rw [List.length_cons, sm_range_succ]
    show cnt r x + inv r = _
    rw [inv_sm r]
    rfl
theorem lev_inv (o : List Nat) : lev o = inv o := by
  rw [inv_sm]
  unfold lev wps
  rw [len_flat]
  refine sm_congr fun a ha => ?_
  have hl := List.mem_range.mp ha
  unfold row
  rw [List.length_map, cnt_idx, List.length_drop]
  congr 1
  refine List.filter_congr fun b hb => ?_
  have hb := List.mem_range.mp hb
  have e : (o.drop (a + 1)).getD b 0 = o.getD (a + 1 + b) 0 := by
    rw [List.getD_eq_getElem?_getD, List.getElem?_drop, List.getD_eq_getElem?_getD]
  rw [e]
theorem cnt_app (a b : List Nat) (x : Nat) : cnt (a ++ b) x = cnt a x + cnt b x := by
  unfold cnt
  rw [List.filter_append, List.length_append]
theorem cnt_cons (y : Nat) (b : List Nat) (x : Nat) : cnt (y :: b) x = (if y < x then 1 else 0) + cnt b x := by
  unfold cnt
  by_cases c : y < x
  · rw [List.filter_cons_of_pos (by exact decide_eq_true c), if_pos c, List.length_cons]
    omega
  · rw [List.filter_cons_of_neg (by exact fun z => c (of_decide_eq_true z)), if_neg c]
    omega
def ovr (a : List Nat) (x : Nat) : Nat := (a.filter fun y => decide (x < y)).length
theorem inv_in (th : Nat) (b : List Nat) : ∀ a : List Nat, inv (a ++ th :: b) = inv (a ++ b) + (ovr a th + cnt b th)
  | [] => by
    show cnt b th + inv b = inv b + (0 + cnt b th)
    omega
  | x :: r => by
    show cnt (r ++ th :: b) x + inv (r ++ th :: b) = (cnt (r ++ b) x + inv (r ++ b)) + (ovr (x :: r) th + cnt b th)
    rw [inv_in th b r, cnt_app, cnt_app, cnt_cons]
    have : ovr (x :: r) th = (if th < x then 1 else 0) + ovr r th := by
      unfold ovr
      by_cases c : th < x
      · rw [List.filter_cons_of_pos (by exact decide_eq_true c), if_pos c, List.length_cons]
        omega
      · rw [List.filter_cons_of_neg (by exact fun z => c (of_decide_eq_true z)), if_neg c]
        omega
    omega
theorem up1_lt (th x y : Nat) : up1 th x < up1 th y ↔ x < y := by
  unfold up1
  split <;> split <;> omega
theorem inv_up (th : Nat) : ∀ l : List Nat, inv (l.map (up1 th)) = inv l
  | [] => rfl
  | x :: r => by
    show cnt (r.map (up1 th)) (up1 th x) + inv (r.map (up1 th)) = cnt r x + inv r
    rw [inv_up th r]
    congr 1
    unfold cnt
    rw [List.filter_map, List.length_map]
    congr 1
    refine List.filter_congr fun y _ => ?_
    show decide (up1 th y < up1 th x) = decide (y < x)
    by_cases c : y < x
    · rw [decide_eq_true c, decide_eq_true ((up1_lt th y x).mpr c)]
    · rw [decide_eq_false c, decide_eq_false (fun z => c ((up1_lt th y x).mp z))]
theorem lev_rsd {o : List Nat} {pl th : Nat} (h : pl ≤ o.length) : lev (rsd o pl th) = lev o + (ovr ((rsd o pl th).take pl) th + cnt ((rsd o pl th).drop pl) th) := by
  rw [lev_inv, lev_inv]
  have lt : ((o.map (up1 th)).take pl).length = pl := by rw [List.length_take, List.length_map]; omega
  have e1 : rsd o pl th = (o.map (up1 th)).take pl ++ th :: (o.map (up1 th)).drop pl := by
    unfold rsd
    rw [List.append_assoc]
    rfl
  rw [e1, inv_in, List.take_append_drop, inv_up, List.take_left' lt, List.drop_left' lt, cnt_cons, if_neg (Nat.lt_irrefl _)]
  omega
/-! ### undone -/
theorem und_rsd {o : List Nat} {pl th : Nat} (io : IsOrd o) (h8 : o.length ≤ 8) (h : pl ≤ o.length) (h1 : 1 ≤ th) (h2 : th ≤ o.length + 1) : und (rsd o pl th) = rsd (und o) (th - 1) (pl + 1) := by
  have ir := ord_rsd (pl := pl) io h8 h1 h2
  have lu := len_und o
  have lr := len_rsd (o := o) (pl := pl) (th := th)
  refine und_is ir (by rw [len_rsd, len_rsd, lu]) fun k hk => ?_
  rw [lr] at hk ⊢
  rw [rsd_at (o := und o) (by omega) (by omega)]
  have iu := ord_und io
  by_cases c : k < th - 1
  · rw [if_pos c]
    have s := iu.sm (k := k) (by omega)
    have e := at_und_sub io (k := k) (by omega)
    rw [lu] at s
    generalize (und o).getD k 0 = v at s e
    unfold up1
    by_cases d : pl + 1 ≤ v
    · rw [if_pos d]
      refine ⟨by omega, by omega, ?_⟩
      rw [rsd_at h (by omega), if_neg (by omega), if_neg (by omega), show v + 1 - 1 - 1 = v - 1 by omega, e]
      unfold up1
      rw [if_neg (by omega)]
    · rw [if_neg d]
      refine ⟨by omega, by omega, ?_⟩
      rw [rsd_at h (by omega), if_pos (by omega), e]
      unfold up1
      rw [if_neg (by omega)]
  · rw [if_neg c]
    by_cases c2 : k = th - 1
    · rw [if_pos c2]
      refine ⟨by omega, by omega, ?_⟩
      rw [rsd_at h (by omega), if_neg (by omega), if_pos (by omega)]
      omega
    · rw [if_neg c2]
      have s := iu.sm (k := k - 1) (by omega)
      have e := at_und_sub io (k := k - 1) (by omega)
      rw [lu] at s
      generalize (und o).getD (k - 1) 0 = v at s e
      unfold up1
      by_cases d : pl + 1 ≤ v
      · rw [if_pos d]
        refine ⟨by omega, by omega, ?_⟩
        rw [rsd_at h (by omega), if_neg (by omega), if_neg (by omega), show v + 1 - 1 - 1 = v - 1 by omega, e]
        unfold up1
        rw [if_pos (by omega)]
        omega
      · rw [if_neg d]
        refine ⟨by omega, by omega, ?_⟩
        rw [rsd_at h (by omega), if_pos (by omega), e]
        unfold up1
        rw [if_pos (by omega)]
        omega
/-! ### taken out one by one -/
theorem low_low {xs rs : List Nat} (hb : ∀ k ∈ rs, k < xs.length) : low (at_ (low xs) rs) = low (at_ xs rs) := by
  refine low_of (by rw [len_at, len_at]) fun i j hi hj => ?_
  rw [len_at] at hi hj
  rw [at_at (o := low xs) (ps := rs) hi, at_at (o := low xs) (ps := rs) hj, at_at (o := xs) (ps := rs) hi, at_at (o := xs) (ps := rs) hj]
  exact (low_lt (hb _ (List.mem_of_getElem? (getD_of hi))) (hb _ (List.mem_of_getElem? (getD_of hj)))).symm
theorem filt_ris {l : List Nat} (r : Ris l) {j : Nat} (hj : j < l.length) : (l.filter fun x => decide (x ≠ l.getD j 0)) = at_ l ((List.range l.length).filter fun k => decide (k ≠ j)) := by
  have e : l = (List.range l.length).map fun i => l.getD i 0 := (map_getD l).symm
  unfold at_
  have z : (l.filter fun x => decide (x ≠ l.getD j 0)) = ((List.range l.length).map fun i => l.getD i 0).filter fun x => decide (x ≠ l.getD j 0) := by rw [← e]
  rw [z, List.filter_map]
  congr 1
  refine List.filter_congr fun k hk => ?_
  show decide (l.getD k 0 ≠ l.getD j 0) = decide (k ≠ j)
  have hk := List.mem_range.mp hk
  by_cases c : k = j
  · subst c
    rw [decide_eq_false (fun z => z rfl), decide_eq_false (fun z => z rfl)]
  · rw [decide_eq_true (show k ≠ j from c)]
    refine decide_eq_true (show l.getD k 0 ≠ l.getD j 0 from fun z => ?_)
    have c1 := ris_cmp r hk hj
    have c2 := ris_cmp r hj hk
    omega
theorem at_map (o l rs : List Nat) (hb : ∀ k ∈ rs, k < l.length) : at_ (at_ o l) rs = at_ o (at_ l rs) := by
  unfold at_
  rw [List.map_map]
  refine List.map_congr_left fun k hk => ?_
  show (l.map fun p => o.getD p 0).getD k 0 = o.getD (l.getD k 0) 0
  exact at_of (by rw [List.getElem?_map, getD_of (hb k hk)]; rfl)
theorem tko_left {o l : List Nat} {j : Nat} (io : IsOrd o) (r : Ris l) (hb : ∀ p ∈ l, p < o.length) (hj : j < l.length) (h9 : l.length ≤ 9) : tko (low (at_ o l)) j = low (at_ o (l.filter fun x => decide (x ≠ l.getD j 0))) := by
  have la := len_at o l
  have il := low_is_ord (inj_at io r hb) (by omega) (by omega)
  have ll := len_low (at_ o l)
  rw [tko_low il (by omega), ll, la, low_low (xs := at_ o l) (fun k hk => by rw [la]; exact List.mem_range.mp (List.mem_filter.mp hk).1), at_map o l _ (fun k hk => List.mem_range.mp (List.mem_filter.mp hk).1), ← filt_ris r hj]
theorem at_all (o : List Nat) : at_ o (List.range o.length) = o := map_getD o
theorem left_more {l ps : List Nat} (r : Ris l) (s : ps.Sublist l) : (l.filter fun x => decide (x ∉ ps)).length + ps.length = l.length := by
  have e : (l.filter fun x => decide (x ∈ ps)) = ps := by
    have rp : Ris ps := List.Pairwise.sublist s r
    refine ris_eq (List.Pairwise.filter _ r) rp ((List.perm_ext_iff_of_nodup (List.Pairwise.filter _ (ris_nodup r)) (ris_nodup rp)).mpr fun a => ?_)
    rw [List.mem_filter]
    exact ⟨fun h => of_decide_eq_true h.2, fun h => ⟨s.subset h, decide_eq_true h⟩⟩
  have z : ∀ l : List Nat, (l.filter fun x => decide (x ∉ ps)).length + (l.filter fun x => decide (x ∈ ps)).length = l.length := by
    intro l
    induction l with
    | nil => rfl
    | cons a t ih =>
      by_cases c : a ∈ ps
      · rw [List.filter_cons_of_neg (by simp [c]), List.filter_cons_of_pos (by exact decide_eq_true c), List.length_cons, List.length_cons]
        omega
      · rw [List.filter_cons_of_pos (by exact decide_eq_true c), List.filter_cons_of_neg (by simp [c]), List.length_cons, List.length_cons]
        omega
  have y := z l
  rw [e] at y
  exact y
theorem left_sub {l ps : List Nat} (s : ps.Sublist l) {g : Nat} (hg : g ∉ ps) : ps.Sublist (l.filter fun x => decide (x ≠ g)) := by
  have z := s.filter fun x => decide (x ≠ g)
  rw [List.filter_eq_self.mpr fun x hx => decide_eq_true (show x ≠ g from fun e => hg (by rw [← e]; exact hx))] at z
  exact z
end Lb

set_option Elab.async false
set_option linter.all false
set_option maxRecDepth 100000
set_option maxHeartbeats 4000000
namespace Lb
open PySem PySem.Spec PyProof.Rows L2

abbrev s_undone : Stmt := topS 34
theorem sc_undone : FnScope ["order", "thing"] ["order"] (defScope s_undone) := ⟨rfl, rfl, rfl, by decide +kernel, rfl, by decide +kernel, by decide +kernel⟩
abbrev s_wrong_pairs : Stmt := topS 32
theorem sc_wrong_pairs : FnScope ["order", "size", "i", "j"] ["order"] (defScope s_wrong_pairs) := ⟨rfl, rfl, rfl, by decide +kernel, rfl, by decide +kernel, by decide +kernel⟩
abbrev s_level : Stmt := topS 33
theorem sc_level : FnScope ["order"] ["order"] (defScope s_level) := ⟨rfl, rfl, rfl, by decide +kernel, rfl, by decide +kernel, by decide +kernel⟩
abbrev s_check_place : Stmt := topS 20
theorem sc_check_place : FnScope ["order", "place"] ["order", "place"] (defScope s_check_place) := ⟨rfl, rfl, rfl, by decide +kernel, rfl, by decide +kernel, by decide +kernel⟩
abbrev s_put_in : Stmt := topS 29
theorem sc_put_in : FnScope ["order", "place", "thing", "raised", "other"] ["order", "place", "thing"] (defScope s_put_in) := ⟨rfl, rfl, rfl, by decide +kernel, rfl, by decide +kernel, by decide +kernel⟩
abbrev s_taken_out : Stmt := topS 30
theorem sc_taken_out : FnScope ["order", "place", "gone", "thing"] ["order", "place"] (defScope s_taken_out) := ⟨rfl, rfl, rfl, by decide +kernel, rfl, by decide +kernel, by decide +kernel⟩
abbrev s_putr : Stmt := topS 46
theorem sc_putr : FnScope ["_law_pot_here", "_law_order_here", "_law_size", "_law_place", "_law_thing", "_law_due", "_law_passed_here", "_law_ahead", "_law_way", "_law_other"] ["_law_pot_here", "_law_order_here"] (defScope s_putr) := ⟨rfl, rfl, rfl, by decide +kernel, rfl, by decide +kernel, by decide +kernel⟩
abbrev s_left : Stmt := topS 47
theorem sc_left : FnScope ["_law_pot_here", "_law_order_here", "_law_places", "_law_left", "_law_here", "_law_gone", "_law_place"] ["_law_pot_here", "_law_order_here"] (defScope s_left) := ⟨rfl, rfl, rfl, by decide +kernel, rfl, by decide +kernel, by decide +kernel⟩
abbrev s_built : Stmt := topS 48
theorem sc_built : FnScope ["_law_pot_here", "_law_size", "_law_here", "_law_due", "_law_turn", "_law_place", "_law_thing"] ["_law_pot_here"] (defScope s_built) := ⟨rfl, rfl, rfl, by decide +kernel, rfl, by decide +kernel, by decide +kernel⟩
abbrev s_right : Stmt := topS 49
theorem sc_right : FnScope ["_law_pot_here", "_law_turn", "_law_order_here"] ["_law_pot_here"] (defScope s_right) := ⟨rfl, rfl, rfl, by decide +kernel, rfl, by decide +kernel, by decide +kernel⟩
abbrev s_law : Stmt := topS 50
theorem sc_law : FnScope ["_law_script", "_law_k"] ["_law_script"] (defScope s_law) := ⟨rfl, rfl, rfl, by decide +kernel, rfl, by decide +kernel, by decide +kernel⟩
theorem vl_app (a b : List Nat) : vl a ++ vl b = vl (a ++ b) := by
  unfold vl
  rw [List.map_append, List.map_append]


theorem cut_to (l : List Nat) (k : Nat) (h : k ≤ l.length) : cutV (vl l) none (some (k : Int)) = vl (l.take k) := by
  have z := cut_mid l 0 k (Nat.zero_le _) h
  rw [List.drop_zero, Nat.sub_zero] at z
  exact z
section
variable {P : Program} {w : World} {K : PySem.W.Frag} {mg : Str → Option Value} {base : Heap} {T : Addr → Prop} {c fO fI : Addr} {fdO fdI : FuncData}
theorem ok_undone {f fC : Addr} {fd fdC : FuncData} (F : Fun K "undone" "undone" s_undone f fd) (C : Cd K mg fC fdC) (O : Io K mg base T c fO fI fdO fdI) : FnOk P w K mg base CX0 4 f fd ["order"] (spUnd T) := by
  have G : FnOk P w K mg base CX0 3 fC fdC ["order"] (spChk K T) := ok_check_order C.fn O
  refine F.ok sc_undone (fun vs H Q E h => ?_) (fun cdv A outer s H vs Q E hr h => ?_)
  · obtain ⟨b, a, o, rfl, _⟩ := h
    rfl
  · obtain ⟨b, a, o, rfl, ha, ho, ht, q⟩ := h
    refine ⟨_, pss_cons (ps_expr (pe_call G hr (by rfl) C.at_ C.fn.kp C.bind .nil pass0 (pa_cons (pv 0) pa_nil)))
      (pss_one (ps_ret (pe_tupF (by rfl) O.B.tuple
        (pe_lc (own := [("thing", 1)]) (g := gName 1) (tt := tYes) (by rfl) sc_undone.nd (pi_range2 (by rfl) O.B.range (pa_cons pe_int (pa_cons (pe_op op_add (pe_callB call_len (by rfl) O.B.len PySem.boot_len (pa_cons (pv 0) pa_nil)) pe_int) pa_nil)))
          (blkOk_by (own := [("thing", 1)]) (N := ["order", "thing"]) (sc := defScope s_undone) (by decide +kernel)) (fun _ _ _ _ _ => pg_name (i := 1) sc_undone.nd rfl (Or.inl rfl)) (fun _ _ _ _ _ => pts_nil)
          (fun _ _ _ _ _ => pe_op op_add (pe_idx (pv 0) (pa_cons (pv 1) pa_nil)) pe_int))))), ?_⟩
    refine ⟨.ref a, rfl, a, o, rfl, ha.lt, ho, ht, fun H1 g1 => ?_⟩
    have l1 := lenV_seq (K := K) (g1.ord ht ha).lt
    rw [vl_len] at l1
    have b9 := ho.hi
    refine ⟨.ref a, rfl, .ref a, _, rfl, l1, _, 1, rfl, rfl, 1, (o.length : Int) + 1, rfl, ⟨by omega, by omega, by omega, by omega⟩, fun D hD => ?_⟩
    refine lc_range (lo := 1) (n := ((o.length : Int) + 1 - 1).toNat) (fun i H => Made T H1 D ((und o).take i) H) (Made.start g1.1 hD) (fun i H hi m => ?_) (fun H m => ?_)
    · have hi' : i < o.length := by omega
      have mem := ho.mem (k := i + 1) (by omega) (by omega)
      have gd := m.go hD
      refine ⟨rfl, .ref a, rfl, b, a, o.map fun k : Nat => (k : Int), rfl, gd.ord g1.1 (g1.ord ht ha), .int (1 + (i : Int)), rfl, 1 + (i : Int), rfl, gd.ord g1.1 (g1.ord ht ha), List.mem_map.mpr ⟨i + 1, mem, by omega⟩, _, 1, rfl, rfl, ?_⟩
      have e : (o.map fun k : Nat => (k : Int)).idxOf (1 + (i : Int)) = o.idxOf (i + 1) := by
        rw [show (1 + (i : Int)) = ((i + 1 : Nat) : Int) by omega, idx_cast]
      rw [e]
      have more := m.more (k := o.idxOf (i + 1) + 1) hD g1.1 (Go.refl m.1)
      refine ⟨_, more.1, by rw [vl_len, List.length_take]; exact small9 (by omega), ?_⟩
      have at_ : (und o)[i]? = some (o.idxOf (i + 1) + 1) := by
        unfold und
        rw [List.getElem?_map, List.getElem?_range' hi']
        show some (o.idxOf (1 + 1 * i) + 1) = _
        rw [show 1 + 1 * i = i + 1 by omega]
      rw [take_snoc at_]
      exact more.2
    · have e : (und o).take ((o.length : Int) + 1 - 1).toNat = und o := List.take_of_length_le (by
        unfold und
        rw [List.length_map, List.length_range']
        omega)
      rw [e] at m
      refine ⟨false, D, vl (und o), rfl, m.2.2, fun z => (nomatch z), fun _ p ob hd hp => ?_⟩
      have g2 := g1.trans (m.go hD)
      exact q _ p (g2.trans (Go.new g2.1 hp)) (g2.free hp) ⟨ob, hd, upd_same⟩

def spWps (K : PySem.W.Frag) (T : Addr → Prop) : Sp := fun vs H Q _ => ∃ (a : Addr) (o : List Nat), vs = [.ref a] ∧ SeqLT K H a (vl o) ∧ IsOrd o ∧ Tabs H T ∧ ∀ H' p ts, Go T H H' → H p = none → H' p = some (.lst (ts.map V.ref)) → PairsAt H' ts (wps o) → Q (.ref p) H'
theorem ok_wrong_pairs {f fC : Addr} {fd fdC : FuncData} (F : Fun K "wrong_pairs" "wrong_pairs" s_wrong_pairs f fd) (C : Cd K mg fC fdC) (O : Io K mg base T c fO fI fdO fdI) : FnOk P w K mg base CX0 4 f fd ["order"] (spWps K T) := by
  have G : FnOk P w K mg base CX0 3 fC fdC ["order"] (spChk K T) := ok_check_order C.fn O
  refine F.ok sc_wrong_pairs (fun vs H Q E h => ?_) (fun cdv A outer s H vs Q E hr h => ?_)
  · obtain ⟨a, o, rfl, _⟩ := h
    rfl
  · obtain ⟨a, o, rfl, ha, ho, ht, q⟩ := h
    refine ⟨_, pss_cons (ps_expr (pe_call G hr (by rfl) C.at_ C.fn.kp C.bind .nil pass0 (pa_cons (pv 0) pa_nil)))
      (pss_cons (ps_set (i := 1) sc_wrong_pairs.nd rfl (Or.inr rfl) (pe_callB call_len (by rfl) O.B.len PySem.boot_len (pa_cons (pv 0) pa_nil)))
      (pss_one (ps_ret (pe_lc2 (own := [("i", 2), ("j", 3)]) (vs1 := [3]) (g := gName 2) (g1 := gName 3) (tt := tYes) (by rfl) sc_wrong_pairs.nd (pi_range1 (by rfl) O.B.range (pa_cons (pv 1) pa_nil))
          (blkOk_by (own := [("i", 2), ("j", 3)]) (N := ["order", "size", "i", "j"]) (sc := defScope s_wrong_pairs) (by decide +kernel)) (by decide)
          (fun _ _ _ _ _ => pg_name (i := 2) sc_wrong_pairs.nd rfl (Or.inl rfl)) (fun _ _ _ _ _ => pts_nil)
          (fun _ _ _ _ _ => pi_range2 (by rfl) O.B.range (pa_cons (pe_op op_add (pv 2) pe_int) (pa_cons (pv 1) pa_nil)))
          (fun _ _ _ _ _ => pg_name (i := 3) sc_wrong_pairs.nd rfl (Or.inl rfl))
          (fun _ _ _ _ _ => pts_one (pt_cmpR op_gt (pe_ix (show IxR _ (rIx K) from ix_seq) (pv 0) (pv 2) (fun _ _ => rfl)) (pe_ix (show IxR _ (rIx K) from ix_seq) (pv 0) (pv 3) (fun _ _ => rfl)) (nomark _)))
          (fun _ _ _ _ _ => pe_tup (pa_cons (pv 2) (pa_cons (pv 3) pa_nil))))))), ?_⟩
    refine ⟨.ref a, rfl, a, o, rfl, ha, ho, ht, fun H1 g1 => ?_⟩
    have l1 := lenV_seq (K := K) (g1.lt ht ha)
    rw [vl_len] at l1
    have b9 := ho.hi
    refine ⟨.ref a, rfl, .ref a, _, rfl, l1, ?_⟩
    refine ⟨.int (o.length : Int), rfl, (o.length : Int), rfl, by omega, by omega, fun D hD => ?_⟩
    have a1 := g1.lt ht ha
    refine ⟨fun i m H => m = o.length - i ∧ i ≤ o.length ∧ PMade T H1 D (wpTo o i 0) H, ⟨_, rfl, Nat.zero_le _, ?_⟩, ?_⟩
    · exact ⟨(Go.new (o := .lst []) g1.1 hD).1, fun b u _ e => by rw [upd_ne (ne_of_none e hD)]; exact e, [], upd_same, .nil⟩
    · rintro i m H2 ⟨rfl, hi, pm⟩
      by_cases hlt : i < o.length
      · refine .inr ⟨by show i < ((o.length : Int)).toNat; omega, fun H => PMade T H1 D (wpTo o (i + 1) 0) H, fun H' p' => ⟨_, by omega, rfl, hlt, p'⟩, ?_⟩
        rintro x H' ⟨rfl, rfl⟩
        refine ⟨rfl, .int (0 + (i : Int)), rfl, _, 1, rfl, rfl, .int (o.length : Int), rfl, _, _, rfl, ⟨by omega, by omega, by omega, by omega⟩, ?_⟩
        refine ⟨fun j k H => k = (o.length - (i + 1)) - j ∧ j ≤ o.length - (i + 1) ∧ PMade T H1 D (wpTo o i j) H, ⟨_, rfl, Nat.zero_le _, pm⟩, ?_⟩
        rintro j k H3 ⟨rfl, hj, pm3⟩
        by_cases hjt : j < o.length - (i + 1)
        · refine .inr ⟨by show j < ((o.length : Int) - (0 + (i : Int) + 1)).toNat; omega, fun H => PMade T H1 D (wpTo o i (j + 1)) H, fun H' p' => ⟨_, by omega, rfl, hjt, p'⟩, ?_⟩
          rintro x H' ⟨rfl, rfl⟩
          have a3 : SeqLT K H' a (vl o) := Go.lt ⟨pm3.tab, pm3.old⟩ g1.1 a1
          have hp : i + 1 + j < o.length := by omega
          refine ⟨rfl, .ref a, rfl, .int (0 + (i : Int)), rfl, ix_at a3 hlt (by omega) ⟨.ref a, rfl, .int (0 + (i : Int) + 1 + (j : Int)), rfl, ix_at a3 hp (by omega) ⟨_, _, rfl, rfl, _, rfl, ?_⟩⟩⟩
          have more := wpTo_more o i j
          by_cases hgt : o.getD i 0 > o.getD (i + 1 + j) 0
          · rw [decide_eq_true (show ((o.getD (i + 1 + j) 0 : Nat) : Int) < ((o.getD i 0 : Nat) : Int) by omega)]
            refine iteT ⟨.int (0 + (i : Int)), rfl, .int (0 + (i : Int) + 1 + (j : Int)), rfl, by show 2 ≤ sizeLine; decide, fun t hn => ?_⟩
            obtain ⟨ts, e1, e2⟩ := pm3.new
            have nDt : D ≠ t := ne_of_none e1 hn
            have nTt : ¬ T t := tab_ne pm3.tab hn
            have nTD : ¬ T D := tab_ne g1.1 hD
            refine ⟨ts.map V.ref, by rw [upd_ne nDt]; exact e1, ?_, ?_, ?_, ts ++ [t], ?_, ?_⟩
            · rw [List.length_map, Paired.length e2]
              exact small9 (Nat.le_trans (wpTo_le b9 (by omega) (by omega)) (by omega))
            · exact (pm3.tab.put nTt).put nTD
            · intro b u n e
              rw [upd_ne (ne_of_none e hD), upd_ne (ne_of_none (pm3.old b u n e) hn)]
              exact pm3.old b u n e
            · rw [upd_same, List.map_append]
              rfl
            · rw [more, if_pos hgt]
              refine Paired.snoc (e2.keep fun b xs e => ?_) ?_
              · rw [upd_ne (ne_of e e1 (by intro z; cases z)), upd_ne (ne_of_none e hn)]
                exact e
              · show upd _ D _ t = some (.tup [V.int ((i : Nat) : Int), V.int ((i + 1 + j : Nat) : Int)])
                rw [upd_ne nDt.symm, upd_same, show (0 + (i : Int)) = ((i : Nat) : Int) by omega, show (((i : Nat) : Int) + 1 + (j : Int)) = ((i + 1 + j : Nat) : Int) by omega]
          · rw [decide_eq_false (show ¬ ((o.getD (i + 1 + j) 0 : Nat) : Int) < ((o.getD i 0 : Nat) : Int) by omega)]
            refine iteF ?_
            show PMade T H1 D (wpTo o i (j + 1)) H'
            rw [more, if_neg hgt, List.append_nil]
            exact pm3
        · refine .inl ⟨by show ((o.length : Int) - (0 + (i : Int) + 1)).toNat ≤ j; omega, ?_⟩
          show PMade T H1 D (wpTo o (i + 1) 0) H3
          rw [wpTo_next, show o.length - (i + 1) = j by omega]
          exact pm3
      · refine .inl ⟨by show ((o.length : Int)).toNat ≤ i; omega, ?_⟩
        have e : i = o.length := by omega
        rw [e, wpTo_end] at pm
        obtain ⟨ts, e1, e2⟩ := pm.new
        have g : Go T H1 H2 := ⟨pm.tab, pm.old⟩
        exact q H2 D ts (g1.trans g) (g1.free hD) e1 e2

def spLev (K : PySem.W.Frag) (T : Addr → Prop) : Sp := fun vs H Q _ => ∃ (a : Addr) (o : List Nat), vs = [.ref a] ∧ SeqLT K H a (vl o) ∧ IsOrd o ∧ Tabs H T ∧ ∀ H', Go T H H' → Q (.int (lev o : Nat)) H'
def Wd (K : PySem.W.Frag) (mg : Str → Option Value) (fC : Addr) (fdC : FuncData) : Prop := Df K mg "wrong_pairs" s_wrong_pairs ["order"] fC fdC
theorem ok_level {f fC fW : Addr} {fd fdC fdW : FuncData} (F : Fun K "level" "level" s_level f fd) (W : Wd K mg fW fdW) (C : Cd K mg fC fdC) (O : Io K mg base T c fO fI fdO fdI) : FnOk P w K mg base CX0 5 f fd ["order"] (spLev K T) := by
  have G : FnOk P w K mg base CX0 4 fW fdW ["order"] (spWps K T) := ok_wrong_pairs W.fn C O
  refine F.ok sc_level (fun vs H Q E h => ?_) (fun cdv A outer s H vs Q E hr h => ?_)
  · obtain ⟨a, o, rfl, _⟩ := h
    rfl
  · obtain ⟨a, o, rfl, ha, ho, ht, q⟩ := h
    refine ⟨_, pss_one (ps_ret (pe_callB call_len (by rfl) O.B.len PySem.boot_len (pa_cons (pe_call G hr (by rfl) W.at_ W.fn.kp W.bind .nil pass0 (pa_cons (pv 0) pa_nil)) pa_nil))), ?_⟩
    refine ⟨.ref a, rfl, a, o, rfl, ha, ho, ht, fun H' p ts g hp e1 e2 => ⟨.ref p, (wps o).length, rfl, .inl ⟨_, SqL.of e1, ?_⟩, q H' g⟩⟩
    rw [List.length_map, Paired.length e2]

def spCkp (K : PySem.W.Frag) : Sp := fun vs H Q _ => ∃ (a : Addr) (o : List Nat) (p : Nat), vs = [.ref a, .int (p : Int)] ∧ SeqLT K H a (vl o) ∧ p < o.length ∧ Q .non H
theorem ok_check_place {f : Addr} {fd : FuncData} (F : Fun K "check_place" "check_place" s_check_place f fd) (G1 : Cn P w K mg base 2 "is_within_bounds" ["value", "low", "high"] spWithin) (B : Bl2 mg) : FnOk P w K mg base CX0 3 f fd ["order", "place"] (spCkp K) := by
  refine F.ok sc_check_place (fun vs H Q E h => ?_) (fun cdv A outer s H vs Q E hr h => ?_)
  · obtain ⟨a, o, p, rfl, _⟩ := h
    rfl
  · obtain ⟨a, o, p, rfl, ha, hp, q⟩ := h
    refine ⟨_, (pss_one (ps_if (pt_not (pt_val (pe_cn G1 hr (by rfl) (pa_cons (pv 1) (pa_cons pe_int (pa_cons (pe_op op_sub (pe_callB call_len (by rfl) B.b.len PySem.boot_len (pa_cons (pv 0) pa_nil)) pe_int) pa_nil))))))
        (pss_one ps_never) pss_nil)), ?_⟩
    have l1 := lenV_seq (K := K) ha
    rw [vl_len] at l1
    exact ⟨.int (p : Int), rfl, .ref a, rfl, .ref a, _, rfl, l1, _, 1, rfl, rfl, (p : Int), 0, (o.length : Int) - 1, rfl, by omega, by omega, true, rfl, iteF q⟩
def spTko (K : PySem.W.Frag) (T : Addr → Prop) : Sp := fun vs H Q _ => ∃ (a : Addr) (o : List Nat) (p : Nat), vs = [.ref a, .int (p : Int)] ∧ SeqLT K H a (vl o) ∧ IsOrd o ∧ p < o.length ∧ 2 ≤ o.length ∧ Tabs H T ∧ Out T H Q (tko o p)
theorem ok_taken_out {f : Addr} {fd : FuncData} (F : Fun K "taken_out" "taken_out" s_taken_out f fd) (G0 : Cn P w K mg base 4 "check_order" ["order"] (spChk K T)) (G2 : Cn P w K mg base 4 "check_place" ["order", "place"] (spCkp K)) (B : Bl2 mg) : FnOk P w K mg base CX0 5 f fd ["order", "place"] (spTko K T) := by
  refine F.ok sc_taken_out (fun vs H Q E h => ?_) (fun cdv A outer s H0 vs Q E hr h => ?_)
  · obtain ⟨a, o, p, rfl, _⟩ := h
    rfl
  · obtain ⟨a, o, p, rfl, ha0, io, hp, h2, ht0, q⟩ := h
    refine ⟨_, (pss_cons (ps_expr (pe_cn G0 hr (by rfl) (pa_cons (pv 0) pa_nil)))
      (pss_cons (ps_expr (pe_cn G2 hr (by rfl) (pa_cons (pv 0) (pa_cons (pv 1) pa_nil))))
      (pss_cons (ps_if (pt_cmpR op_eq (pe_callB call_len (by rfl) B.b.len PySem.boot_len (pa_cons (pv 0) pa_nil)) pe_int (nomark _))
        (pss_one ps_never) pss_nil)
      (pss_cons (ps_set (i := 2) sc_taken_out.nd rfl (Or.inr rfl) (pe_ix ix_seq (pv 0) (pv 1) (fun _ _ => rfl)))
      (pss_one (ps_ret (pe_tupF (by rfl) B.b.tuple (pe_lc (own := [("thing", 3)]) (g := gName 3)  (by rfl) sc_taken_out.nd (pi_seq (pv 0)) (blkOk_by (by rfl)) (fun _ _ _ _ _ => (pg_name (i := 3) sc_taken_out.nd rfl (Or.inl rfl))) (fun _ _ _ _ _ => (pts_one (pt_cmpR op_ne (pv 3) (pv 2) (nomark _)))) (fun _ _ _ _ _ => (pe_ifExp (pt_cmpR op_gt (pv 3) (pv 2) (nomark _)) (pe_op op_sub (pv 3) pe_int) (pv 3))))))))))), ?_⟩
    have b9 := io.hi
    refine ⟨.ref a, rfl, a, o, rfl, ha0, io, ht0, fun H g1 => ?_⟩
    have ht := g1.1
    have ha := g1.lt ht0 ha0
    refine ⟨.ref a, rfl, .int (p : Int), rfl, a, o, p, rfl, ha, hp, ?_⟩
    have l1 := lenV_seq (K := K) ha
    rw [vl_len] at l1
    refine ⟨.ref a, rfl, .ref a, _, rfl, l1, rfl, _, rfl, ?_⟩
    rw [decide_eq_false (fun z => by injection z with z; omega)]
    refine iteF ⟨.ref a, rfl, .int (p : Int), rfl, ix_at ha hp rfl ?_⟩
    generalize eg : o.getD p 0 = gn
    have tk : tko o p = (o.filter fun x => decide (x ≠ gn)).map fun x => if gn < x then x - 1 else x := by rw [← eg]; rfl
    obtain ⟨b, sb⟩ := seqB_of ha
    refine ⟨.ref a, rfl, b, a, rfl, ⟨_, sb⟩, fun D hD => ?_⟩
    refine lc_seq (xs := vl o) (fun i H2 => Made T H D (((o.take i).filter fun x => decide (x ≠ gn)).map fun x => if gn < x then x - 1 else x) H2) (Made.start ht hD) (fun i H2 _ m => (m.go hD).sqB ht sb) (fun i x H2 hx m => ?_) (fun H2 m => ?_)
    · obtain ⟨k, hk, rfl⟩ := vl_inv hx
      have hi := (List.getElem?_eq_some_iff.mp hk).1
      rw [take_snoc hk, List.filter_append, List.map_append]
      have lf := List.length_filter_le (fun x => decide (x ≠ gn)) (o.take i)
      rw [List.length_take] at lf
      refine ⟨rfl, .int (k : Int), rfl, .int (gn : Int), rfl, rfl, _, rfl, ?_⟩
      by_cases c : k = gn
      · subst c
        rw [decide_eq_true (show V.int (k : Int) = V.int (k : Int) from rfl)]
        refine iteF ?_
        rw [List.filter_cons_of_neg (by simp), List.filter_nil, List.map_nil, List.append_nil]
        exact m
      · rw [decide_eq_false (show ¬ V.int (k : Int) = V.int (gn : Int) from fun z => c (by injection z with z; omega))]
        rw [List.filter_cons_of_pos (by exact decide_eq_true (show k ≠ gn from c)), List.filter_nil]
        refine iteT ⟨.int (k : Int), rfl, .int (gn : Int), rfl, _, _, rfl, rfl, _, rfl, ?_⟩
        by_cases c2 : gn < k
        · have ek : List.map (fun x => if gn < x then x - 1 else x) [k] = [k - 1] := by rw [List.map_cons, List.map_nil, if_pos c2]
          rw [decide_eq_true (show (gn : Int) < (k : Int) by omega), ek]
          have mo := m.more (k := k - 1) hD ht (Go.refl m.1)
          refine iteT ⟨.int (k : Int), rfl, _, 1, rfl, rfl, _, mo.1, by rw [vl_len, List.length_map]; exact small9 (by omega), ?_⟩
          have z := mo.2
          rw [show ((k - 1 : Nat) : Int) = (k : Int) - 1 by omega] at z
          exact z
        · have ek : List.map (fun x => if gn < x then x - 1 else x) [k] = [k] := by rw [List.map_cons, List.map_nil, if_neg c2]
          rw [decide_eq_false (show ¬ (gn : Int) < (k : Int) by omega), ek]
          have mo := m.more (k := k) hD ht (Go.refl m.1)
          exact iteF ⟨.int (k : Int), rfl, _, mo.1, by rw [vl_len, List.length_map]; exact small9 (by omega), mo.2⟩
    · rw [vl_len, List.take_length, ← tk] at m
      refine ⟨false, D, vl (tko o p), rfl, m.2.2, fun z => (nomatch z), fun _ x ob hd hx => ?_⟩
      have g2 := m.go hD
      exact q _ x (g1.trans (g2.trans (Go.new g2.1 hx))) (g1.free (g2.free hx)) ⟨ob, hd, upd_same⟩

def spPin (K : PySem.W.Frag) (T : Addr → Prop) : Sp := fun vs H Q _ => ∃ (a : Addr) (o : List Nat) (pl th : Nat), vs = [.ref a, .int (pl : Int), .int (th : Int)] ∧ SeqLT K H a (vl o) ∧ IsOrd o ∧ pl ≤ o.length ∧ 1 ≤ th ∧ th ≤ o.length + 1 ∧ o.length ≤ 8 ∧ Tabs H T ∧ Out T H Q (rsd o pl th)
theorem ok_put_in {f : Addr} {fd : FuncData} {tN : Tok} (F : Fun K "put_in" "put_in" s_put_in f fd) (G0 : Cn P w K mg base 4 "check_order" ["order"] (spChk K T)) (G1 : Cn P w K mg base 4 "is_within_bounds" ["value", "low", "high"] spWithin) (hN : mg "MOST_THINGS" = some (.int 9 tN)) (B : Bl2 mg) : FnOk P w K mg base CX0 5 f fd ["order", "place", "thing"] (spPin K T) := by
  refine F.ok sc_put_in (fun vs H Q E h => ?_) (fun cdv A outer s H0 vs Q E hr h => ?_)
  · obtain ⟨a, o, pl, th, rfl, _⟩ := h
    rfl
  · obtain ⟨a, o, pl, th, rfl, ha0, io, hp, t1, t2, l8, ht0, q⟩ := h
    refine ⟨_, (pss_cons (ps_expr (pe_cn G0 hr (by rfl) (pa_cons (pv 0) pa_nil)))
      (pss_cons (ps_if (pt_not (pt_val (pe_cn G1 hr (by rfl) (pa_cons (pv 1) (pa_cons pe_int (pa_cons (pe_callB call_len (by rfl) B.b.len PySem.boot_len (pa_cons (pv 0) pa_nil)) pa_nil))))))
        (pss_one ps_never) pss_nil)
      (pss_cons (ps_if (pt_not (pt_val (pe_cn G1 hr (by rfl) (pa_cons (pv 2) (pa_cons pe_int (pa_cons (pe_op op_add (pe_callB call_len (by rfl) B.b.len PySem.boot_len (pa_cons (pv 0) pa_nil)) pe_int) pa_nil))))))
        (pss_one ps_never) pss_nil)
      (pss_cons (ps_if (pt_cmpR op_eq (pe_callB call_len (by rfl) B.b.len PySem.boot_len (pa_cons (pv 0) pa_nil)) (pe_glob (v := .int 9) (by rfl) hN ⟨_, rfl⟩) (nomark _))
        (pss_one ps_never) pss_nil)
      (pss_cons (ps_setLc (i := 3) (own := [("other", 4)]) (g := gName 4) (tt := tYes) (by rfl) sc_put_in.nd rfl rfl (by rfl) (pi_seq (pv 0)) (blkOk_by (by rfl)) (fun _ _ _ _ _ => (pg_name (i := 4) sc_put_in.nd rfl (Or.inl rfl))) (fun _ _ _ _ _ => pts_nil) (fun _ _ _ _ _ => (pe_ifExp (pt_cmpR op_ge (pv 4) (pv 2) (nomark _)) (pe_op op_add (pv 4) pe_int) (pv 4))))
      (pss_one (ps_ret (pe_tupF (by rfl) B.b.tuple (pe_op op_cat (pe_op op_cat (pe_slice sl_list (pv 3) po_none (po_some (pv 1))) (pe_lst (pa_cons (pv 2) pa_nil))) (pe_slice sl_list (pv 3) (po_some (pv 1)) po_none)))))))))), ?_⟩
    refine ⟨.ref a, rfl, a, o, rfl, ha0, io, ht0, fun H g1 => ?_⟩
    have ht := g1.1
    have ha := g1.lt ht0 ha0
    have l1 := lenV_seq (K := K) ha
    rw [vl_len] at l1
    refine ⟨.int (pl : Int), rfl, .ref a, rfl, .ref a, _, rfl, l1, (pl : Int), 0, (o.length : Int), rfl, by omega, by omega, true, rfl, iteF ?_⟩
    refine ⟨.int (th : Int), rfl, .ref a, rfl, .ref a, _, rfl, l1, _, 1, rfl, rfl, (th : Int), 1, (o.length : Int) + 1, rfl, by omega, by omega, true, rfl, iteF ?_⟩
    refine ⟨.ref a, rfl, .ref a, _, rfl, l1, rfl, _, rfl, ?_⟩
    rw [decide_eq_false (fun z => by injection z with z; omega)]
    refine iteF ?_
    obtain ⟨b, sb⟩ := seqB_of ha
    refine ⟨.ref a, rfl, b, a, rfl, ⟨_, sb⟩, fun D hD => ?_⟩
    refine lc_seq (xs := vl o) (fun i H2 => Made T H D ((o.map (up1 th)).take i) H2) (Made.start ht hD) (fun i H2 _ m => (m.go hD).sqB ht sb) (fun i x H2 hx m => ?_) (fun H2 m => ?_)
    · obtain ⟨k, hk, rfl⟩ := vl_inv hx
      have hi := (List.getElem?_eq_some_iff.mp hk).1
      have mo := m.more (k := up1 th k) hD ht (Go.refl m.1)
      have e : (o.map (up1 th))[i]? = some (up1 th k) := by
        rw [List.getElem?_map, hk]
        rfl
      refine ⟨rfl, .int (k : Int), rfl, .int (th : Int), rfl, _, _, rfl, rfl, _, rfl, ?_⟩
      rw [take_snoc e]
      by_cases c : th ≤ k
      · have eu : up1 th k = k + 1 := if_pos c
        rw [eu] at mo ⊢
        rw [decide_eq_true (show (th : Int) ≤ (k : Int) by omega)]
        exact iteT ⟨.int (k : Int), rfl, _, 1, rfl, rfl, _, mo.1, by rw [vl_len, List.length_take]; exact small9 (by omega), mo.2⟩
      · have eu : up1 th k = k := if_neg c
        rw [eu] at mo ⊢
        rw [decide_eq_false (show ¬ (th : Int) ≤ (k : Int) by omega)]
        exact iteF ⟨.int (k : Int), rfl, _, mo.1, by rw [vl_len, List.length_take]; exact small9 (by omega), mo.2⟩
    · have lm : (o.map (up1 th)).length = o.length := List.length_map _
      rw [vl_len, List.take_of_length_le (by omega)] at m
      have eD := m.2.2
      have g2 := m.go hD
      refine ⟨.ref D, rfl, .int (pl : Int), rfl, _, rfl, D, _, rfl, SqL.of eD, fun x hx => ?_⟩
      rw [cut_to _ _ (by omega)]
      have g3 := Go.new (o := .lst (vl ((o.map (up1 th)).take pl))) g2.1 hx
      have lt : ((o.map (up1 th)).take pl).length ≤ 8 := by rw [List.length_take]; omega
      refine ⟨.int (th : Int), rfl, by show 1 ≤ sizeLine; decide, fun y hy => ?_⟩
      have g4 := Go.new (o := .lst (vl [th])) g3.1 hy
      refine ⟨x, y, vl ((o.map (up1 th)).take pl), vl [th], rfl, rfl, g4.lst g3.1 upd_same, upd_same, by rw [vl_len, vl_len]; exact Nat.le_of_lt (small9 (by show _ + 1 ≤ 100; omega)), fun z hz => ?_⟩
      rw [vl_app]
      have g5 := Go.new (o := .lst (vl ((o.map (up1 th)).take pl ++ [th]))) g4.1 hz
      have g35 := g3.trans (g4.trans g5)
      refine ⟨.ref D, rfl, .int (pl : Int), rfl, _, rfl, D, _, rfl, SqL.of (g35.lst g2.1 eD), fun u hu => ?_⟩
      rw [cut_from _ _ (by omega)]
      have g6 := Go.new (o := .lst (vl ((o.map (up1 th)).drop pl))) g5.1 hu
      refine ⟨z, u, vl ((o.map (up1 th)).take pl ++ [th]), vl ((o.map (up1 th)).drop pl), rfl, rfl, g6.lst g5.1 upd_same, upd_same, by rw [vl_len, vl_len, List.length_append, List.length_drop]; exact Nat.le_of_lt (small9 (by show _ + 1 + _ ≤ 100; omega)), fun v hv => ?_⟩
      rw [vl_app]
      have er : (o.map (up1 th)).take pl ++ [th] ++ (o.map (up1 th)).drop pl = rsd o pl th := rfl
      rw [er]
      have g7 := Go.new (o := .lst (vl (rsd o pl th))) g6.1 hv
      refine ⟨false, v, vl (rsd o pl th), rfl, upd_same, fun z => (nomatch z), fun _ r ob hd hr => ?_⟩
      have g17 := g1.trans (g2.trans (g35.trans (g6.trans g7)))
      exact q _ r (g17.trans (Go.new g17.1 hr)) (g17.free hr) ⟨ob, hd, upd_same⟩
end
end Lb

set_option Elab.async false
set_option linter.all false
set_option maxRecDepth 100000
set_option maxHeartbeats 4000000
namespace Lb
open PySem PySem.Spec PyProof.Rows L2

theorem ord_up {H : Hp} {a D : Addr} {xs ys : List V} {u : HO} (h : OrdK true H a xs) (e : H D = some (.lst ys)) : OrdK true (upd H D u) a xs := by
  obtain ⟨o, d, h⟩ := h
  exact ⟨o, d, by rw [upd_ne (fun z => by rw [z, e] at h; cases h)]; exact h⟩
theorem KAt.up {H : Hp} {ts : List Addr} {os : List (List Nat)} {D : Addr} {ys : List V} {u : HO} (h : KAt H ts os) (e : H D = some (.lst ys)) : KAt (upd H D u) ts os := Paired.mapP h fun _ _ z => ord_up z e
theorem KAt.gp {T : Addr → Prop} {q : Addr} {H H' : Hp} {ts : List Addr} {os : List (List Nat)} (h : KAt H ts os) (t : Tabs H T) (p : PotAt H q) (g : Gp T q H H') : KAt H' ts os := Paired.mapP h fun _ _ z => g.ordT t p z
def kw2 {α : Type} : List α → List α → List α
  | [], [a, b] => [b, a]
  | _, _ => []
theorem kw2_rel {vs : List V} {us : List Value} {zs : List V} {ws : List Value} (r : Vals vs us) (q : Vals zs ws) : Vals (kw2 vs zs) (kw2 us ws) := by
  cases r with
  | nil =>
    cases q with
    | nil => exact .nil
    | cons a t =>
      cases t with
      | nil => exact .nil
      | cons b t =>
        cases t with
        | nil => exact .cons b (.cons a .nil)
        | cons _ _ => exact .nil
  | cons _ _ => exact .nil
/-! rows of whole numbers as data -/
theorem pas_ne {H H' : Hp} {p q : Addr} {o : List Nat} (h : OrdK true H' p (vl o) ∨ (H p = none ∧ H' p = some (.lst (vl o)))) (pt : PotAt H q) (pt' : PotAt H' q) : p ≠ q := by
  rcases h with ⟨ob, _, h⟩ | ⟨h, _⟩
  · intro z
    rw [z] at h
    obtain ⟨x, y, e, _⟩ := pt'
    rw [e] at h
    cases h
  · exact pt.ne h

def spChA (K : PySem.W.Frag) (T : Addr → Prop) : Sp := fun vs H Q E => ∃ n, n ≤ 9 ∧ spChs K T n vs H Q E
structure Defs (P : Program) (w : World) (K : PySem.W.Frag) (mg : Str → Option Value) (base : Heap) (T : Addr → Prop) : Prop where
  pin : Cn P w K mg base 12 "put_in" ["order", "place", "thing"] (spPin K T)
  pinK : CnK P w K mg base 12 "put_in" ["order", "place", "thing"] ["thing", "place", "order"] kw3 kw3 (spPin K T)
  tko : Cn P w K mg base 12 "taken_out" ["order", "place"] (spTko K T)
  tkoK : CnK P w K mg base 12 "taken_out" ["order", "place"] ["place", "order"] kw2 kw2 (spTko K T)
  lev : Cn P w K mg base 12 "level" ["order"] (spLev K T)
  und : Cn P w K mg base 12 "undone" ["order"] (spUnd T)
  sts : Cn P w K mg base 12 "stands" ["order", "way"] (spSts K T)
  atp : Cn P w K mg base 12 "at_places" ["order", "places"] (spAtp K T)
  chs : Cn P w K mg base 12 "_law_choices" ["_law_some", "_law_many"] (spChA K T)
  low : Cn P w K mg base 12 "_law_lowered" ["_law_things"] (spSz K T)
  pot : Cn P w K mg base 12 "_law_pot" ["_law_script", "_law_k"] (spPot K T)
  draw : Cn P w K mg base 12 "_law_draw" ["_law_pot_here", "_law_size"] (spDraw T)
  pick : Cn P w K mg base 12 "_law_pick" ["_law_pot_here", "_law_some"] (spPick T)
  drawn : Cn P w K mg base 12 "_law_drawn" ["_law_pot_here", "_law_most"] (spDrawn T)
  four : Cn P w K mg base 12 "_law_four" [] (spFour T)
  rsd : Cn P w K mg base 12 "_law_raised" ["_law_order_here", "_law_place", "_law_thing"] (spRsd T)
  pas : Cn P w K mg base 12 "_law_passed" ["_law_pot_here", "_law_order_here"] (spPass K T)
  B : Bl2 mg
theorem pos4 : ∀ u ∈ fourL, IsOrd u := by
  intro o ho
  have : o ∈ [[4, 2, 3, 1], [3, 5, 1, 4, 2], [4, 2, 5, 1, 3], [3, 5, 1, 6, 2, 4]] := ho
  simp only [List.mem_cons, List.not_mem_nil, or_false] at this
  rcases this with rfl | rfl | rfl | rfl <;> exact ord_list (by decide)
section
variable {P : Program} {w : World} {K : PySem.W.Frag} {mg : Str → Option Value} {base : Heap} {T : Addr → Prop}
def spPut (T : Addr → Prop) : Sp := fun vs H Q _ => ∃ (q a : Addr) (o : List Nat), vs = [.ref q, .ref a] ∧ OrdK true H a (vl o) ∧ IsOrd o ∧ o.length ≤ 8 ∧ PotAt H q ∧ Tabs H T ∧ ∀ H', Gp T q H H' → Q (.bl true) H'
theorem ok_putr {f : Addr} {fd : FuncData} (F : Fun K "_law_put_right" "_law_put_right" s_putr f fd) (D : Defs P w K mg base T) : FnOk P w K mg base CX0 13 f fd ["_law_pot_here", "_law_order_here"] (spPut T) := by
  refine F.ok sc_putr (fun vs H Q E h => ?_) (fun cdv A outer s H vs Q E hr h => ?_)
  · obtain ⟨q, a, o, rfl, _⟩ := h
    rfl
  · obtain ⟨q, a, o, rfl, ha, io, l8, pt, ht, k⟩ := h
    have hun := hr.un
    have eu : (A.deeper (envOfC "_law_put_right" (defScope s_putr) s.heap.objs.size f cdv)).units = A.units + 3 := rfl
    have hu : A.units + 3 + 64 < cLine := by omega
    refine ⟨_, (pss_cons (ps_set (i := 2) sc_putr.nd rfl (Or.inl rfl) (pe_callB call_len (by rfl) D.B.b.len PySem.boot_len (pa_cons (pv 1) pa_nil)))
      (pss_cons (ps_asg (pe_tup (pa_cons (pe_cn D.draw hr (by rfl) (pa_cons (pv 0) (pa_cons (pe_op op_add (pv 2) pe_int) pa_nil))) (pa_cons (pe_op op_add pe_int (pe_cn D.draw hr (by rfl) (pa_cons (pv 0) (pa_cons (pe_op op_add (pv 2) pe_int) pa_nil)))) pa_nil))) (pg_tup rfl (pgs_cons (pg_name (i := 3) sc_putr.nd rfl (Or.inl rfl)) (pgs_cons (pg_name (i := 4) sc_putr.nd rfl (Or.inr rfl)) pgs_nil))))
      (pss_cons (ps_par (i := 5) (j := 6) (by rfl) sc_putr.nd rfl rfl (by decide) rfl rfl (pa_cons (pe_cn D.rsd hr (by rfl) (pa_cons (pv 1) (pa_cons (pv 3) (pa_cons (pv 4) pa_nil)))) (pa_cons (pe_cn D.pas hr (by rfl) (pa_cons (pv 0) (pa_cons (pv 1) pa_nil))) pa_nil)) (by rfl))
      (pss_cons (ps_if (PW.pt (pw_or (pt_cmpR (op_neD hu) (pe_cn D.pin hr (by rfl) (pa_cons (pv 6) (pa_cons (pv 3) (pa_cons (pv 4) pa_nil)))) (pv 5) (nomark _)) (pw_or (pt_cmpR (op_neD hu) (pe_cnK D.pinK hr (by rfl) (pk_cons (pv 4) (pk_cons (pv 3) (pk_cons (pv 1) pk_nil)))) (pv 5) (nomark _)) (pw_or1 (pt_cmpR (op_neD hu) (pe_tupF (by rfl) D.B.b.tuple (pv 6)) (pv 1) (nomark _))))))
        (pss_one (ps_ret pe_bl)) pss_nil)
      (pss_cons (ps_if (PW.pt (pw_or (pt_cmpR (op_neD hu) (pe_cn D.tko hr (by rfl) (pa_cons (pv 5) (pa_cons (pv 3) pa_nil))) (pv 1) (nomark _)) (pw_or1 (pt_cmpR (op_neD hu) (pe_cnK D.tkoK hr (by rfl) (pk_cons (pv 3) (pk_cons (pe_callTy call_list_of (by rfl) D.B.b.list (by decide +kernel) (pa_cons (pv 5) pa_nil)) pk_nil))) (pv 1) (nomark _)))))
        (pss_one (ps_ret pe_bl)) pss_nil)
      (pss_cons (ps_set (i := 7) sc_putr.nd rfl (Or.inl rfl) (pe_op op_add (pe_callB call_len (by rfl) D.B.b.len PySem.boot_len (pa_cons (pe_lc (own := [("_law_other", 9)]) (g := gName 9)  (by rfl) sc_putr.nd (pi_seq (pe_slice sl_tupF (pv 5) po_none (po_some (pv 3)))) (blkOk_by (by rfl)) (fun _ _ _ _ _ => (pg_name (i := 9) sc_putr.nd rfl (Or.inl rfl))) (fun _ _ _ _ _ => (pts_one (pt_cmpR op_gt (pv 9) (pv 4) (nomark _)))) (fun _ _ _ _ _ => (pv 9))) pa_nil)) (pe_callB call_len (by rfl) D.B.b.len PySem.boot_len (pa_cons (pe_lc (own := [("_law_other", 9)]) (g := gName 9)  (by rfl) sc_putr.nd (pi_seq (pe_slice sl_tupF (pv 5) (po_some (pv 3)) po_none)) (blkOk_by (by rfl)) (fun _ _ _ _ _ => (pg_name (i := 9) sc_putr.nd rfl (Or.inl rfl))) (fun _ _ _ _ _ => (pts_one (pt_cmpR op_lt (pv 9) (pv 4) (nomark _)))) (fun _ _ _ _ _ => (pv 9))) pa_nil))))
      (pss_cons (ps_if (PW.pt (pw_or (pt_cmpR op_ne (pe_cn D.lev hr (by rfl) (pa_cons (pv 5) pa_nil)) (pe_op op_add (pe_cn D.lev hr (by rfl) (pa_cons (pv 1) pa_nil)) (pv 7)) (nomark _)) (pw_or1 (pt_cmpR (op_neD hu) (pe_cn D.und hr (by rfl) (pa_cons (pv 5) pa_nil)) (pe_cn D.pin hr (by rfl) (pa_cons (pe_cn D.und hr (by rfl) (pa_cons (pv 1) pa_nil)) (pa_cons (pe_op op_sub (pv 4) pe_int) (pa_cons (pe_op op_add (pv 3) pe_int) pa_nil)))) (nomark _)))))
        (pss_one (ps_ret pe_bl)) pss_nil)
      (pss_cons (ps_set (i := 8) sc_putr.nd rfl (Or.inl rfl) (pe_cn D.pick hr (by rfl) (pa_cons (pv 0) (pa_cons (pe_op op_cat (pe_cn0 D.four hr (by rfl)) (pe_lst (pa_cons (pe_tupD (pa_cons pe_int (pa_cons pe_int pa_nil))) (pa_cons (pe_tupD (pa_cons pe_int (pa_cons pe_int (pa_cons pe_int (pa_cons pe_int pa_nil))))) (pa_cons (pv 1) pa_nil))))) pa_nil))))
      (pss_one (ps_ret (pe_or (pe_cmpR op_isN (pe_cn D.sts hr (by rfl) (pa_cons (pv 1) (pa_cons (pv 8) pa_nil))) pe_non (nomark _)) (pe_one (pe_cmpR op_notN (pe_cn D.sts hr (by rfl) (pa_cons (pv 5) (pa_cons (pv 8) pa_nil))) pe_non (nomark _)))))))))))))), ?_⟩
    have b1 := io.lo
    have l1 := lenV_seq (K := K) ha.lt
    rw [vl_len] at l1
    have en1 : (o.length : Int) + 1 = ((o.length + 1 : Nat) : Int) := by omega
    refine ⟨.ref a, rfl, .ref a, _, rfl, l1, ?_⟩
    refine ⟨.ref q, rfl, .int (o.length : Int), rfl, _, 1, rfl, rfl, q, o.length + 1, ?_, by omega, by omega, pt, ht, fun H1 pl c1 hpl => ?_⟩
    · show [V.ref q, V.int ((o.length : Int) + 1)] = _
      rw [en1]
    refine ⟨.ref q, rfl, .int (o.length : Int), rfl, _, 1, rfl, rfl, q, o.length + 1, ?_, by omega, by omega, c1.pot, c1.tab, fun H2 d c2 hd => ⟨1, _, rfl, rfl, by show 2 ≤ sizeLine; decide, fun t hn => ?_⟩⟩
    · show [V.ref q, V.int ((o.length : Int) + 1)] = _
      rw [en1]
    obtain ⟨th, hth⟩ : ∃ th, th = d + 1 := ⟨_, rfl⟩
    have ethi : (1 : Int) + (d : Int) = (th : Int) := by omega
    have th1 : 1 ≤ th := by omega
    have th2 : th ≤ o.length + 1 := by omega
    have pl1 : pl ≤ o.length := by omega
    refine ⟨t, [V.int (pl : Int), V.int (th : Int)], rfl, SqT.of (by rw [← ethi]; exact upd_same), rfl, _, _, rfl, _, _, rfl, rfl, ?_⟩
    have g3 := Go.new (o := .tup [V.int (pl : Int), V.int (1 + (d : Int))]) c2.tab hn
    have m3 := (c1.trans c2).then g3
    generalize upd H2 t _ = H3 at g3 m3 ⊢
    have ir := ord_rsd (pl := pl) io l8 th1 th2
    have lr := len_rsd (o := o) (pl := pl) (th := th)
    have iu := ord_und io
    have lu := len_und o
    have nO : Nice 1 404 (.tuple (dl o)) := io.nice.2
    have nR : Nice 1 404 (.tuple (dl (rsd o pl th))) := ir.nice.2
    refine ⟨.ref a, rfl, .int (pl : Int), rfl, .int (th : Int), rfl, a, o, pl, th, rfl, m3.ordT ht pt ha, l8, pl1, m3.tab, fun H4 r g4 er => ?_⟩
    have m4 := m3.then g4
    refine ⟨.ref q, rfl, .ref a, rfl, q, a, o, rfl, m4.ordT ht pt ha, m4.pot, m4.tab, fun H5 p c5 lp dp => ⟨_, _, rfl, ?_⟩⟩
    have np := pas_ne dp m4.pot c5.pot
    have m5 := m4.trans c5
    have t5 := m5.tab
    have a5 := m5.ordT ht pt ha
    have r5 := c5.ordT m4.tab m4.pot er
    have dpp : OrdK true H5 p (vl o) ∨ H5 p = some (.lst (vl o)) := by
      rcases dp with h | ⟨_, h⟩
      · exact .inl h
      · exact .inr h
    clear dp
    refine ⟨.ref p, rfl, .int (pl : Int), rfl, .int (th : Int), rfl, p, o, pl, th, rfl, lp, io, pl1, th1, th2, l8, t5, fun H6 x g6 hx ex => ⟨.ref r, rfl, ne_data (ord_dp ex) (ord_dp (g6.ord t5 r5)) nR (by decide) ⟨false, rfl, iteF ?_⟩⟩⟩
    refine ⟨.int (th : Int), rfl, .int (pl : Int), rfl, .ref a, rfl, a, o, pl, th, rfl, (g6.ord t5 a5).lt, io, pl1, th1, th2, l8, g6.1, fun H7 x g7 hx ex => ?_⟩
    have h7 := g6.trans g7
    refine ⟨.ref r, rfl, ne_data (ord_dp ex) (ord_dp (h7.ord t5 r5)) nR (by decide) ⟨false, rfl, iteF ?_⟩⟩
    have tupK : ∀ {R : VK}, (∀ H6 p6, Go T H7 H6 → OrdK true H6 p6 (vl o) → R (.ref p6) H6) → (kTupF (.ref p) H7 R) := by
      intro R rr
      rcases dpp with h | h
      · exact ⟨true, p, vl o, rfl, h7.ord t5 h, fun _ => rr _ _ (Go.refl h7.1) (h7.ord t5 h), fun z => (nomatch z)⟩
      · refine ⟨false, p, vl o, rfl, h7.lst t5 h, fun z => (nomatch z), fun _ x ob hod hx => ?_⟩
        exact rr _ _ (Go.new (o := .frz ob (.tup (vl o))) h7.1 hx) ⟨ob, hod, upd_same⟩
    refine ⟨.ref p, rfl, tupK fun H8 p8 g8 e8 => ?_⟩
    have h8 := h7.trans g8
    refine ⟨.ref a, rfl, ne_data (ord_dp e8) (ord_dp (h8.ord t5 a5)) nO (by decide) ⟨false, rfl, iteF ?_⟩⟩
    -- taken out again
    refine ⟨.ref r, rfl, .int (pl : Int), rfl, r, rsd o pl th, pl, rfl, (h8.ord t5 r5).lt, ir, by omega, by omega, h8.1, fun H9 x g9 hx ex => ?_⟩
    rw [tko_rsd pl1] at ex
    have h9 := h8.trans g9
    refine ⟨.ref a, rfl, ne_data (ord_dp ex) (ord_dp (h9.ord t5 a5)) nO (by decide) ⟨false, rfl, iteF ?_⟩⟩
    refine ⟨.int (pl : Int), rfl, .ref r, rfl, r, vl (rsd o pl th), rfl, (h9.ord t5 r5).lt, fun y hy => ?_⟩
    have h10 := h9.trans (Go.new (o := .lst (vl (rsd o pl th))) h9.1 hy)
    refine ⟨y, rsd o pl th, pl, rfl, .inl (SqL.of upd_same), ir, by omega, by omega, h10.1, fun H11 x g11 hx ex => ?_⟩
    rw [tko_rsd pl1] at ex
    have h11 := h10.trans g11
    refine ⟨.ref a, rfl, ne_data (ord_dp ex) (ord_dp (h11.ord t5 a5)) nO (by decide) ⟨false, rfl, iteF ?_⟩⟩
    clear ex tupK e8
    -- what stands the wrong way to the new thing
    refine ⟨.ref r, rfl, .int (pl : Int), rfl, _, rfl, slF_go (zs := (rsd o pl th).take pl) h11.1 (h11.ord t5 r5) (cut_to _ pl (by omega)) fun H12 u g12 eu12 => ?_⟩
    have h12 := h11.trans g12
    have lx : ((rsd o pl th).take pl).length ≤ 9 := by rw [List.length_take]; omega
    refine ⟨true, u, rfl, ⟨_, eu12.sqT⟩, fun C hC => ?_⟩
    refine lc_seq (b := true) (xs := vl ((rsd o pl th).take pl)) (fun i H13 => Made T H12 C ((((rsd o pl th).take pl).take i).filter fun y => decide (th < y)) H13) (Made.start h12.1 hC) (fun i H13 _ m => (m.go hC).seqT h12.1 eu12.sqT) (fun i x H13 hx m => ?_) (fun H13 m => ?_)
    · obtain ⟨y, hy, rfl⟩ := vl_inv hx
      have mo := m.more (k := y) hC h12.1 (Go.refl m.1)
      have lf := List.length_filter_le (fun y => decide (th < y)) (((rsd o pl th).take pl).take i)
      rw [List.length_take] at lf
      rw [take_snoc hy, List.filter_append]
      refine ⟨rfl, .int (y : Int), rfl, .int (th : Int), rfl, _, _, rfl, rfl, _, rfl, ?_⟩
      by_cases c : th < y
      · rw [decide_eq_true (show (th : Int) < (y : Int) by omega)]
        refine iteT ⟨.int (y : Int), rfl, _, mo.1, by rw [vl_len]; exact small9 (by omega), ?_⟩
        rw [List.filter_cons_of_pos (by exact decide_eq_true c), List.filter_nil]
        exact mo.2
      · rw [decide_eq_false (show ¬ (th : Int) < (y : Int) by omega)]
        refine iteF ?_
        rw [List.filter_cons_of_neg (by exact fun z => c (of_decide_eq_true z)), List.filter_nil, List.append_nil]
        exact m
    rw [vl_len, List.take_length] at m
    have g13 := m.go hC
    have h13 := h12.trans g13
    have l13 := lenV_seq (K := K) (H := H13) (a := C) (.inl (SqL.of m.2.2))
    rw [vl_len] at l13
    refine ⟨.ref C, _, rfl, l13, ?_⟩
    refine ⟨.ref r, rfl, .int (pl : Int), rfl, _, rfl, ?_⟩
    unfold tNoPart
    refine slF_go (zs := (rsd o pl th).drop pl) h13.1 (h13.ord t5 r5) (cut_from _ pl (by omega)) fun H14 u2 g14 eu14 => ?_
    have h14 := h13.trans g14
    have lx2 : ((rsd o pl th).drop pl).length ≤ 9 := by rw [List.length_drop]; omega
    refine ⟨true, u2, rfl, ⟨_, eu14.sqT⟩, fun E2 hE2 => ?_⟩
    refine lc_seq (b := true) (xs := vl ((rsd o pl th).drop pl)) (fun i H15 => Made T H14 E2 ((((rsd o pl th).drop pl).take i).filter fun y => decide (y < th)) H15) (Made.start h14.1 hE2) (fun i H15 _ m => (m.go hE2).seqT h14.1 eu14.sqT) (fun i x H15 hx m => ?_) (fun H15 m => ?_)
    · obtain ⟨y, hy, rfl⟩ := vl_inv hx
      have mo := m.more (k := y) hE2 h14.1 (Go.refl m.1)
      have lf := List.length_filter_le (fun y => decide (y < th)) (((rsd o pl th).drop pl).take i)
      rw [List.length_take] at lf
      rw [take_snoc hy, List.filter_append]
      refine ⟨rfl, .int (y : Int), rfl, .int (th : Int), rfl, _, _, rfl, rfl, _, rfl, ?_⟩
      by_cases c : y < th
      · rw [decide_eq_true (show (y : Int) < (th : Int) by omega)]
        refine iteT ⟨.int (y : Int), rfl, _, mo.1, by rw [vl_len]; exact small9 (by omega), ?_⟩
        rw [List.filter_cons_of_pos (by exact decide_eq_true c), List.filter_nil]
        exact mo.2
      · rw [decide_eq_false (show ¬ (y : Int) < (th : Int) by omega)]
        refine iteF ?_
        rw [List.filter_cons_of_neg (by exact fun z => c (of_decide_eq_true z)), List.filter_nil, List.append_nil]
        exact m
    rw [vl_len, List.take_length] at m
    have g15 := m.go hE2
    have h15 := h14.trans g15
    have l15 := lenV_seq (K := K) (H := H15) (a := E2) (.inl (SqL.of m.2.2))
    rw [vl_len] at l15
    refine ⟨.ref E2, _, rfl, l15, _, _, rfl, rfl, ?_⟩
    have eah : (((((rsd o pl th).take pl).filter fun y => decide (th < y)).length : Nat) : Int) + (((((rsd o pl th).drop pl).filter fun y => decide (y < th)).length : Nat) : Int) = ((ovr ((rsd o pl th).take pl) th + cnt ((rsd o pl th).drop pl) th : Nat) : Int) := by
      unfold ovr cnt
      omega
    have elv := lev_rsd (o := o) (pl := pl) (th := th) pl1
    obtain ⟨ah, hah⟩ : ∃ ah, ah = ovr ((rsd o pl th).take pl) th + cnt ((rsd o pl th).drop pl) th := ⟨_, rfl⟩
    rw [← hah] at eah elv
    clear l15 l13 m g13 eu14 eu12
    refine ⟨.ref r, rfl, r, rsd o pl th, rfl, (h15.ord t5 r5).lt, ir, h15.1, fun H16 g16 => ?_⟩
    have h16 := h15.trans g16
    refine ⟨.ref a, rfl, a, o, rfl, (h16.ord t5 a5).lt, io, h16.1, fun H17 g17 => ?_⟩
    have h17 := h16.trans g17
    refine ⟨.int (ah : Int), congrArg (fun x => some (some (V.int x))) eah, _, _, rfl, rfl, rfl, _, rfl, ?_⟩
    rw [decide_eq_true (show V.int ((lev (rsd o pl th) : Nat) : Int) = V.int (((lev o : Nat) : Int) + (ah : Int)) from congrArg V.int (by omega))]
    refine iteF ?_
    refine ⟨.ref r, rfl, true, r, rsd o pl th, rfl, h17.ord t5 r5, ir, h17.1, fun H18 x g18 hx ex => ?_⟩
    have h18 := h17.trans g18
    refine ⟨.ref a, rfl, true, a, o, rfl, h18.ord t5 a5, io, h18.1, fun H19 y g19 hy ey => ?_⟩
    have h19 := h18.trans g19
    refine ⟨.int (th : Int), rfl, _, 1, rfl, rfl, .int (pl : Int), rfl, _, 1, rfl, rfl, y, und o, th - 1, pl + 1, ?_, ey.lt, iu, by omega, by omega, by omega, by omega, h19.1, fun H20 z g20 hz ez => ?_⟩
    · show [V.ref y, V.int ((th : Int) - 1), V.int ((pl : Int) + 1)] = _
      rw [show (th : Int) - 1 = ((th - 1 : Nat) : Int) by omega, show (pl : Int) + 1 = ((pl + 1 : Nat) : Int) by omega]
    rw [← und_rsd io l8 pl1 th1 th2] at ez
    have h20 := h19.trans g20
    refine ne_data (ord_dp ((g19.trans g20).ord h18.1 ex)) (ord_dp ez) (ord_und ir).nice.2 (by decide) ⟨false, rfl, iteF ?_⟩
    -- a way
    have m20 := m5.then h20
    refine ⟨.ref q, rfl, rfl, h20.1, fun H21 L ts g21 hL eL kL => ?_⟩
    have h21 := h20.trans g21
    refine ⟨by show 2 ≤ sizeLine; decide, fun s1 o1 d1 hs1 => ⟨by show 4 ≤ sizeLine; decide, fun s2 o2 d2 hs2 => ⟨.ref a, rfl, by show 3 ≤ sizeLine; decide, fun S hS => ?_⟩⟩⟩
    have g22 := Go.new (o := .frz o1 (.tup (vl [2, 1]))) g21.1 hs1
    have g23 := Go.new (o := .frz o2 (.tup (vl [3, 4, 1, 2]))) g22.1 hs2
    have g24 := Go.new (o := .lst [V.ref s1, V.ref s2, V.ref a]) g23.1 hS
    have g224 := (g22.trans g23).trans g24
    have e21 := (g23.trans g24).ord g22.1 (show OrdK true (upd H21 s1 (.frz o1 (.tup (vl [2, 1])))) s1 (vl [2, 1]) from ⟨o1, d1, upd_same⟩)
    have e34 := g24.ord g23.1 (show OrdK true (upd _ s2 (.frz o2 (.tup (vl [3, 4, 1, 2])))) s2 (vl [3, 4, 1, 2]) from ⟨o2, d2, upd_same⟩)
    have ea24 := g224.ord h21.1 (h21.ord t5 a5)
    have lts : ts.length = 4 := Paired.length kL
    refine ⟨L, S, ts.map V.ref, [V.ref s1, V.ref s2, V.ref a], rfl, rfl, g224.lst g21.1 eL, upd_same, by rw [List.length_map, lts]; show 7 ≤ sizeLine; decide, fun Z hZ => ?_⟩
    have g25 := Go.new (o := .lst (ts.map V.ref ++ [V.ref s1, V.ref s2, V.ref a])) g24.1 hZ
    have h25 := (h21.trans g224).trans g25
    have m25 := m5.then h25
    have Zq := (m5.then (h21.trans g224)).pot.ne hZ
    have kus := Paired.app (kL.go g21.1 (g224.trans g25)) (Paired.cons (g25.ord g24.1 e21) (Paired.cons (g25.ord g24.1 e34) (Paired.cons (g25.ord g24.1 ea24) Paired.nil)))
    have ius : ∀ u ∈ fourL ++ [[2, 1], [3, 4, 1, 2], o], IsOrd u := fun u hu => by
      rcases List.mem_append.mp hu with h | h
      · exact pos4 u h
      · rcases List.mem_cons.mp h with rfl | h
        · exact ord_list (by decide)
        · rcases List.mem_cons.mp h with rfl | h
          · exact ord_list (by decide)
          · cases List.mem_singleton.mp h
            exact io
    have eus : ts.map V.ref ++ [V.ref s1, V.ref s2, V.ref a] = (ts ++ [s1, s2, a]).map V.ref := by
      rw [List.map_append]
      rfl
    refine ⟨q, Z, ts.map V.ref ++ [V.ref s1, V.ref s2, V.ref a], rfl, upd_same, by rw [List.length_append]; show 1 ≤ _ + 3; omega, by rw [List.length_append, List.length_map, lts]; show 4 + 3 ≤ 100; decide, Zq, m25.pot, m25.tab, fun H26 x c26 hx => ?_⟩
    rw [eus] at hx
    obtain ⟨tx, htx, rfl⟩ := List.mem_map.mp hx
    obtain ⟨jx, hjx⟩ := List.getElem?_of_mem htx
    obtain ⟨u, hu', ux⟩ := Paired.getL kus hjx
    have iux := ius u (List.mem_of_getElem? hu')
    have ux26 := c26.ordT m25.tab m25.pot ux
    have m26 := m25.trans c26
    have a26 := c26.ordT m25.tab m25.pot (h25.ord t5 a5)
    have r26 := c26.ordT m25.tab m25.pot (h25.ord t5 r5)
    refine ⟨.ref a, rfl, .ref tx, rfl, a, tx, o, u, rfl, a26.lt, ux26.lt, io, iux, m26.tab, fun H27 v g27 fv => ?_⟩
    cases e : stds o u with
    | nil =>
      rw [e] at fv
      cases (show v = .non from fv)
      exact ⟨rfl, true, rfl, iteT (k _ (m26.then g27))⟩
    | cons y0 r0 =>
      rw [e] at fv
      obtain ⟨t0, rfl, _⟩ := fv
      refine ⟨rfl, false, rfl, iteF ?_⟩
      refine ⟨.ref r, rfl, .ref tx, rfl, r, tx, rsd o pl th, u, rfl, (g27.ord m26.tab r26).lt, (g27.ord m26.tab ux26).lt, ir, iux, g27.1, fun H28 v2 g28 fv2 => ⟨rfl, ?_⟩⟩
      have nn := std_rsd (pl := pl) (th := th) (w := u) (ps := y0) io l8 pl1 th1 th2 (by rw [e]; exact .head _)
      cases e2 : stds (rsd o pl th) u with
      | nil => exact absurd e2 nn
      | cons y1 r1 =>
        rw [e2] at fv2
        obtain ⟨t3, rfl, _⟩ := fv2
        exact k _ (m26.then (g27.trans g28))
end
end Lb

set_option Elab.async false
set_option linter.all false
set_option maxRecDepth 100000
set_option maxHeartbeats 4000000
namespace Lb
open PySem PySem.Spec PyProof.Rows L2

theorem Gp.go {T : Addr → Prop} {q : Addr} {H0 H H' : Hp} (g : Gp T q H H') (a : Go T H0 H) (n : H0 q = none) : Go T H0 H' := ⟨g.tab, fun b u nb e => g.old b u nb (ne_of_none e n) (a.2 b u nb e)⟩
theorem inV_vl (t : Nat) : ∀ l : List Nat, inV (.int (t : Int)) (vl l) = decide (t ∈ l)
  | [] => by
    rw [decide_eq_false (by simp)]
    rfl
  | x :: r => by
    have ih := inV_vl t r
    unfold inV at ih ⊢
    rw [show vl (x :: r) = V.int (x : Int) :: vl r from rfl, List.any_cons, ih]
    by_cases e : t = x
    · subst e
      rw [show eqV (V.int (t : Int)) (V.int (t : Int)) = true by unfold eqV; simp, decide_eq_true (show t ∈ t :: r from .head _)]
      rfl
    · rw [show eqV (V.int (x : Int)) (V.int (t : Int)) = false by unfold eqV; simp; omega, Bool.false_or]
      congr 1
      simp [e]
theorem En_some : ∀ n, n ≤ 8 → ∀ k, k ≤ n → 1 ≤ (En n k).length ∧ (En n k).length ≤ 70 := by
  have h : ((List.range 9).all fun n => (List.range (n + 1)).all fun k => decide (1 ≤ (En n k).length ∧ (En n k).length ≤ 70)) = true := by decide +kernel
  intro n hn k hk
  exact of_decide_eq_true (List.all_eq_true.mp (List.all_eq_true.mp h n (List.mem_range.mpr (by omega))) k (List.mem_range.mpr (by omega)))

theorem flat_vl (l : List Nat) : (vl l).all flatV = true := List.all_eq_true.mpr fun v hv => by
  obtain ⟨i, _, rfl⟩ := List.mem_map.mp hv
  rfl
theorem vl_cast (l : List Nat) : vl l = (l.map fun k : Nat => (k : Int)).map V.int := rfl
theorem idx_get {l : List Nat} {g : Nat} (h : g ∈ l) : l.idxOf g < l.length ∧ l.getD (l.idxOf g) 0 = g := by
  have hl := List.idxOf_lt_length_of_mem h
  refine ⟨hl, ?_⟩
  rw [List.getD_eq_getElem?_getD, List.getElem?_eq_getElem hl, Option.getD_some]
  exact List.getElem_idxOf hl
/-- what is left of the places, and the order of the things there -/
def LW (K : PySem.W.Frag) (T : Addr → Prop) (q a t : Addr) (o ps : List Nat) (H : Hp) (m : Nat) (σ : L2.St) (H' : Hp) : Prop :=
  ∃ (lf hh : Addr) (left : List Nat) (gv : Option V), m = left.length ∧ σ = [some (.ref q), some (.ref a), some (.ref t), some (.ref lf), some (.ref hh), gv, none] ∧ Gp T q H H' ∧ H' lf = some (.lst (vl left)) ∧ lf ≠ q ∧ OrdK true H' hh (vl (low (at_ o left))) ∧ Ris left ∧ (∀ p ∈ left, p < o.length) ∧ ps.Sublist left ∧ left.length ≤ 9
section
variable {P : Program} {w : World} {K : PySem.W.Frag} {mg : Str → Option Value} {base : Heap} {T : Addr → Prop}
def spLft (T : Addr → Prop) : Sp := fun vs H Q _ => ∃ (q a : Addr) (o : List Nat), vs = [.ref q, .ref a] ∧ OrdK true H a (vl o) ∧ IsOrd o ∧ o.length ≤ 8 ∧ PotAt H q ∧ Tabs H T ∧ ∀ H', Gp T q H H' → Q (.bl true) H'
theorem ok_left {f : Addr} {fd : FuncData} (F : Fun K "_law_left_right" "_law_left_right" s_left f fd) (D : Defs P w K mg base T) : FnOk P w K mg base CX0 13 f fd ["_law_pot_here", "_law_order_here"] (spLft T) := by
  refine F.ok sc_left (fun vs H Q E h => ?_) (fun cdv A outer s H vs Q E hr h => ?_)
  · obtain ⟨q, a, o, rfl, _⟩ := h
    rfl
  · obtain ⟨q, a, o, rfl, ha, io, l8, pt, ht, k⟩ := h
    have hun := hr.un
    have eu : (A.deeper (envOfC "_law_left_right" (defScope s_left) s.heap.objs.size f cdv)).units = A.units + 3 := rfl
    have hu : A.units + 3 + 64 < cLine := by omega
    refine ⟨_, (pss_cons (ps_set (i := 2) sc_left.nd rfl (Or.inr rfl) (pe_cn D.pick hr (by rfl) (pa_cons (pv 0) (pa_cons (pe_cn D.chs hr (by rfl) (pa_cons (pe_listRg rfl (by rfl) D.B.b.list (prg_1 (by rfl) D.B.b.range (pe_callB call_len (by rfl) D.B.b.len PySem.boot_len (pa_cons (pv 1) pa_nil)))) (pa_cons (pe_op op_add pe_int (pe_cn D.draw hr (by rfl) (pa_cons (pv 0) (pa_cons (pe_callB call_len (by rfl) D.B.b.len PySem.boot_len (pa_cons (pv 1) pa_nil)) pa_nil)))) pa_nil))) pa_nil))))
      (pss_cons (ps_par (i := 3) (j := 4) (by rfl) sc_left.nd rfl rfl (by decide) rfl rfl (pa_cons (pe_listRg rfl (by rfl) D.B.b.list (prg_1 (by rfl) D.B.b.range (pe_callB call_len (by rfl) D.B.b.len PySem.boot_len (pa_cons (pv 1) pa_nil)))) (pa_cons (pv 1) pa_nil)) (by rfl))
      (pss_cons (ps_while PassesOwn.never (pt_cmpR op_gt (pe_callB call_len (by rfl) D.B.b.len PySem.boot_len (pa_cons (pv 3) pa_nil)) (pe_callB call_len (by rfl) D.B.b.len PySem.boot_len (pa_cons (pv 2) pa_nil)) (nomark _))
        (pss_cons (ps_set (i := 5) sc_left.nd rfl (Or.inr rfl) (pe_cn D.pick hr (by rfl) (pa_cons (pv 0) (pa_cons (pe_lc (own := [("_law_place", 6)]) (g := gName 6)  (by rfl) sc_left.nd (pi_list (pv 3)) (blkOk_by (by rfl)) (fun _ _ _ _ _ => (pg_name (i := 6) sc_left.nd rfl (Or.inl rfl))) (fun _ _ _ _ _ => (pts_one (pt_cmpR (show OpR _ _ (rIn K true) from op_notIn_seq) (pv 6) (pv 2) (by with_unfolding_all rfl)))) (fun _ _ _ _ _ => (pv 6))) pa_nil))))
      (pss_cons (ps_set (i := 4) sc_left.nd rfl (Or.inl rfl) (pe_cn D.tko hr (by rfl) (pa_cons (pv 4) (pa_cons (pe_idx (pv 3) (pa_cons (pv 5) pa_nil)) pa_nil))))
      (pss_one (ps_setLc (i := 3) (own := [("_law_place", 6)]) (g := gName 6)  (by rfl) sc_left.nd rfl rfl (by rfl) (pi_list (pv 3)) (blkOk_by (by rfl)) (fun _ _ _ _ _ => (pg_name (i := 6) sc_left.nd rfl (Or.inl rfl))) (fun _ _ _ _ _ => (pts_one (pt_cmpR (show OpR _ _ rNe from op_ne) (pv 6) (pv 5) (nomark _)))) (fun _ _ _ _ _ => (pv 6)))))))
      (pss_one (ps_ret (pe_and (pe_cmpR (op_eqD hu) (pv 4) (pe_cn D.atp hr (by rfl) (pa_cons (pv 1) (pa_cons (pv 2) pa_nil))) (nomark _)) (pe_one (pe_cmpR (op_eqD hu) (pv 4) (pe_cn D.low hr (by rfl) (pa_cons (pe_lc (own := [("_law_place", 6)]) (g := gName 6) (tt := tYes) (by rfl) sc_left.nd (pi_seq (pv 2)) (blkOk_by (by rfl)) (fun _ _ _ _ _ => (pg_name (i := 6) sc_left.nd rfl (Or.inl rfl))) (fun _ _ _ _ _ => pts_nil) (fun _ _ _ _ _ => (pe_ix (show IxR _ (rIx K) from ix_seq) (pv 1) (pv 6) (fun _ _ => rfl)))) pa_nil)) (nomark _))))))))), ?_⟩
    have b1 := io.lo
    have b8 := io.hi
    have l1 := lenV_seq (K := K) ha.lt
    rw [vl_len] at l1
    refine ⟨.ref q, rfl, .ref a, rfl, .ref a, _, rfl, l1, _, rfl, RgOk.of_le (by omega) (by omega) (by omega) (by omega), fun l hl => ?_⟩
    rw [rg0_vl]
    have g1 := Go.new (o := .lst (vl (List.range o.length))) ht hl
    have lq := pt.ne hl
    have m1 := g1.gp ht pt
    have l1' := lenV_seq (K := K) (m1.ordT ht pt ha).lt
    rw [vl_len] at l1'
    refine ⟨.ref q, rfl, .ref a, rfl, .ref a, _, rfl, l1', q, o.length, rfl, b1, by omega, m1.pot, m1.tab, fun H2 d c2 hd => ⟨1, _, rfl, rfl, d + 1, by omega, l, List.range o.length, ?_, .inl (SqL.of (c2.lst m1.tab lq upd_same)), by rw [List.length_range]; omega, c2.tab, fun H3 p ts g3 hp ep op => ?_⟩⟩
    · show [V.ref l, V.int (1 + (d : Int))] = _
      rw [show (1 : Int) + (d : Int) = ((d + 1 : Nat) : Int) by omega]
    have lts := Paired.length op
    have bd := En_some o.length l8 (d + 1) (by omega)
    rw [En_chs] at bd
    have few := chs_few (l := List.range o.length) (by rw [List.length_range]; exact b8) (n := d + 1) (by omega)
    have some_ : 1 ≤ (chs (List.range o.length) (d + 1)).length := by
      have z := chs_of (ps := List.range (d + 1)) (l := List.range o.length) (List.range_sublist.mpr (by omega))
      rw [List.length_range] at z
      exact List.length_pos_of_mem z
    have m2 := m1.trans c2
    have m3 := m2.then g3
    have pq := m2.pot.ne hp
    refine ⟨q, p, ts.map V.ref, rfl, ep, by rw [List.length_map]; omega, by rw [List.length_map]; omega, pq, m3.pot, m3.tab, fun H4 x c4 hx => ?_⟩
    obtain ⟨t, ht', rfl⟩ := List.mem_map.mp hx
    obtain ⟨i0, hi0⟩ := List.getElem?_of_mem ht'
    obtain ⟨ps, hps, et⟩ := Paired.getL op hi0
    have mps := List.mem_of_getElem? hps
    have lps := chs_mem mps
    have rps : Ris ps := List.Pairwise.sublist (chs_sub mps) (ris_range _)
    have sps : ps.Sublist (List.range o.length) := chs_sub mps
    have inn : ∀ x ∈ ps, x < o.length := fun x hx => List.mem_range.mp (sps.subset hx)
    have et4 := c4.seqT m3.tab m3.pot et
    have m4 := m3.trans c4
    have ha4 := m4.ordT ht pt ha
    clear op ep hi0 hx ht' et
    have l4 := lenV_seq (K := K) ha4.lt
    rw [vl_len] at l4
    refine ⟨.ref a, rfl, .ref a, _, rfl, l4, _, rfl, RgOk.of_le (by omega) (by omega) (by omega) (by omega), fun lf hlf => ⟨.ref a, rfl, _, _, rfl, ?_⟩⟩
    rw [rg0_vl]
    have g5 := Go.new (o := .lst (vl (List.range o.length))) m4.tab hlf
    have lfq := m4.pot.ne hlf
    have m5 := m4.then g5
    have et5 := g5.seqT m4.tab et4
    have ha5 := g5.ord m4.tab ha4
    have elow : low (at_ o (List.range o.length)) = o := by rw [at_all, low_ord io]
    refine ⟨fun m σ H' => LW K T q a t o ps (upd H4 lf (.lst (vl (List.range o.length)))) m σ H', ⟨_, lf, a, List.range o.length, none, rfl, rfl, Gp.refl m5.tab m5.pot, upd_same, lfq, by rw [elow]; exact ha5, ris_range _, fun p hp => List.mem_range.mp hp, sps, by rw [List.length_range]; exact b8⟩, ?_⟩
    generalize (upd H4 lf (.lst (vl (List.range o.length)))) = H5 at m5 et5 ha5 ⊢
    clear hlf g5 lfq
    rintro m σ H6 ⟨lf, hh, left, gv, rfl, rfl, c6, elf, lfq, ehh, rl, bl, sl, n9⟩
    have t6 := c6.tab
    have p6 := c6.pot
    have et6 := c6.seqT m5.tab m5.pot et5
    have lL := lenV_seq (K := K) (H := H6) (a := lf) (.inl (SqL.of elf))
    have lT := lenV_seq (K := K) (H := H6) (a := t) (.inr et6)
    rw [vl_len] at lL lT
    refine ⟨.ref lf, rfl, .ref lf, _, rfl, lL, .ref t, rfl, .ref t, _, rfl, lT, _, _, rfl, rfl, _, rfl, ?_⟩
    have slen := sl.length_le
    by_cases c : ps.length < left.length
    · rw [decide_eq_true (show (ps.length : Int) < (left.length : Int) by omega)]
      refine iteT ?_
      refine ⟨fun σ' H' => ∃ m', m' < left.length ∧ LW K T q a t o ps H5 m' σ' H', fun σ' H' ⟨m', lt, w⟩ => ⟨m', lt, w⟩, ?_⟩
      have cnt2 := left_more rl sl
      refine ⟨.ref q, rfl, .ref lf, rfl, lf, rfl, ⟨_, SqL.of elf⟩, fun C hC => ?_⟩
      have Cq := p6.ne hC
      refine lc_list (xs := vl left) (fun i H7 => Made T H6 C ((left.take i).filter fun y => decide (y ∉ ps)) H7) (Made.start t6 hC) (fun i H7 _ mm => SqL.of ((mm.go hC).lst t6 elf)) (fun i x H7 hx mm => ?_) (fun H7 mm => ?_)
      · obtain ⟨y, hy, rfl⟩ := vl_inv hx
        have hi := (List.getElem?_eq_some_iff.mp hy).1
        have mo := mm.more (k := y) hC t6 (Go.refl mm.1)
        have lfn := List.length_filter_le (fun y => decide (y ∉ ps)) (left.take i)
        rw [List.length_take] at lfn
        rw [take_snoc hy, List.filter_append]
        refine ⟨rfl, .int (y : Int), rfl, .ref t, rfl, t, vl ps, rfl, .inr ((mm.go hC).seqT t6 et6), rfl, flat_vl ps, ?_⟩
        by_cases c3 : y ∈ ps
        · refine ⟨false, congrArg V.bl (by show (!inV _ _) = false; rw [inV_vl, decide_eq_true c3]; rfl), iteF ?_⟩
          rw [List.filter_cons_of_neg (by simp [c3]), List.filter_nil, List.append_nil]
          exact mm
        · refine ⟨true, congrArg V.bl (by show (!inV _ _) = true; rw [inV_vl, decide_eq_false c3]; rfl), iteT ⟨.int (y : Int), rfl, _, mo.1, by rw [vl_len]; exact small9 (by omega), ?_⟩⟩
          rw [List.filter_cons_of_pos (by exact decide_eq_true c3), List.filter_nil]
          exact mo.2
      rw [vl_len, List.take_length] at mm
      have g7 := mm.go hC
      have m67 := c6.then g7
      have pk := m67.pot
      refine ⟨q, C, vl (left.filter fun y => decide (y ∉ ps)), rfl, mm.2.2, by rw [vl_len]; omega, by rw [vl_len]; omega, Cq, m67.pot, m67.tab, fun H8 x c8 hx => ?_⟩
      obtain ⟨i0, _, rfl⟩ := List.mem_map.mp hx
      obtain ⟨gn, hgn, rfl⟩ := List.mem_map.mp (show i0 ∈ (left.filter fun y => decide (y ∉ ps)).map fun k : Nat => (k : Int) by
        obtain ⟨j0, hj0, e0⟩ := List.mem_map.mp hx
        cases e0
        exact hj0)
      obtain ⟨gl, gp0⟩ := List.mem_filter.mp hgn
      have gnp : gn ∉ ps := of_decide_eq_true gp0
      have m8 := m67.trans c8
      have elf8 := c8.lst m67.tab lfq (g7.lst t6 elf)
      have ehh8 := c8.ordT m67.tab m67.pot (g7.ord t6 ehh)
      obtain ⟨ixl, ixg⟩ := idx_get gl
      have lat := len_at o left
      have llo := len_low (at_ o left)
      have il := low_is_ord (inj_at io rl bl) (by omega) (by omega)
      refine ⟨.ref hh, rfl, .ref lf, rfl, false, lf, left.map fun k : Nat => (k : Int), rfl, elf8, .int (gn : Int), rfl, (gn : Int), rfl, elf8, List.mem_map.mpr ⟨gn, gl, rfl⟩, hh, low (at_ o left), left.idxOf gn, ?_, ehh8.lt, il, by omega, by omega, m8.tab, fun H9 x g9 hx9 ex => ?_⟩
      · show [V.ref hh, V.int (((left.map fun k : Nat => (k : Int)).idxOf (gn : Int) : Nat) : Int)] = _
        rw [idx_cast]
      rw [tko_left io rl bl ixl n9, ixg] at ex
      have m9 := m8.then g9
      have elf9 := g9.lst m8.tab elf8
      have t9 := m9.tab
      refine ⟨.ref lf, rfl, lf, rfl, ⟨_, SqL.of elf9⟩, fun L2 hL2 => ?_⟩
      have Lq := m9.pot.ne hL2
      refine lc_list (xs := vl left) (fun i H10 => Made T H9 L2 ((left.take i).filter fun y => decide (y ≠ gn)) H10) (Made.start t9 hL2) (fun i H10 _ mm => SqL.of ((mm.go hL2).lst t9 elf9)) (fun i x H10 hx mm => ?_) (fun H10 mm => ?_)
      · obtain ⟨y, hy, rfl⟩ := vl_inv hx
        have mo := mm.more (k := y) hL2 t9 (Go.refl mm.1)
        have lfn := List.length_filter_le (fun y => decide (y ≠ gn)) (left.take i)
        rw [List.length_take] at lfn
        rw [take_snoc hy, List.filter_append]
        refine ⟨rfl, .int (y : Int), rfl, .int (gn : Int), rfl, rfl, _, rfl, ?_⟩
        by_cases c3 : y = gn
        · rw [decide_eq_true (show V.int (y : Int) = V.int (gn : Int) by rw [c3])]
          refine iteF ?_
          rw [List.filter_cons_of_neg (by simp [c3]), List.filter_nil, List.append_nil]
          exact mm
        · rw [decide_eq_false (show ¬ V.int (y : Int) = V.int (gn : Int) from fun z => c3 (by injection z with z; omega))]
          refine iteT ⟨.int (y : Int), rfl, _, mo.1, by rw [vl_len]; exact small9 (by omega), ?_⟩
          rw [List.filter_cons_of_pos (by exact decide_eq_true (show y ≠ gn from c3)), List.filter_nil]
          exact mo.2
      rw [vl_len, List.take_length] at mm
      have g10 := mm.go hL2
      have m10 := m9.then g10
      have sub2 := left_sub sl gnp
      have shorter : (left.filter fun y => decide (y ≠ gn)).length < left.length := by
        rcases Nat.lt_or_ge (left.filter fun y => decide (y ≠ gn)).length left.length with h | h
        · exact h
        · have := (List.filter_sublist (l := left) (p := fun y => decide (y ≠ gn))).eq_of_length (Nat.le_antisymm (List.length_filter_le _ _) h)
          rw [← this] at gl
          exact absurd rfl (of_decide_eq_true (List.mem_filter.mp gl).2)
      exact ⟨_, shorter, L2, x, left.filter fun y => decide (y ≠ gn), _, rfl, rfl, m10, mm.2.2, Lq, g10.ord t9 ex, List.Pairwise.filter _ rl, fun p hp => bl p (List.mem_filter.mp hp).1, sub2, Nat.le_trans (List.length_filter_le _ _) n9⟩
    · rw [decide_eq_false (show ¬ (ps.length : Int) < (left.length : Int) by omega)]
      refine iteF ?_
      have el : ps = left := sl.eq_of_length (by omega)
      subst el
      have m6 := m5.trans c6
      have a6 := m6.ordT ht pt ha
      have lat := len_at o ps
      have il := low_is_ord (inj_at io rl bl) (by omega) (by omega)
      have nz : Nice 1 404 (.tuple (dl (low (at_ o ps)))) := il.nice.2
      refine ⟨.ref hh, rfl, .ref a, rfl, .ref t, rfl, a, t, o, ps, rfl, a6.lt, .inr et6, io, inn, rl, by omega, by omega, t6, fun H7 x g7 hx ex => ?_⟩
      refine eq_data (ord_dp (g7.ord t6 ehh)) (ord_dp ex) nz (by decide) ⟨true, rfl, iteT ?_⟩
      have t7 := g7.1
      have a7 := g7.ord t6 a6
      have et7 := g7.seqT t6 et6
      refine ⟨.ref hh, rfl, .ref t, rfl, true, t, rfl, ⟨_, et7⟩, fun M hM => ?_⟩
      refine lc_seq (b := true) (xs := vl ps) (fun j H8 => Made T H7 M ((at_ o ps).take j) H8) (Made.start t7 hM) (fun j H8 _ mm => (mm.go hM).seqT t7 et7) (fun j x H8 hx mm => ?_) (fun H8 mm => ?_)
      · obtain ⟨y, hy, rfl⟩ := vl_inv hx
        have hj := (List.getElem?_eq_some_iff.mp hy).1
        have mo := mm.more (k := o.getD y 0) hM t7 (Go.refl mm.1)
        refine ⟨rfl, .ref a, rfl, .int (y : Int), rfl, ix_at ((mm.go hM).ord t7 a7).lt (i := y) (inn y (List.mem_of_getElem? hy)) rfl ?_⟩
        refine ⟨_, mo.1, by rw [vl_len, List.length_take]; exact small9 (by omega), ?_⟩
        have e : (at_ o ps)[j]? = some (o.getD y 0) := by
          unfold at_
          rw [List.getElem?_map, hy]
          rfl
        rw [take_snoc e]
        exact mo.2
      rw [vl_len, List.take_of_length_le (by omega)] at mm
      have g8 := mm.go hM
      refine ⟨M, at_ o ps, rfl, .inl (SqL.of mm.2.2), by omega, g8.1, fun H9 z g9 hz ez => ?_⟩
      have g69 := (g7.trans g8).trans g9
      exact eq_data (ord_dp (g69.ord t6 ehh)) (ord_dp ez) nz (by decide) (k _ (m6.then g69))
end
end Lb

set_option Elab.async false
set_option linter.all false
set_option maxRecDepth 100000
set_option maxHeartbeats 4000000
namespace Lb
open PySem PySem.Spec PyProof.Rows L2

section
variable {P : Program} {w : World} {K : PySem.W.Frag} {mg : Str → Option Value} {base : Heap} {T : Addr → Prop}
def spBlt (T : Addr → Prop) : Sp := fun vs H Q _ => ∃ (q : Addr), vs = [.ref q] ∧ PotAt H q ∧ Tabs H T ∧ ∀ H', Gp T q H H' → Q (.bl true) H'
theorem ok_built {f : Addr} {fd : FuncData} (F : Fun K "_law_built_right" "_law_built_right" s_built f fd) (D : Defs P w K mg base T) : FnOk P w K mg base CX0 13 f fd ["_law_pot_here"] (spBlt T) := by
  refine F.ok sc_built (fun vs H Q E h => ?_) (fun cdv A outer s H vs Q E hr h => ?_)
  · obtain ⟨q, rfl, _⟩ := h
    rfl
  · obtain ⟨q, rfl, pt, ht, k⟩ := h
    have hun := hr.un
    have eu : (A.deeper (envOfC "_law_built_right" (defScope s_built) s.heap.objs.size f cdv)).units = A.units + 3 := rfl
    have hu : A.units + 3 + 64 < cLine := by omega
    refine ⟨_, (pss_cons (ps_set (i := 1) sc_built.nd rfl (Or.inl rfl) (pe_op op_add pe_int (pe_cn D.draw hr (by rfl) (pa_cons (pv 0) (pa_cons pe_int pa_nil)))))
      (pss_cons (ps_asg (pe_tup (pa_cons (pe_tupD (pa_cons pe_int pa_nil)) (pa_cons (pe_tupD (pa_cons pe_int pa_nil)) pa_nil))) (pg_tup rfl (pgs_cons (pg_name (i := 2) sc_built.nd rfl (Or.inl rfl)) (pgs_cons (pg_name (i := 3) sc_built.nd rfl (Or.inl rfl)) pgs_nil))))
      (pss_cons (ps_for PassesOwn.never rfl (pi_range1 (by rfl) D.B.b.range (pa_cons (pe_op op_sub (pv 1) pe_int) pa_nil)) (pg_name (i := 4) sc_built.nd rfl (Or.inl rfl))
        (pss_cons (ps_par (i := 5) (j := 6) (by rfl) sc_built.nd rfl rfl (by decide) rfl rfl (pa_cons (pe_cn D.draw hr (by rfl) (pa_cons (pv 0) (pa_cons (pe_op op_add (pe_callB call_len (by rfl) D.B.b.len PySem.boot_len (pa_cons (pv 3) pa_nil)) pe_int) pa_nil))) (pa_cons (pe_op op_add pe_int (pe_cn D.draw hr (by rfl) (pa_cons (pv 0) (pa_cons (pe_op op_add (pe_callB call_len (by rfl) D.B.b.len PySem.boot_len (pa_cons (pv 3) pa_nil)) pe_int) pa_nil)))) pa_nil)) (by rfl))
      (pss_one (ps_par (i := 2) (j := 3) (by rfl) sc_built.nd rfl rfl (by decide) rfl rfl (pa_cons (pe_cn D.pin hr (by rfl) (pa_cons (pv 2) (pa_cons (pv 5) (pa_cons (pv 6) pa_nil)))) (pa_cons (pe_cn D.rsd hr (by rfl) (pa_cons (pv 3) (pa_cons (pv 5) (pa_cons (pv 6) pa_nil)))) pa_nil)) (by rfl)))))
      (pss_one (ps_ret (pe_and (pe_cmpR (op_eqD hu) (pv 2) (pv 3) (nomark _)) (pe_one (pe_cmpR (op_eqD hu) (pe_callB cr_sortLT (by rfl) D.B.b.sorted (by decide +kernel) (pa_cons (pv 2) pa_nil)) (pe_listRg rfl (by rfl) D.B.b.list (prg_2 (by rfl) D.B.b.range pe_int (pe_op op_add (pv 1) pe_int))) (nomark _))))))))), ?_⟩
    refine ⟨.ref q, rfl, q, 8, rfl, by decide, by decide, pt, ht, fun H1 d c1 hd => ⟨2, _, rfl, rfl, ?_⟩⟩
    obtain ⟨n, hn⟩ : ∃ n, n = d + 2 := ⟨_, rfl⟩
    have en : (2 : Int) + (d : Int) = (n : Int) := by omega
    refine ⟨by show 1 ≤ sizeLine; decide, fun t1 o1 d1 h1 => ⟨by show 1 ≤ sizeLine; decide, fun t2 o2 d2 h2 => ⟨by show 2 ≤ sizeLine; decide, fun t ht3 => ?_⟩⟩⟩
    have g1 := Go.new (o := .frz o1 (.tup (vl [1]))) c1.tab h1
    have g2 := Go.new (o := .frz o2 (.tup (vl [1]))) g1.1 h2
    have g3 := Go.new (o := .tup [V.ref t1, V.ref t2]) g2.1 ht3
    have e1 := (g2.trans g3).ord g1.1 (show OrdK true (upd H1 t1 (.frz o1 (.tup (vl [1])))) t1 (vl [1]) from ⟨o1, d1, upd_same⟩)
    have e2 := g3.ord g2.1 (show OrdK true (upd _ t2 (.frz o2 (.tup (vl [1])))) t2 (vl [1]) from ⟨o2, d2, upd_same⟩)
    refine ⟨t, _, rfl, SqT.of upd_same, rfl, _, _, rfl, _, _, rfl, rfl, ?_⟩
    have m3 := c1.then ((g1.trans g2).trans g3)
    refine ⟨.int (n : Int), congrArg (fun x => some (some (V.int x))) en, _, 1, rfl, rfl, _, rfl, by omega, by omega, ?_⟩
    refine for_range (lo := 0) (n := ((n : Int) - 1).toNat) (fun i σ H4 => ∃ (x y : Addr) (o : List Nat) (tv pv thv : Option V), σ = [some (.ref q), some (.int (n : Int)), some (.ref x), some (.ref y), tv, pv, thv] ∧ Gp T q H H4 ∧ OrdK true H4 x (vl o) ∧ OrdK true H4 y (vl o) ∧ IsOrd o ∧ o.length = i + 1)
      ⟨t1, t2, [1], none, none, none, by rw [← en]; rfl, m3, e1, e2, ord_list (by decide), rfl⟩ ?_ ?_
    · rintro i σ H4 hi ⟨x, y, o, tv, pv, thv, rfl, c4, ex, ey, io, lo⟩
      have l8 : o.length ≤ 8 := by omega
      have t4 := c4.tab
      have p4 := c4.pot
      have ly := lenV_seq (K := K) ey.lt
      rw [vl_len] at ly
      have en1 : (o.length : Int) + 1 = ((o.length + 1 : Nat) : Int) := by omega
      refine ⟨.ref q, rfl, .ref y, rfl, .ref y, _, rfl, ly, _, 1, rfl, rfl, q, o.length + 1, ?_, by omega, by omega, p4, t4, fun H5 pl c5 hpl => ?_⟩
      · show [V.ref q, V.int ((o.length : Int) + 1)] = _
        rw [en1]
      have ly5 := lenV_seq (K := K) (c5.ordT t4 p4 ey).lt
      rw [vl_len] at ly5
      refine ⟨.ref q, rfl, .ref y, rfl, .ref y, _, rfl, ly5, _, 1, rfl, rfl, q, o.length + 1, ?_, by omega, by omega, c5.pot, c5.tab, fun H6 th c6 hth => ⟨1, _, rfl, rfl, _, _, rfl, ?_⟩⟩
      · show [V.ref q, V.int ((o.length : Int) + 1)] = _
        rw [en1]
      have eth : (1 : Int) + (th : Int) = ((th + 1 : Nat) : Int) := by omega
      have c46 := c5.trans c6
      have ex6 := c46.ordT t4 p4 ex
      have ey6 := c46.ordT t4 p4 ey
      refine ⟨.ref x, rfl, .int (pl : Int), rfl, .int ((th + 1 : Nat) : Int), congrArg (fun x => some (some (V.int x))) eth, x, o, pl, th + 1, rfl, ex6.lt, io, by omega, by omega, by omega, l8, c6.tab, fun H7 u g7 hu7 eu7 => ?_⟩
      refine ⟨.ref y, rfl, .int (pl : Int), rfl, .int ((th + 1 : Nat) : Int), congrArg (fun x => some (some (V.int x))) eth, y, o, pl, th + 1, rfl, g7.ord c6.tab ey6, l8, by omega, g7.1, fun H8 v g8 ev8 => ⟨_, _, rfl, ?_⟩⟩
      exact ⟨u, v, rsd o pl (th + 1), _, _, _, rfl, (c4.trans c46).then (g7.trans g8), g8.ord g7.1 eu7, ev8, ord_rsd io l8 (by omega) (by omega), by rw [len_rsd, lo]⟩
    · rintro σ H4 ⟨x, y, o, tv, pv, thv, rfl, c4, ex, ey, io, lo⟩
      have lo : o.length = n := by omega
      have t4 := c4.tab
      refine ⟨.ref x, rfl, .ref y, rfl, eq_data (ord_dp ex) (ord_dp ey) io.nice.2 (by decide) ⟨true, rfl, iteT ?_⟩⟩
      refine ⟨.ref x, rfl, x, _, rfl, ex.lt, by rw [List.length_map]; omega, fun ns' p2 hp1 hp2 hn2 => ?_⟩
      have g5 := Go.new (o := .lst (ns'.map V.int)) t4 hn2
      refine ⟨.int (n : Int), rfl, _, 1, rfl, rfl, 1, (n : Int) + 1, rfl, rfl, RgOk.of_le (by omega) (by omega) (by omega) (by omega), fun p4 hn4 => ?_⟩
      have e := sorted_is io hp1 hp2
      have rg := rg_vl o.length
      rw [lo] at e rg
      have n42 : p2 ≠ p4 := ne_of_none upd_same hn4
      have nc := (nice_ord (o := List.range' 1 n) (fun k hk => by obtain ⟨i, hi, e⟩ := List.mem_range'.mp hk; omega) (by rw [List.length_range']; omega)).1
      refine eq_data (d := .list (dl (List.range' 1 n))) (.lst (xs := vl (List.range' 1 n)) (.inl (.inl ?_)) (dp_vl _)) (.lst (xs := vl (List.range' 1 n)) (.inl (.inl ?_)) (dp_vl _)) nc (by decide) ?_
      · rw [upd_ne n42, upd_same, ← rg, ← e]
      · rw [upd_same, rg]
      · exact k _ (c4.then (g5.trans (Go.new g5.1 hn4)))
def spRt (T : Addr → Prop) : Sp := fun vs H Q _ => ∃ (q : Addr), vs = [.ref q] ∧ PotAt H q ∧ Tabs H T ∧ ∀ H', Gp T q H H' → Q (.bl true) H'
theorem ok_right {f : Addr} {fd : FuncData} (F : Fun K "_law_right" "_law_right" s_right f fd) (D : Defs P w K mg base T) (C1 : Cn P w K mg base 13 "_law_put_right" ["_law_pot_here", "_law_order_here"] (spPut T)) (C2 : Cn P w K mg base 13 "_law_left_right" ["_law_pot_here", "_law_order_here"] (spLft T)) (C3 : Cn P w K mg base 13 "_law_built_right" ["_law_pot_here"] (spBlt T)) : FnOk P w K mg base CX0 14 f fd ["_law_pot_here"] (spRt T) := by
  refine F.ok sc_right (fun vs H Q E h => ?_) (fun cdv A outer s H vs Q E hr h => ?_)
  · obtain ⟨q, rfl, _⟩ := h
    rfl
  · obtain ⟨q, rfl, pt, ht, k⟩ := h
    have hr12 : Room 12 (A.deeper (envOfC "_law_right" (defScope s_right) s.heap.objs.size f cdv)) := hr.mono (by decide)
    refine ⟨_, (pss_cons (ps_for PassesOwn.never rfl (pi_range1 (by rfl) D.B.b.range (pa_cons pe_int pa_nil)) (pg_name (i := 1) sc_right.nd rfl (Or.inl rfl))
        (pss_cons (ps_set (i := 2) sc_right.nd rfl (Or.inl rfl) (pe_cn D.drawn hr12 (by rfl) (pa_cons (pv 0) (pa_cons pe_int pa_nil))))
      (pss_one (ps_if (PW.pt (pw_or (pt_not (pt_val (pe_cn C1 hr (by rfl) (pa_cons (pv 0) (pa_cons (pv 2) pa_nil))))) (pw_or1 (pt_not (pt_val (pe_cn C2 hr (by rfl) (pa_cons (pv 0) (pa_cons (pv 2) pa_nil))))))))
        (pss_one (ps_ret pe_bl)) pss_nil))))
      (pss_one (ps_ret (pe_cn C3 hr (by rfl) (pa_cons (pv 0) pa_nil))))), ?_⟩
    refine ⟨(4 : Int), rfl, by decide, by decide, ?_⟩
    refine for_range (lo := 0) (n := ((4 : Int)).toNat) (fun i σ H1 => ∃ ov tv : Option V, σ = [some (.ref q), tv, ov] ∧ Gp T q H H1) ⟨none, none, rfl, Gp.refl ht pt⟩ ?_ ?_
    · rintro i σ H1 hi ⟨ov, tv, rfl, c1⟩
      refine ⟨.ref q, rfl, q, 8, rfl, by decide, by decide, c1.pot, c1.tab, fun H2 p o c2 ep io l8 => ?_⟩
      refine ⟨.ref q, rfl, .ref p, rfl, q, p, o, rfl, ep, io, l8, c2.pot, c2.tab, fun H3 c3 => ⟨true, rfl, iteF ?_⟩⟩
      refine ⟨.ref q, rfl, .ref p, rfl, q, p, o, rfl, c3.ordT c2.tab c2.pot ep, io, l8, c3.pot, c3.tab, fun H4 c4 => ⟨true, rfl, iteF ?_⟩⟩
      exact ⟨_, _, rfl, c1.trans ((c2.trans c3).trans c4)⟩
    · rintro σ H1 ⟨ov, tv, rfl, c1⟩
      exact ⟨.ref q, rfl, q, rfl, c1.pot, c1.tab, fun H2 c2 => k _ (c1.trans c2)⟩
def spLaw (K : PySem.W.Frag) (T : Addr → Prop) : Sp := fun vs H Q _ => ∃ (a : Addr) (ns : List Int), vs = [.ref a] ∧ SqL K H a (ns.map V.int) ∧ ns.length ≤ 63 ∧ Tabs H T ∧ ∀ H', Q (.bl true) H'
theorem ok_law {f : Addr} {fd : FuncData} (F : Fun K "law" "law" s_law f fd) (D : Defs P w K mg base T) (C : Cn P w K mg base 14 "_law_right" ["_law_pot_here"] (spRt T)) :
    FnG P w K mg base 15 f fd ["_law_script"] (spLaw K T) := by
  refine okG F sc_law (fun vs H Q E h => ?_) (fun cdv A outer s H vs Q E hg hr h => ?_)
  · obtain ⟨a, ns, rfl, _⟩ := h
    rfl
  · obtain ⟨a, ns, rfl, ha, hl, ht, k⟩ := h
    have hr12 : Room 12 (A.deeper (envOfC "law" (defScope s_law) s.heap.objs.size f cdv)) := hr.mono (by decide)
    refine ⟨_, (pss_one (ps_ret (pe_callB (cr_all rfl) (by rfl) D.B.b.all (by decide +kernel) (pa_cons (pe_lc (own := [("_law_k", 1)]) (g := gName 1) (tt := tYes) (by rfl) sc_law.nd (pi_range1 (by rfl) D.B.b.range (pa_cons (pe_callB (call_max2 rfl) (by rfl) D.B.max (by decide +kernel) (pa_cons pe_int (pa_cons (pe_callB (call_min2 rfl) (by rfl) D.B.min (by decide +kernel) (pa_cons pe_int (pa_cons (pe_callB call_len_seq (by rfl) D.B.b.len PySem.boot_len (pa_cons (pv 0) pa_nil)) pa_nil))) pa_nil))) pa_nil)) (blkOk_by (by rfl)) (fun _ _ _ _ _ => (pg_name (i := 1) sc_law.nd rfl (Or.inl rfl))) (fun _ _ _ _ _ => pts_nil) (fun _ _ _ _ _ => (pe_cn C hr (by rfl) (pa_cons (pe_cn D.pot hr12 (by rfl) (pa_cons (pv 0) (pa_cons (pv 1) pa_nil))) pa_nil)))) pa_nil)))), ?_⟩
    refine ⟨.ref a, rfl, a, _, rfl, .inl ha, 2, _, rfl, 1, _, rfl, ?_⟩
    rw [List.length_map]
    obtain ⟨n, e, hn⟩ : ∃ n : Nat, (if (if (ns.length : Int) < 2 then (ns.length : Int) else 2) > 1 then (if (ns.length : Int) < 2 then (ns.length : Int) else 2) else 1) = (n : Int) ∧ n ≤ 2 := by
      by_cases h3 : (ns.length : Int) < 2
      · rw [if_pos h3]
        by_cases h1 : (ns.length : Int) > 1
        · rw [if_pos h1]
          exact ⟨ns.length, rfl, by omega⟩
        · rw [if_neg h1]
          exact ⟨1, rfl, by decide⟩
      · rw [if_neg h3, if_pos (by decide)]
        exact ⟨2, rfl, by decide⟩
    rw [e]
    refine ⟨(n : Int), rfl, by omega, by omega, fun L hL => ?_⟩
    refine lc_range (lo := 0) (n := ((n : Int)).toNat) (fun i H2 => Go T H H2 ∧ H2 L = some (.lst ((List.replicate i true).map V.bl))) ⟨Go.new ht hL, upd_same⟩ (fun i H2 hi m => ?_) (fun H2 m => ?_)
    · obtain ⟨g, eL⟩ := m
      refine ⟨rfl, .ref a, rfl, .int (0 + (i : Int)), rfl, a, ns, i, ?_, g.seqL ht ha, hl, by omega, g.1, fun H3 q g3 hq pq => ?_⟩
      · rw [Int.zero_add]
        rfl
      · have g3' := g.trans g3
        have hq0 := g.free hq
        refine ⟨q, rfl, pq, g3.1, fun H4 c4 => ?_⟩
        have g4 := c4.go g3' hq0
        have qL : L ≠ q := fun z => by
          rw [z, hq] at eL
          cases eL
        have eL4 := c4.lst g3.1 qL (g3.lst g.1 eL)
        refine ⟨_, eL4, by rw [List.length_map, List.length_replicate]; exact small9 (by omega), g4.put hL ht, ?_⟩
        rw [upd_same, List.replicate_succ', List.map_append]
        rfl
    · obtain ⟨g, eL⟩ := m
      refine ⟨L, List.replicate ((n : Int)).toNat true, rfl, SqL.of eL, ?_⟩
      rw [all_true]
      exact k H2
end
end Lb

set_option Elab.async false
set_option linter.all false
set_option maxRecDepth 100000
set_option maxHeartbeats 4000000
namespace Lb
open PySem PySem.Spec PyProof.Rows L2

section
variable {P : Program} {w : World} {K : PySem.W.Frag} {mg : Str → Option Value} {base : Heap} {T : Addr → Prop}
theorem ok_choicesA {f : Addr} {fd : FuncData} (DA : Df K mg "_law_choices" s_choices ["_law_some", "_law_many"] f fd) (B : Bl2 mg) : FnOk P w K mg base CX0 10 f fd ["_law_some", "_law_many"] (spChA K T) := ⟨fun vs H Q E ⟨n, h, s⟩ => (ok_choices (P := P) (w := w) (base := base) DA B n h).len vs H Q E s, fun A outer s H args us vs Q E hr he hb hv ⟨n, h, sp⟩ => ((ok_choices DA B n h).mono (by omega)).run A outer s H args us vs Q E hr he hb hv sp⟩
end
end Lb

set_option Elab.async false
set_option linter.all false
set_option maxRecDepth 100000
set_option maxHeartbeats 8000000
namespace Lb
open PySem PySem.Spec PyProof.Rows L2

section
variable {K : PySem.W.Frag} {mg : Str → Option Value} {h : Heap} {x : Str} {st : Stmt} {ps : List Str} {f : Addr} {oc : Value} {od an : Option Addr} {osl : Array (Option Value)} {kV doc pm cdv ct : Value}
theorem df_mk (X : K.In h) (G : h.Ns mainGlobals mg)
    (b : ∀ (kV doc pm : Value) (an : Option Addr) (cdv ct : Value) (us : List Value), us.length = ps.length → bindArgs (PySem.W.fnOf x x (defArgs st) (defBody st) (defScope st) .none kV doc pm an cdv ct) ⟨us, []⟩ = pure (ps.zip us))
    (a : PySem.W.nsIn K mainGlobals x = some (some (.ref f))) (l : K.lookup f = some ⟨oc, od, .func (PySem.W.fnOf x x (defArgs st) (defBody st) (defScope st) .none kV doc pm an cdv ct), osl⟩) (c : PySem.W.codeIn K cdv x = true) (k : PySem.W.keepIn K (.ref f) = true) :
    Df K mg x st ps f (PySem.W.fnOf x x (defArgs st) (defBody st) (defScope st) .none kV doc pm an cdv ct) := ⟨fun_mk l c k, PySem.W.mg_of X G a, (fun_mk l c k).binds b⟩
end
section
variable {K : PySem.W.Frag} {x : Str} {st : Stmt} {f : Addr} {fd : FuncData}
theorem kb_two {p r : Str} (F : Fun K x x st f fd)
    (b : ∀ (kV doc pm : Value) (an : Option Addr) (cdv ct a c : Value), bindArgs (PySem.W.fnOf x x (defArgs st) (defBody st) (defScope st) .none kV doc pm an cdv ct) ⟨[], [(r, a), (p, c)]⟩ = pure [(p, c), (r, a)]) : KBinds K fd [p, r] [r, p] kw2 kw2 := by
  obtain ⟨oc, od, kV, doc, pm, an, cdv, ct, osl, rfl, lk, hcd⟩ := F.ex
  exact ⟨fun s us ws _ hl => match us, ws, hl with
    | [], [a, c], _ => .of_eq (b kV doc pm an cdv ct a c), kw2_rel⟩
theorem kb_three {p r t : Str} (F : Fun K x x st f fd)
    (b : ∀ (kV doc pm : Value) (an : Option Addr) (cdv ct a c d : Value), bindArgs (PySem.W.fnOf x x (defArgs st) (defBody st) (defScope st) .none kV doc pm an cdv ct) ⟨[], [(t, a), (r, c), (p, d)]⟩ = pure [(p, d), (r, c), (t, a)]) : KBinds K fd [p, r, t] [t, r, p] kw3 kw3 := by
  obtain ⟨oc, od, kV, doc, pm, an, cdv, ct, osl, rfl, lk, hcd⟩ := F.ex
  exact ⟨fun s us ws _ hl => match us, ws, hl with
    | [], [a, c, d], _ => .of_eq (b kV doc pm an cdv ct a c d), kw3_rel⟩
end

section
variable {P : Program} {w : World} {K : PySem.W.Frag} {mg : Str → Option Value} {base : Heap} {c1 c2 c3 t1 t2 t3 : Addr}
/-- the code tables -/
def Ts (t1 t2 t3 : Addr) : Addr → Prop := fun b => b = t1 ∨ b = t2 ∨ b = t3
theorem law_fn {fO fI fIL fW fAW fRL fC fCP fIP fIZ fWA fLP fST fSS fAP fPI fTO fWP fLV fUN fL1 fL2 fL3 fL4 fL5 fL6 fL7 fL8 fL9 fL10 fM1 fM2 fM4 fM3 fM5 : Addr} {dO dI dIL dW dAW dRL dC dCP dIP dIZ dWA dLP dST dSS dAP dPI dTO dWP dLV dUN dL1 dL2 dL3 dL4 dL5 dL6 dL7 dL8 dL9 dL10 dM1 dM2 dM4 dM3 dM5 : FuncData}
    (o1 : dO.code = .ref c1) (T1 : GxR.TabB base mg c1 t1) (o2 : dAW.code = .ref c2) (T2 : GxR.TabB base mg c2 t2) (o3 : dRL.code = .ref c3) (T3 : GxR.TabB base mg c3 t3) (N : ∃ t, mg "MOST_THINGS" = some (.int 9 t)) (B : Bl2 mg) (mz : mg "zip" = none)
    (O : Df K mg "is_order" s_is_order ["value"] fO dO)
    (I : Df K mg "is_integer" s_is_integer ["value"] fI dI)
    (IL : Df K mg "is_list" s_is_list ["value"] fIL dIL)
    (W : Df K mg "is_within_bounds" s_is_within_bounds ["value", "low", "high"] fW dW)
    (AW : Df K mg "are_within_bounds" s_awb ["value", "low", "high"] fAW dAW)
    (RL : Df K mg "is_rising_list" s_is_rising_list ["value", "low", "high"] fRL dRL)
    (C : Df K mg "check_order" s_check_order ["order"] fC dC)
    (CP : Df K mg "check_place" s_check_place ["order", "place"] fCP dCP)
    (IP : Df K mg "is_places" s_is_places ["order", "value"] fIP dIP)
    (IZ : Df K mg "in_sizes" s_in_sizes ["things"] fIZ dIZ)
    (WA : Df K mg "way_at" s_way_at ["order", "places"] fWA dWA)
    (LP : Df K mg "longer_places" s_longer_places ["size", "places"] fLP dLP)
    (ST : Df K mg "standings" s_standings ["order", "way"] fST dST)
    (SS : Df K mg "stands" s_stands ["order", "way"] fSS dSS)
    (AP : Df K mg "at_places" s_at_places ["order", "places"] fAP dAP)
    (PI : Df K mg "put_in" s_put_in ["order", "place", "thing"] fPI dPI)
    (TO : Df K mg "taken_out" s_taken_out ["order", "place"] fTO dTO)
    (WP : Df K mg "wrong_pairs" s_wrong_pairs ["order"] fWP dWP)
    (LV : Df K mg "level" s_level ["order"] fLV dLV)
    (UN : Df K mg "undone" s_undone ["order"] fUN dUN)
    (L1 : Df K mg "_law_pot" s_pot ["_law_script", "_law_k"] fL1 dL1)
    (L2 : Df K mg "_law_draw" s_draw ["_law_pot_here", "_law_size"] fL2 dL2)
    (L3 : Df K mg "_law_pick" s_pick ["_law_pot_here", "_law_some"] fL3 dL3)
    (L4 : Df K mg "_law_order" s_order ["_law_pot_here", "_law_size"] fL4 dL4)
    (L5 : Df K mg "_law_passed" s_passed ["_law_pot_here", "_law_order_here"] fL5 dL5)
    (L6 : Df K mg "_law_raised" s_raised ["_law_order_here", "_law_place", "_law_thing"] fL6 dL6)
    (L7 : Df K mg "_law_four" s_four [] fL7 dL7)
    (L8 : Df K mg "_law_drawn" s_drawn ["_law_pot_here", "_law_most"] fL8 dL8)
    (L9 : Df K mg "_law_choices" s_choices ["_law_some", "_law_many"] fL9 dL9)
    (L10 : Df K mg "_law_lowered" s_lowered ["_law_things"] fL10 dL10)
    (M1 : Df K mg "_law_put_right" s_putr ["_law_pot_here", "_law_order_here"] fM1 dM1)
    (M2 : Df K mg "_law_left_right" s_left ["_law_pot_here", "_law_order_here"] fM2 dM2)
    (M4 : Df K mg "_law_built_right" s_built ["_law_pot_here"] fM4 dM4)
    (M3 : Df K mg "_law_right" s_right ["_law_pot_here"] fM3 dM3)
    (M5 : Df K mg "law" s_law ["_law_script"] fM5 dM5)
    (k1 : KBinds K dPI ["order", "place", "thing"] ["thing", "place", "order"] kw3 kw3) (k2 : KBinds K dTO ["order", "place"] ["place", "order"] kw2 kw2) :
    FnG P w K mg base 15 fM5 dM5 ["_law_script"] (spLaw K (Ts t1 t2 t3)) := by
  have io : Io K mg base (Ts t1 t2 t3) c1 fO fI dO dI := ⟨O, o1, ⟨t1, .inl rfl, T1⟩, I, N, B.b⟩
  have ga : FnOk P w K mg base CX0 2 fAW dAW ["value", "low", "high"] (spAwb K (Ts t1 t2 t3)) := ok_awb AW.fn o2 (.inr (.inl rfl)) T2 IL W I B.b
  have rl : FnOk P w K mg base CX0 3 fRL dRL ["value", "low", "high"] (spRis K (Ts t1 t2 t3)) := ok_is_rising_list RL.fn o3 (.inr (.inr rfl)) T3 (AW.cn ga) B mz
  have ip : FnOk P w K mg base CX0 4 fIP dIP ["order", "value"] (spIpl K (Ts t1 t2 t3)) := ok_is_places IP.fn (RL.cn rl) B
  have ck : FnOk P w K mg base CX0 4 fC dC ["order"] (spChk K (Ts t1 t2 t3)) := (ok_check_order C.fn io).mono (by decide)
  have iz : FnOk P w K mg base CX0 1 fIZ dIZ ["things"] (spSz K (Ts t1 t2 t3)) := ok_in_sizes IZ.fn B
  have wa : FnOk P w K mg base CX0 4 fWA dWA ["order", "places"] (spWay K (Ts t1 t2 t3)) := (ok_way_at WA.fn (IZ.cn iz) B).mono (by decide)
  have lp : FnOk P w K mg base CX0 4 fLP dLP ["size", "places"] (spLong K (Ts t1 t2 t3)) := (ok_longer_places LP.fn B).mono (by decide)
  have st0 : FnOk P w K mg base CX0 5 fST dST ["order", "way"] (spStd K (Ts t1 t2 t3)) := ok_standings ST.fn (C.cn ck) (IZ.cn (iz.mono (by decide))) (LP.cn lp) (WA.cn wa) B
  have st : FnOk P w K mg base CX0 6 fST dST ["order", "way"] (spStd K (Ts t1 t2 t3)) := st0.mono (by decide)
  have ss : FnOk P w K mg base CX0 6 fSS dSS ["order", "way"] (spSts K (Ts t1 t2 t3)) := ok_stands SS.fn (ST.cn st0)
  have ap : FnOk P w K mg base CX0 6 fAP dAP ["order", "places"] (spAtp K (Ts t1 t2 t3)) := (ok_at_places AP.fn (C.cn ck) (IP.cn ip) (WA.cn wa)).mono (by decide)
  have dr1 : FnOk P w K mg base CX0 1 fL2 dL2 ["_law_pot_here", "_law_size"] (spDraw (Ts t1 t2 t3)) := ok_draw L2.fn B
  have dr : FnOk P w K mg base CX0 2 fL2 dL2 ["_law_pot_here", "_law_size"] (spDraw (Ts t1 t2 t3)) := dr1.mono (by decide)
  have pk : FnOk P w K mg base CX0 2 fL3 dL3 ["_law_pot_here", "_law_some"] (spPick (Ts t1 t2 t3)) := ok_pick L3.fn (L2.cn dr1) B
  have od : FnOk P w K mg base CX0 2 fL4 dL4 ["_law_pot_here", "_law_size"] (spLord (Ts t1 t2 t3)) := ok_lorder L4.fn (L2.cn dr1) B
  have pa : FnOk P w K mg base CX0 6 fL5 dL5 ["_law_pot_here", "_law_order_here"] (spPass K (Ts t1 t2 t3)) := (ok_passed L5.fn (L2.cn dr) B).mono (by decide)
  have rs : FnOk P w K mg base CX0 2 fL6 dL6 ["_law_order_here", "_law_place", "_law_thing"] (spRsd (Ts t1 t2 t3)) := (ok_raised L6.fn B).mono (by decide)
  have fo : FnOk P w K mg base CX0 2 fL7 dL7 [] (spFour (Ts t1 t2 t3)) := (ok_four L7.fn B).mono (by decide)
  have dw : FnOk P w K mg base CX0 6 fL8 dL8 ["_law_pot_here", "_law_most"] (spDrawn (Ts t1 t2 t3)) := (ok_drawn L8.fn (L2.cn dr) (L3.cn pk) (L4.cn od) (L6.cn rs) (L7.cn fo) B).mono (by decide)
  have lo : FnOk P w K mg base CX0 1 fL10 dL10 ["_law_things"] (spSz K (Ts t1 t2 t3)) := ok_lowered L10.fn B
  have cp : FnOk P w K mg base CX0 4 fCP dCP ["order", "place"] (spCkp K) := (ok_check_place CP.fn (W.cn (ok_is_within_bounds W.fn I B.b)) B).mono (by decide)
  have tk : FnOk P w K mg base CX0 12 fTO dTO ["order", "place"] (spTko K (Ts t1 t2 t3)) := (ok_taken_out TO.fn (C.cn ck) (CP.cn cp) B).mono (by decide)
  obtain ⟨tN, hN⟩ := N
  have pi : FnOk P w K mg base CX0 12 fPI dPI ["order", "place", "thing"] (spPin K (Ts t1 t2 t3)) := (ok_put_in PI.fn (C.cn ck) (W.cn ((ok_is_within_bounds W.fn I B.b).mono (by decide))) hN B).mono (by decide)
  have D : Defs P w K mg base (Ts t1 t2 t3) :=
    { pin := PI.cn pi, pinK := PI.cnK pi k1, tko := TO.cn tk, tkoK := TO.cnK tk k2, lev := LV.cn ((ok_level LV.fn WP C io).mono (by decide)), und := UN.cn ((ok_undone UN.fn C io).mono (by decide)),
      sts := SS.cn (ss.mono (by decide)), atp := AP.cn (ap.mono (by decide)), chs := L9.cn ((ok_choicesA L9 B).mono (by decide)), low := L10.cn (lo.mono (by decide)), pot := L1.cn ((ok_pot L1.fn B).mono (by decide)), draw := L2.cn (dr.mono (by decide)), pick := L3.cn (pk.mono (by decide)),
      drawn := L8.cn (dw.mono (by decide)), four := L7.cn (fo.mono (by decide)), rsd := L6.cn (rs.mono (by decide)), pas := L5.cn (pa.mono (by decide)), B := B }
  exact ok_law M5.fn D (M3.cn (ok_right M3.fn D (M1.cn (ok_putr M1.fn D)) (M2.cn (ok_left M2.fn D)) (M4.cn (ok_built M4.fn D))))
end
end Lb

set_option Elab.async false
set_option linter.all false
set_option maxRecDepth 100000
set_option maxHeartbeats 8000000
namespace Lb
open PySem PySem.Spec PyProof.Rows L2

theorem all_mk {l : PySem.W.OpenLaw} {q : Program} {w : World} {K : PySem.W.Frag} {h : Heap} {mg : Str → Option Value} {fa : Addr} (X : K.In h) (G : h.Ns mainGlobals mg) (hfa : mg "law" = some (.ref fa))
    (hT : ∀ (y : Str) (dr : DefRec) (c P : Addr), (recsOf q).find? (fun e => e.name == y) = some dr → PySem.W.tabIn K y = some (c, P) → PySem.W.CodeHd h c P ∧ h.get? P = some { cls := .none, data := .fields #[] })
    {dr1 dr2 dr3 : DefRec} {c1 t1 c2 t2 c3 t3 : Addr} {tN : Tok}
    {fO : Addr} {ocO kVO docO pmO cdO ctO : Value} {odO anO : Option Addr} {slO : Array (Option Value)}
    {fI : Addr} {ocI kVI docI pmI cdI ctI : Value} {odI anI : Option Addr} {slI : Array (Option Value)}
    {fIL : Addr} {ocIL kVIL docIL pmIL cdIL ctIL : Value} {odIL anIL : Option Addr} {slIL : Array (Option Value)}
    {fW : Addr} {ocW kVW docW pmW cdW ctW : Value} {odW anW : Option Addr} {slW : Array (Option Value)}
    {fAW : Addr} {ocAW kVAW docAW pmAW cdAW ctAW : Value} {odAW anAW : Option Addr} {slAW : Array (Option Value)}
    {fRL : Addr} {ocRL kVRL docRL pmRL cdRL ctRL : Value} {odRL anRL : Option Addr} {slRL : Array (Option Value)}
    {fC : Addr} {ocC kVC docC pmC cdC ctC : Value} {odC anC : Option Addr} {slC : Array (Option Value)}
    {fCP : Addr} {ocCP kVCP docCP pmCP cdCP ctCP : Value} {odCP anCP : Option Addr} {slCP : Array (Option Value)}
    {fIP : Addr} {ocIP kVIP docIP pmIP cdIP ctIP : Value} {odIP anIP : Option Addr} {slIP : Array (Option Value)}
    {fIZ : Addr} {ocIZ kVIZ docIZ pmIZ cdIZ ctIZ : Value} {odIZ anIZ : Option Addr} {slIZ : Array (Option Value)}
    {fWA : Addr} {ocWA kVWA docWA pmWA cdWA ctWA : Value} {odWA anWA : Option Addr} {slWA : Array (Option Value)}
    {fLP : Addr} {ocLP kVLP docLP pmLP cdLP ctLP : Value} {odLP anLP : Option Addr} {slLP : Array (Option Value)}
    {fST : Addr} {ocST kVST docST pmST cdST ctST : Value} {odST anST : Option Addr} {slST : Array (Option Value)}
    {fSS : Addr} {ocSS kVSS docSS pmSS cdSS ctSS : Value} {odSS anSS : Option Addr} {slSS : Array (Option Value)}
    {fAP : Addr} {ocAP kVAP docAP pmAP cdAP ctAP : Value} {odAP anAP : Option Addr} {slAP : Array (Option Value)}
    {fPI : Addr} {ocPI kVPI docPI pmPI cdPI ctPI : Value} {odPI anPI : Option Addr} {slPI : Array (Option Value)}
    {fTO : Addr} {ocTO kVTO docTO pmTO cdTO ctTO : Value} {odTO anTO : Option Addr} {slTO : Array (Option Value)}
    {fWP : Addr} {ocWP kVWP docWP pmWP cdWP ctWP : Value} {odWP anWP : Option Addr} {slWP : Array (Option Value)}
    {fLV : Addr} {ocLV kVLV docLV pmLV cdLV ctLV : Value} {odLV anLV : Option Addr} {slLV : Array (Option Value)}
    {fUN : Addr} {ocUN kVUN docUN pmUN cdUN ctUN : Value} {odUN anUN : Option Addr} {slUN : Array (Option Value)}
    {fL1 : Addr} {ocL1 kVL1 docL1 pmL1 cdL1 ctL1 : Value} {odL1 anL1 : Option Addr} {slL1 : Array (Option Value)}
    {fL2 : Addr} {ocL2 kVL2 docL2 pmL2 cdL2 ctL2 : Value} {odL2 anL2 : Option Addr} {slL2 : Array (Option Value)}
    {fL3 : Addr} {ocL3 kVL3 docL3 pmL3 cdL3 ctL3 : Value} {odL3 anL3 : Option Addr} {slL3 : Array (Option Value)}
    {fL4 : Addr} {ocL4 kVL4 docL4 pmL4 cdL4 ctL4 : Value} {odL4 anL4 : Option Addr} {slL4 : Array (Option Value)}
    {fL5 : Addr} {ocL5 kVL5 docL5 pmL5 cdL5 ctL5 : Value} {odL5 anL5 : Option Addr} {slL5 : Array (Option Value)}
    {fL6 : Addr} {ocL6 kVL6 docL6 pmL6 cdL6 ctL6 : Value} {odL6 anL6 : Option Addr} {slL6 : Array (Option Value)}
    {fL7 : Addr} {ocL7 kVL7 docL7 pmL7 cdL7 ctL7 : Value} {odL7 anL7 : Option Addr} {slL7 : Array (Option Value)}
    {fL8 : Addr} {ocL8 kVL8 docL8 pmL8 cdL8 ctL8 : Value} {odL8 anL8 : Option Addr} {slL8 : Array (Option Value)}
    {fL9 : Addr} {ocL9 kVL9 docL9 pmL9 cdL9 ctL9 : Value} {odL9 anL9 : Option Addr} {slL9 : Array (Option Value)}
    {fL10 : Addr} {ocL10 kVL10 docL10 pmL10 cdL10 ctL10 : Value} {odL10 anL10 : Option Addr} {slL10 : Array (Option Value)}
    {fM1 : Addr} {ocM1 kVM1 docM1 pmM1 cdM1 ctM1 : Value} {odM1 anM1 : Option Addr} {slM1 : Array (Option Value)}
    {fM2 : Addr} {ocM2 kVM2 docM2 pmM2 cdM2 ctM2 : Value} {odM2 anM2 : Option Addr} {slM2 : Array (Option Value)}
    {fM4 : Addr} {ocM4 kVM4 docM4 pmM4 cdM4 ctM4 : Value} {odM4 anM4 : Option Addr} {slM4 : Array (Option Value)}
    {fM3 : Addr} {ocM3 kVM3 docM3 pmM3 cdM3 ctM3 : Value} {odM3 anM3 : Option Addr} {slM3 : Array (Option Value)}
    {fM5 : Addr} {ocM5 kVM5 docM5 pmM5 cdM5 ctM5 : Value} {odM5 anM5 : Option Addr} {slM5 : Array (Option Value)}
    (aO : PySem.W.nsIn K mainGlobals "is_order" = some (some (.ref fO))) (lO : K.lookup fO = some ⟨ocO, odO, .func (PySem.W.fnOf "is_order" "is_order" (defArgs s_is_order) (defBody s_is_order) (defScope s_is_order) .none kVO docO pmO anO cdO ctO), slO⟩) (cO : PySem.W.codeIn K cdO "is_order" = true) (kO : PySem.W.keepIn K (.ref fO) = true)
    (aI : PySem.W.nsIn K mainGlobals "is_integer" = some (some (.ref fI))) (lI : K.lookup fI = some ⟨ocI, odI, .func (PySem.W.fnOf "is_integer" "is_integer" (defArgs s_is_integer) (defBody s_is_integer) (defScope s_is_integer) .none kVI docI pmI anI cdI ctI), slI⟩) (cI : PySem.W.codeIn K cdI "is_integer" = true) (kI : PySem.W.keepIn K (.ref fI) = true)
    (aIL : PySem.W.nsIn K mainGlobals "is_list" = some (some (.ref fIL))) (lIL : K.lookup fIL = some ⟨ocIL, odIL, .func (PySem.W.fnOf "is_list" "is_list" (defArgs s_is_list) (defBody s_is_list) (defScope s_is_list) .none kVIL docIL pmIL anIL cdIL ctIL), slIL⟩) (cIL : PySem.W.codeIn K cdIL "is_list" = true) (kIL : PySem.W.keepIn K (.ref fIL) = true)
    (aW : PySem.W.nsIn K mainGlobals "is_within_bounds" = some (some (.ref fW))) (lW : K.lookup fW = some ⟨ocW, odW, .func (PySem.W.fnOf "is_within_bounds" "is_within_bounds" (defArgs s_is_within_bounds) (defBody s_is_within_bounds) (defScope s_is_within_bounds) .none kVW docW pmW anW cdW ctW), slW⟩) (cW : PySem.W.codeIn K cdW "is_within_bounds" = true) (kW : PySem.W.keepIn K (.ref fW) = true)
    (aAW : PySem.W.nsIn K mainGlobals "are_within_bounds" = some (some (.ref fAW))) (lAW : K.lookup fAW = some ⟨ocAW, odAW, .func (PySem.W.fnOf "are_within_bounds" "are_within_bounds" (defArgs s_awb) (defBody s_awb) (defScope s_awb) .none kVAW docAW pmAW anAW cdAW ctAW), slAW⟩) (cAW : PySem.W.codeIn K cdAW "are_within_bounds" = true) (kAW : PySem.W.keepIn K (.ref fAW) = true)
    (aRL : PySem.W.nsIn K mainGlobals "is_rising_list" = some (some (.ref fRL))) (lRL : K.lookup fRL = some ⟨ocRL, odRL, .func (PySem.W.fnOf "is_rising_list" "is_rising_list" (defArgs s_is_rising_list) (defBody s_is_rising_list) (defScope s_is_rising_list) .none kVRL docRL pmRL anRL cdRL ctRL), slRL⟩) (cRL : PySem.W.codeIn K cdRL "is_rising_list" = true) (kRL : PySem.W.keepIn K (.ref fRL) = true)
    (aC : PySem.W.nsIn K mainGlobals "check_order" = some (some (.ref fC))) (lC : K.lookup fC = some ⟨ocC, odC, .func (PySem.W.fnOf "check_order" "check_order" (defArgs s_check_order) (defBody s_check_order) (defScope s_check_order) .none kVC docC pmC anC cdC ctC), slC⟩) (cC : PySem.W.codeIn K cdC "check_order" = true) (kC : PySem.W.keepIn K (.ref fC) = true)
    (aCP : PySem.W.nsIn K mainGlobals "check_place" = some (some (.ref fCP))) (lCP : K.lookup fCP = some ⟨ocCP, odCP, .func (PySem.W.fnOf "check_place" "check_place" (defArgs s_check_place) (defBody s_check_place) (defScope s_check_place) .none kVCP docCP pmCP anCP cdCP ctCP), slCP⟩) (cCP : PySem.W.codeIn K cdCP "check_place" = true) (kCP : PySem.W.keepIn K (.ref fCP) = true)
    (aIP : PySem.W.nsIn K mainGlobals "is_places" = some (some (.ref fIP))) (lIP : K.lookup fIP = some ⟨ocIP, odIP, .func (PySem.W.fnOf "is_places" "is_places" (defArgs s_is_places) (defBody s_is_places) (defScope s_is_places) .none kVIP docIP pmIP anIP cdIP ctIP), slIP⟩) (cIP : PySem.W.codeIn K cdIP "is_places" = true) (kIP : PySem.W.keepIn K (.ref fIP) = true)
    (aIZ : PySem.W.nsIn K mainGlobals "in_sizes" = some (some (.ref fIZ))) (lIZ : K.lookup fIZ = some ⟨ocIZ, odIZ, .func (PySem.W.fnOf "in_sizes" "in_sizes" (defArgs s_in_sizes) (defBody s_in_sizes) (defScope s_in_sizes) .none kVIZ docIZ pmIZ anIZ cdIZ ctIZ), slIZ⟩) (cIZ : PySem.W.codeIn K cdIZ "in_sizes" = true) (kIZ : PySem.W.keepIn K (.ref fIZ) = true)
    (aWA : PySem.W.nsIn K mainGlobals "way_at" = some (some (.ref fWA))) (lWA : K.lookup fWA = some ⟨ocWA, odWA, .func (PySem.W.fnOf "way_at" "way_at" (defArgs s_way_at) (defBody s_way_at) (defScope s_way_at) .none kVWA docWA pmWA anWA cdWA ctWA), slWA⟩) (cWA : PySem.W.codeIn K cdWA "way_at" = true) (kWA : PySem.W.keepIn K (.ref fWA) = true)
    (aLP : PySem.W.nsIn K mainGlobals "longer_places" = some (some (.ref fLP))) (lLP : K.lookup fLP = some ⟨ocLP, odLP, .func (PySem.W.fnOf "longer_places" "longer_places" (defArgs s_longer_places) (defBody s_longer_places) (defScope s_longer_places) .none kVLP docLP pmLP anLP cdLP ctLP), slLP⟩) (cLP : PySem.W.codeIn K cdLP "longer_places" = true) (kLP : PySem.W.keepIn K (.ref fLP) = true)
    (aST : PySem.W.nsIn K mainGlobals "standings" = some (some (.ref fST))) (lST : K.lookup fST = some ⟨ocST, odST, .func (PySem.W.fnOf "standings" "standings" (defArgs s_standings) (defBody s_standings) (defScope s_standings) .none kVST docST pmST anST cdST ctST), slST⟩) (cST : PySem.W.codeIn K cdST "standings" = true) (kST : PySem.W.keepIn K (.ref fST) = true)
    (aSS : PySem.W.nsIn K mainGlobals "stands" = some (some (.ref fSS))) (lSS : K.lookup fSS = some ⟨ocSS, odSS, .func (PySem.W.fnOf "stands" "stands" (defArgs s_stands) (defBody s_stands) (defScope s_stands) .none kVSS docSS pmSS anSS cdSS ctSS), slSS⟩) (cSS : PySem.W.codeIn K cdSS "stands" = true) (kSS : PySem.W.keepIn K (.ref fSS) = true)
    (aAP : PySem.W.nsIn K mainGlobals "at_places" = some (some (.ref fAP))) (lAP : K.lookup fAP = some ⟨ocAP, odAP, .func (PySem.W.fnOf "at_places" "at_places" (defArgs s_at_places) (defBody s_at_places) (defScope s_at_places) .none kVAP docAP pmAP anAP cdAP ctAP), slAP⟩) (cAP : PySem.W.codeIn K cdAP "at_places" = true) (kAP : PySem.W.keepIn K (.ref fAP) = true)
    (aPI : PySem.W.nsIn K mainGlobals "put_in" = some (some (.ref fPI))) (lPI : K.lookup fPI = some ⟨ocPI, odPI, .func (PySem.W.fnOf "put_in" "put_in" (defArgs s_put_in) (defBody s_put_in) (defScope s_put_in) .none kVPI docPI pmPI anPI cdPI ctPI), slPI⟩) (cPI : PySem.W.codeIn K cdPI "put_in" = true) (kPI : PySem.W.keepIn K (.ref fPI) = true)
    (aTO : PySem.W.nsIn K mainGlobals "taken_out" = some (some (.ref fTO))) (lTO : K.lookup fTO = some ⟨ocTO, odTO, .func (PySem.W.fnOf "taken_out" "taken_out" (defArgs s_taken_out) (defBody s_taken_out) (defScope s_taken_out) .none kVTO docTO pmTO anTO cdTO ctTO), slTO⟩) (cTO : PySem.W.codeIn K cdTO "taken_out" = true) (kTO : PySem.W.keepIn K (.ref fTO) = true)
    (aWP : PySem.W.nsIn K mainGlobals "wrong_pairs" = some (some (.ref fWP))) (lWP : K.lookup fWP = some ⟨ocWP, odWP, .func (PySem.W.fnOf "wrong_pairs" "wrong_pairs" (defArgs s_wrong_pairs) (defBody s_wrong_pairs) (defScope s_wrong_pairs) .none kVWP docWP pmWP anWP cdWP ctWP), slWP⟩) (cWP : PySem.W.codeIn K cdWP "wrong_pairs" = true) (kWP : PySem.W.keepIn K (.ref fWP) = true)
    (aLV : PySem.W.nsIn K mainGlobals "level" = some (some (.ref fLV))) (lLV : K.lookup fLV = some ⟨ocLV, odLV, .func (PySem.W.fnOf "level" "level" (defArgs s_level) (defBody s_level) (defScope s_level) .none kVLV docLV pmLV anLV cdLV ctLV), slLV⟩) (cLV : PySem.W.codeIn K cdLV "level" = true) (kLV : PySem.W.keepIn K (.ref fLV) = true)
    (aUN : PySem.W.nsIn K mainGlobals "undone" = some (some (.ref fUN))) (lUN : K.lookup fUN = some ⟨ocUN, odUN, .func (PySem.W.fnOf "undone" "undone" (defArgs s_undone) (defBody s_undone) (defScope s_undone) .none kVUN docUN pmUN anUN cdUN ctUN), slUN⟩) (cUN : PySem.W.codeIn K cdUN "undone" = true) (kUN : PySem.W.keepIn K (.ref fUN) = true)
    (aL1 : PySem.W.nsIn K mainGlobals "_law_pot" = some (some (.ref fL1))) (lL1 : K.lookup fL1 = some ⟨ocL1, odL1, .func (PySem.W.fnOf "_law_pot" "_law_pot" (defArgs s_pot) (defBody s_pot) (defScope s_pot) .none kVL1 docL1 pmL1 anL1 cdL1 ctL1), slL1⟩) (cL1 : PySem.W.codeIn K cdL1 "_law_pot" = true) (kL1 : PySem.W.keepIn K (.ref fL1) = true)
    (aL2 : PySem.W.nsIn K mainGlobals "_law_draw" = some (some (.ref fL2))) (lL2 : K.lookup fL2 = some ⟨ocL2, odL2, .func (PySem.W.fnOf "_law_draw" "_law_draw" (defArgs s_draw) (defBody s_draw) (defScope s_draw) .none kVL2 docL2 pmL2 anL2 cdL2 ctL2), slL2⟩) (cL2 : PySem.W.codeIn K cdL2 "_law_draw" = true) (kL2 : PySem.W.keepIn K (.ref fL2) = true)
    (aL3 : PySem.W.nsIn K mainGlobals "_law_pick" = some (some (.ref fL3))) (lL3 : K.lookup fL3 = some ⟨ocL3, odL3, .func (PySem.W.fnOf "_law_pick" "_law_pick" (defArgs s_pick) (defBody s_pick) (defScope s_pick) .none kVL3 docL3 pmL3 anL3 cdL3 ctL3), slL3⟩) (cL3 : PySem.W.codeIn K cdL3 "_law_pick" = true) (kL3 : PySem.W.keepIn K (.ref fL3) = true)
    (aL4 : PySem.W.nsIn K mainGlobals "_law_order" = some (some (.ref fL4))) (lL4 : K.lookup fL4 = some ⟨ocL4, odL4, .func (PySem.W.fnOf "_law_order" "_law_order" (defArgs s_order) (defBody s_order) (defScope s_order) .none kVL4 docL4 pmL4 anL4 cdL4 ctL4), slL4⟩) (cL4 : PySem.W.codeIn K cdL4 "_law_order" = true) (kL4 : PySem.W.keepIn K (.ref fL4) = true)
    (aL5 : PySem.W.nsIn K mainGlobals "_law_passed" = some (some (.ref fL5))) (lL5 : K.lookup fL5 = some ⟨ocL5, odL5, .func (PySem.W.fnOf "_law_passed" "_law_passed" (defArgs s_passed) (defBody s_passed) (defScope s_passed) .none kVL5 docL5 pmL5 anL5 cdL5 ctL5), slL5⟩) (cL5 : PySem.W.codeIn K cdL5 "_law_passed" = true) (kL5 : PySem.W.keepIn K (.ref fL5) = true)
    (aL6 : PySem.W.nsIn K mainGlobals "_law_raised" = some (some (.ref fL6))) (lL6 : K.lookup fL6 = some ⟨ocL6, odL6, .func (PySem.W.fnOf "_law_raised" "_law_raised" (defArgs s_raised) (defBody s_raised) (defScope s_raised) .none kVL6 docL6 pmL6 anL6 cdL6 ctL6), slL6⟩) (cL6 : PySem.W.codeIn K cdL6 "_law_raised" = true) (kL6 : PySem.W.keepIn K (.ref fL6) = true)
    (aL7 : PySem.W.nsIn K mainGlobals "_law_four" = some (some (.ref fL7))) (lL7 : K.lookup fL7 = some ⟨ocL7, odL7, .func (PySem.W.fnOf "_law_four" "_law_four" (defArgs s_four) (defBody s_four) (defScope s_four) .none kVL7 docL7 pmL7 anL7 cdL7 ctL7), slL7⟩) (cL7 : PySem.W.codeIn K cdL7 "_law_four" = true) (kL7 : PySem.W.keepIn K (.ref fL7) = true)
    (aL8 : PySem.W.nsIn K mainGlobals "_law_drawn" = some (some (.ref fL8))) (lL8 : K.lookup fL8 = some ⟨ocL8, odL8, .func (PySem.W.fnOf "_law_drawn" "_law_drawn" (defArgs s_drawn) (defBody s_drawn) (defScope s_drawn) .none kVL8 docL8 pmL8 anL8 cdL8 ctL8), slL8⟩) (cL8 : PySem.W.codeIn K cdL8 "_law_drawn" = true) (kL8 : PySem.W.keepIn K (.ref fL8) = true)
    (aL9 : PySem.W.nsIn K mainGlobals "_law_choices" = some (some (.ref fL9))) (lL9 : K.lookup fL9 = some ⟨ocL9, odL9, .func (PySem.W.fnOf "_law_choices" "_law_choices" (defArgs s_choices) (defBody s_choices) (defScope s_choices) .none kVL9 docL9 pmL9 anL9 cdL9 ctL9), slL9⟩) (cL9 : PySem.W.codeIn K cdL9 "_law_choices" = true) (kL9 : PySem.W.keepIn K (.ref fL9) = true)
    (aL10 : PySem.W.nsIn K mainGlobals "_law_lowered" = some (some (.ref fL10))) (lL10 : K.lookup fL10 = some ⟨ocL10, odL10, .func (PySem.W.fnOf "_law_lowered" "_law_lowered" (defArgs s_lowered) (defBody s_lowered) (defScope s_lowered) .none kVL10 docL10 pmL10 anL10 cdL10 ctL10), slL10⟩) (cL10 : PySem.W.codeIn K cdL10 "_law_lowered" = true) (kL10 : PySem.W.keepIn K (.ref fL10) = true)
    (aM1 : PySem.W.nsIn K mainGlobals "_law_put_right" = some (some (.ref fM1))) (lM1 : K.lookup fM1 = some ⟨ocM1, odM1, .func (PySem.W.fnOf "_law_put_right" "_law_put_right" (defArgs s_putr) (defBody s_putr) (defScope s_putr) .none kVM1 docM1 pmM1 anM1 cdM1 ctM1), slM1⟩) (cM1 : PySem.W.codeIn K cdM1 "_law_put_right" = true) (kM1 : PySem.W.keepIn K (.ref fM1) = true)
    (aM2 : PySem.W.nsIn K mainGlobals "_law_left_right" = some (some (.ref fM2))) (lM2 : K.lookup fM2 = some ⟨ocM2, odM2, .func (PySem.W.fnOf "_law_left_right" "_law_left_right" (defArgs s_left) (defBody s_left) (defScope s_left) .none kVM2 docM2 pmM2 anM2 cdM2 ctM2), slM2⟩) (cM2 : PySem.W.codeIn K cdM2 "_law_left_right" = true) (kM2 : PySem.W.keepIn K (.ref fM2) = true)
    (aM4 : PySem.W.nsIn K mainGlobals "_law_built_right" = some (some (.ref fM4))) (lM4 : K.lookup fM4 = some ⟨ocM4, odM4, .func (PySem.W.fnOf "_law_built_right" "_law_built_right" (defArgs s_built) (defBody s_built) (defScope s_built) .none kVM4 docM4 pmM4 anM4 cdM4 ctM4), slM4⟩) (cM4 : PySem.W.codeIn K cdM4 "_law_built_right" = true) (kM4 : PySem.W.keepIn K (.ref fM4) = true)
    (aM3 : PySem.W.nsIn K mainGlobals "_law_right" = some (some (.ref fM3))) (lM3 : K.lookup fM3 = some ⟨ocM3, odM3, .func (PySem.W.fnOf "_law_right" "_law_right" (defArgs s_right) (defBody s_right) (defScope s_right) .none kVM3 docM3 pmM3 anM3 cdM3 ctM3), slM3⟩) (cM3 : PySem.W.codeIn K cdM3 "_law_right" = true) (kM3 : PySem.W.keepIn K (.ref fM3) = true)
    (aM5 : PySem.W.nsIn K mainGlobals "law" = some (some (.ref fM5))) (lM5 : K.lookup fM5 = some ⟨ocM5, odM5, .func (PySem.W.fnOf "law" "law" (defArgs s_law) (defBody s_law) (defScope s_law) .none kVM5 docM5 pmM5 anM5 cdM5 ctM5), slM5⟩) (cM5 : PySem.W.codeIn K cdM5 "law" = true) (kM5 : PySem.W.keepIn K (.ref fM5) = true)
    (b_isinstance : PySem.W.nsIn K mainGlobals "isinstance" = some none)
    (b_int : PySem.W.nsIn K mainGlobals "int" = some none)
    (b_bool : PySem.W.nsIn K mainGlobals "bool" = some none)
    (b_list : PySem.W.nsIn K mainGlobals "list" = some none)
    (b_tuple : PySem.W.nsIn K mainGlobals "tuple" = some none)
    (b_len : PySem.W.nsIn K mainGlobals "len" = some none)
    (b_all : PySem.W.nsIn K mainGlobals "all" = some none)
    (b_sorted : PySem.W.nsIn K mainGlobals "sorted" = some none)
    (b_range : PySem.W.nsIn K mainGlobals "range" = some none)
    (b_abs : PySem.W.nsIn K mainGlobals "abs" = some none)
    (b_max : PySem.W.nsIn K mainGlobals "max" = some none)
    (b_min : PySem.W.nsIn K mainGlobals "min" = some none)
    (b_divmod : PySem.W.nsIn K mainGlobals "divmod" = some none)
    (b_enumerate : PySem.W.nsIn K mainGlobals "enumerate" = some none)
    (b_repr : PySem.W.nsIn K mainGlobals "repr" = some none)
    (b_zip : PySem.W.nsIn K mainGlobals "zip" = some none)
    (aN : PySem.W.nsIn K mainGlobals "MOST_THINGS" = some (some (.int 9 tN)))
    (e1 : (recsOf q).find? (fun e => e.name == ("is_order" : Str)) = some dr1) (g1 : PySem.W.tabIn K "is_order" = some (c1, t1)) (n1 : K.lookup t1 = none)
    (e2 : (recsOf q).find? (fun e => e.name == ("are_within_bounds" : Str)) = some dr2) (g2 : PySem.W.tabIn K "are_within_bounds" = some (c2, t2)) (n2 : K.lookup t2 = none)
    (e3 : (recsOf q).find? (fun e => e.name == ("is_rising_list" : Str)) = some dr3) (g3 : PySem.W.tabIn K "is_rising_list" = some (c3, t3)) (n3 : K.lookup t3 = none)
    : LawG l w K 15 63 "_law_script" mg fa h := by
  have DO := df_mk (x := "is_order") (st := s_is_order) (ps := ["value"]) X G (fun _ _ _ _ _ _ us hl => match us, hl with | [_], _ => rfl) aO lO cO kO
  have DI := df_mk (x := "is_integer") (st := s_is_integer) (ps := ["value"]) X G (fun _ _ _ _ _ _ us hl => match us, hl with | [_], _ => rfl) aI lI cI kI
  have DIL := df_mk (x := "is_list") (st := s_is_list) (ps := ["value"]) X G (fun _ _ _ _ _ _ us hl => match us, hl with | [_], _ => rfl) aIL lIL cIL kIL
  have DW := df_mk (x := "is_within_bounds") (st := s_is_within_bounds) (ps := ["value", "low", "high"]) X G (fun _ _ _ _ _ _ us hl => match us, hl with | [_, _, _], _ => rfl) aW lW cW kW
  have DAW := df_mk (x := "are_within_bounds") (st := s_awb) (ps := ["value", "low", "high"]) X G (fun _ _ _ _ _ _ us hl => match us, hl with | [_, _, _], _ => rfl) aAW lAW cAW kAW
  have DRL := df_mk (x := "is_rising_list") (st := s_is_rising_list) (ps := ["value", "low", "high"]) X G (fun _ _ _ _ _ _ us hl => match us, hl with | [_, _, _], _ => rfl) aRL lRL cRL kRL
  have DC := df_mk (x := "check_order") (st := s_check_order) (ps := ["order"]) X G (fun _ _ _ _ _ _ us hl => match us, hl with | [_], _ => rfl) aC lC cC kC
  have DCP := df_mk (x := "check_place") (st := s_check_place) (ps := ["order", "place"]) X G (fun _ _ _ _ _ _ us hl => match us, hl with | [_, _], _ => rfl) aCP lCP cCP kCP
  have DIP := df_mk (x := "is_places") (st := s_is_places) (ps := ["order", "value"]) X G (fun _ _ _ _ _ _ us hl => match us, hl with | [_, _], _ => rfl) aIP lIP cIP kIP
  have DIZ := df_mk (x := "in_sizes") (st := s_in_sizes) (ps := ["things"]) X G (fun _ _ _ _ _ _ us hl => match us, hl with | [_], _ => rfl) aIZ lIZ cIZ kIZ
  have DWA := df_mk (x := "way_at") (st := s_way_at) (ps := ["order", "places"]) X G (fun _ _ _ _ _ _ us hl => match us, hl with | [_, _], _ => rfl) aWA lWA cWA kWA
  have DLP := df_mk (x := "longer_places") (st := s_longer_places) (ps := ["size", "places"]) X G (fun _ _ _ _ _ _ us hl => match us, hl with | [_, _], _ => rfl) aLP lLP cLP kLP
  have DST := df_mk (x := "standings") (st := s_standings) (ps := ["order", "way"]) X G (fun _ _ _ _ _ _ us hl => match us, hl with | [_, _], _ => rfl) aST lST cST kST
  have DSS := df_mk (x := "stands") (st := s_stands) (ps := ["order", "way"]) X G (fun _ _ _ _ _ _ us hl => match us, hl with | [_, _], _ => rfl) aSS lSS cSS kSS
  have DAP := df_mk (x := "at_places") (st := s_at_places) (ps := ["order", "places"]) X G (fun _ _ _ _ _ _ us hl => match us, hl with | [_, _], _ => rfl) aAP lAP cAP kAP
  have DPI := df_mk (x := "put_in") (st := s_put_in) (ps := ["order", "place", "thing"]) X G (fun _ _ _ _ _ _ us hl => match us, hl with | [_, _, _], _ => rfl) aPI lPI cPI kPI
  have DTO := df_mk (x := "taken_out") (st := s_taken_out) (ps := ["order", "place"]) X G (fun _ _ _ _ _ _ us hl => match us, hl with | [_, _], _ => rfl) aTO lTO cTO kTO
  have DWP := df_mk (x := "wrong_pairs") (st := s_wrong_pairs) (ps := ["order"]) X G (fun _ _ _ _ _ _ us hl => match us, hl with | [_], _ => rfl) aWP lWP cWP kWP
  have DLV := df_mk (x := "level") (st := s_level) (ps := ["order"]) X G (fun _ _ _ _ _ _ us hl => match us, hl with | [_], _ => rfl) aLV lLV cLV kLV
  have DUN := df_mk (x := "undone") (st := s_undone) (ps := ["order"]) X G (fun _ _ _ _ _ _ us hl => match us, hl with | [_], _ => rfl) aUN lUN cUN kUN
  have DL1 := df_mk (x := "_law_pot") (st := s_pot) (ps := ["_law_script", "_law_k"]) X G (fun _ _ _ _ _ _ us hl => match us, hl with | [_, _], _ => rfl) aL1 lL1 cL1 kL1
  have DL2 := df_mk (x := "_law_draw") (st := s_draw) (ps := ["_law_pot_here", "_law_size"]) X G (fun _ _ _ _ _ _ us hl => match us, hl with | [_, _], _ => rfl) aL2 lL2 cL2 kL2
  have DL3 := df_mk (x := "_law_pick") (st := s_pick) (ps := ["_law_pot_here", "_law_some"]) X G (fun _ _ _ _ _ _ us hl => match us, hl with | [_, _], _ => rfl) aL3 lL3 cL3 kL3
  have DL4 := df_mk (x := "_law_order") (st := s_order) (ps := ["_law_pot_here", "_law_size"]) X G (fun _ _ _ _ _ _ us hl => match us, hl with | [_, _], _ => rfl) aL4 lL4 cL4 kL4
  have DL5 := df_mk (x := "_law_passed") (st := s_passed) (ps := ["_law_pot_here", "_law_order_here"]) X G (fun _ _ _ _ _ _ us hl => match us, hl with | [_, _], _ => rfl) aL5 lL5 cL5 kL5
  have DL6 := df_mk (x := "_law_raised") (st := s_raised) (ps := ["_law_order_here", "_law_place", "_law_thing"]) X G (fun _ _ _ _ _ _ us hl => match us, hl with | [_, _, _], _ => rfl) aL6 lL6 cL6 kL6
  have DL7 := df_mk (x := "_law_four") (st := s_four) (ps := []) X G (fun _ _ _ _ _ _ us hl => match us, hl with | [], _ => rfl) aL7 lL7 cL7 kL7
  have DL8 := df_mk (x := "_law_drawn") (st := s_drawn) (ps := ["_law_pot_here", "_law_most"]) X G (fun _ _ _ _ _ _ us hl => match us, hl with | [_, _], _ => rfl) aL8 lL8 cL8 kL8
  have DL9 := df_mk (x := "_law_choices") (st := s_choices) (ps := ["_law_some", "_law_many"]) X G (fun _ _ _ _ _ _ us hl => match us, hl with | [_, _], _ => rfl) aL9 lL9 cL9 kL9
  have DL10 := df_mk (x := "_law_lowered") (st := s_lowered) (ps := ["_law_things"]) X G (fun _ _ _ _ _ _ us hl => match us, hl with | [_], _ => rfl) aL10 lL10 cL10 kL10
  have DM1 := df_mk (x := "_law_put_right") (st := s_putr) (ps := ["_law_pot_here", "_law_order_here"]) X G (fun _ _ _ _ _ _ us hl => match us, hl with | [_, _], _ => rfl) aM1 lM1 cM1 kM1
  have DM2 := df_mk (x := "_law_left_right") (st := s_left) (ps := ["_law_pot_here", "_law_order_here"]) X G (fun _ _ _ _ _ _ us hl => match us, hl with | [_, _], _ => rfl) aM2 lM2 cM2 kM2
  have DM4 := df_mk (x := "_law_built_right") (st := s_built) (ps := ["_law_pot_here"]) X G (fun _ _ _ _ _ _ us hl => match us, hl with | [_], _ => rfl) aM4 lM4 cM4 kM4
  have DM3 := df_mk (x := "_law_right") (st := s_right) (ps := ["_law_pot_here"]) X G (fun _ _ _ _ _ _ us hl => match us, hl with | [_], _ => rfl) aM3 lM3 cM3 kM3
  have DM5 := df_mk (x := "law") (st := s_law) (ps := ["_law_script"]) X G (fun _ _ _ _ _ _ us hl => match us, hl with | [_], _ => rfl) aM5 lM5 cM5 kM5
  have e := hfa.symm.trans DM5.at_
  cases e
  have o1 := PySem.W.law_code X G g1 DO.at_ (X _ _ lO) rfl
  have o2 := PySem.W.law_code X G g2 DAW.at_ (X _ _ lAW) rfl
  have o3 := PySem.W.law_code X G g3 DRL.at_ (X _ _ lRL) rfl
  have B : Bl2 mg := ⟨⟨PySem.W.mg_none_of X G b_isinstance, PySem.W.mg_none_of X G b_int, PySem.W.mg_none_of X G b_bool, PySem.W.mg_none_of X G b_list, PySem.W.mg_none_of X G b_tuple, PySem.W.mg_none_of X G b_len, PySem.W.mg_none_of X G b_all, PySem.W.mg_none_of X G b_sorted, PySem.W.mg_none_of X G b_range⟩, PySem.W.mg_none_of X G b_abs, PySem.W.mg_none_of X G b_max, PySem.W.mg_none_of X G b_min, PySem.W.mg_none_of X G b_divmod, PySem.W.mg_none_of X G b_enumerate, PySem.W.mg_none_of X G b_repr⟩
  obtain ⟨hd1, tb1⟩ := hT _ _ _ _ e1 g1
  obtain ⟨hd2, tb2⟩ := hT _ _ _ _ e2 g2
  obtain ⟨hd3, tb3⟩ := hT _ _ _ _ e3 g3
  have split : ∀ p ∈ [(c1, t1), (c2, t2), (c3, t3)], p = (c1, t1) ∨ p = (c2, t2) ∨ p = (c3, t3) := fun p hp => by
    simpa using hp
  refine ⟨PySem.W.fnOf "law" "law" (defArgs s_law) (defBody s_law) (defScope s_law) .none kVM5 docM5 pmM5 anM5 cdM5 ctM5, [(c1, t1), (c2, t2), (c3, t3)], spLaw K (Ts t1 t2 t3), ?_, ?_, ?_, ?_, ?_, fun base hK hB hC => ?_⟩
  · intro p hp
    rcases split p hp with rfl | rfl | rfl
    · exact tb1
    · exact tb2
    · exact tb3
  · intro p hp
    rcases split p hp with rfl | rfl | rfl
    · exact n1
    · exact n2
    · exact n3
  · intro p hp
    rcases split p hp with rfl | rfl | rfl
    · exact hd1
    · exact hd2
    · exact hd3
  · exact fun s u => .of_eq rfl
  · refine fun H a ns hl _ hH hS => ⟨a, ns, rfl, hS, hl, fun t ht => ?_, fun _ => rfl⟩
    rcases ht with rfl | rfl | rfl
    · exact ⟨#[], hH (c1, t) (.head _), True.intro⟩
    · exact ⟨#[], hH (c2, t) (.tail _ (.head _)), True.intro⟩
    · exact ⟨#[], hH (c3, t) (.tail _ (.tail _ (.head _))), True.intro⟩
  · exact law_fn o1 (hC (c1, t1) (.head _)) o2 (hC (c2, t2) (.tail _ (.head _))) o3 (hC (c3, t3) (.tail _ (.tail _ (.head _)))) ⟨_, PySem.W.mg_of X G aN⟩ B (PySem.W.mg_none_of X G b_zip) DO DI DIL DW DAW DRL DC DCP DIP DIZ DWA DLP DST DSS DAP DPI DTO DWP DLV DUN DL1 DL2 DL3 DL4 DL5 DL6 DL7 DL8 DL9 DL10 DM1 DM2 DM4 DM3 DM5 (kb_three DPI.fn fun _ _ _ _ _ _ _ _ _ => rfl) (kb_two DTO.fn fun _ _ _ _ _ _ _ _ => rfl)
end Lb

set_option maxRecDepth 100000 in
set_option maxHeartbeats 0 in
open PySem PySem.W PyProof.Rows in
theorem PySem.Challenge.cw_lowerboards_k42_whole_put_in_and_taken_o_holds : PySem.Challenge.rw_lowerboards_k42_whole_put_in_and_taken_o.Holds := by
  w_on; o_law; k_head; (case hw => w_witness2)
  k_fill
  refine Lb.walkG (k := 15) (n := 63) (x := "_law_script") rfl (by decide) rfl ⟨rfl, by decide, by decide⟩ (fun w h Y => PySem.W.kIn_of Y) ?F
  case F =>
    intro w mg fa h KX G hmg hT
    refine' Lb.all_mk KX G hmg hT ?aO ?lO ?cO ?kO ?aI ?lI ?cI ?kI ?aIL ?lIL ?cIL ?kIL ?aW ?lW ?cW ?kW ?aAW ?lAW ?cAW ?kAW ?aRL ?lRL ?cRL ?kRL ?aC ?lC ?cC ?kC ?aCP ?lCP ?cCP ?kCP ?aIP ?lIP ?cIP ?kIP ?aIZ ?lIZ ?cIZ ?kIZ ?aWA ?lWA ?cWA ?kWA ?aLP ?lLP ?cLP ?kLP ?aST ?lST ?cST ?kST ?aSS ?lSS ?cSS ?kSS ?aAP ?lAP ?cAP ?kAP ?aPI ?lPI ?cPI ?kPI ?aTO ?lTO ?cTO ?kTO ?aWP ?lWP ?cWP ?kWP ?aLV ?lLV ?cLV ?kLV ?aUN ?lUN ?cUN ?kUN ?aL1 ?lL1 ?cL1 ?kL1 ?aL2 ?lL2 ?cL2 ?kL2 ?aL3 ?lL3 ?cL3 ?kL3 ?aL4 ?lL4 ?cL4 ?kL4 ?aL5 ?lL5 ?cL5 ?kL5 ?aL6 ?lL6 ?cL6 ?kL6 ?aL7 ?lL7 ?cL7 ?kL7 ?aL8 ?lL8 ?cL8 ?kL8 ?aL9 ?lL9 ?cL9 ?kL9 ?aL10 ?lL10 ?cL10 ?kL10 ?aM1 ?lM1 ?cM1 ?kM1 ?aM2 ?lM2 ?cM2 ?kM2 ?aM4 ?lM4 ?cM4 ?kM4 ?aM3 ?lM3 ?cM3 ?kM3 ?aM5 ?lM5 ?cM5 ?kM5 ?b_isinstance ?b_int ?b_bool ?b_list ?b_tuple ?b_len ?b_all ?b_sorted ?b_range ?b_abs ?b_max ?b_min ?b_divmod ?b_enumerate ?b_repr ?b_zip ?aN ?e1 ?g1 ?n1 ?e2 ?g2 ?n2 ?e3 ?g3 ?n3
    (case aO => k_is); (case lO => k_is); (case cO => k_is); (case kO => k_is)
    (case aI => k_is); (case lI => k_is); (case cI => k_is); (case kI => k_is)
    (case aIL => k_is); (case lIL => k_is); (case cIL => k_is); (case kIL => k_is)
    (case aW => k_is); (case lW => k_is); (case cW => k_is); (case kW => k_is)
    (case aAW => k_is); (case lAW => k_is); (case cAW => k_is); (case kAW => k_is)
    (case aRL => k_is); (case lRL => k_is); (case cRL => k_is); (case kRL => k_is)
    (case aC => k_is); (case lC => k_is); (case cC => k_is); (case kC => k_is)
    (case aCP => k_is); (case lCP => k_is); (case cCP => k_is); (case kCP => k_is)
    (case aIP => k_is); (case lIP => k_is); (case cIP => k_is); (case kIP => k_is)
    (case aIZ => k_is); (case lIZ => k_is); (case cIZ => k_is); (case kIZ => k_is)
    (case aWA => k_is); (case lWA => k_is); (case cWA => k_is); (case kWA => k_is)
    (case aLP => k_is); (case lLP => k_is); (case cLP => k_is); (case kLP => k_is)
    (case aST => k_is); (case lST => k_is); (case cST => k_is); (case kST => k_is)
    (case aSS => k_is); (case lSS => k_is); (case cSS => k_is); (case kSS => k_is)
    (case aAP => k_is); (case lAP => k_is); (case cAP => k_is); (case kAP => k_is)
    (case aPI => k_is); (case lPI => k_is); (case cPI => k_is); (case kPI => k_is)
    (case aTO => k_is); (case lTO => k_is); (case cTO => k_is); (case kTO => k_is)
    (case aWP => k_is); (case lWP => k_is); (case cWP => k_is); (case kWP => k_is)
    (case aLV => k_is); (case lLV => k_is); (case cLV => k_is); (case kLV => k_is)
    (case aUN => k_is); (case lUN => k_is); (case cUN => k_is); (case kUN => k_is)
    (case aL1 => k_is); (case lL1 => k_is); (case cL1 => k_is); (case kL1 => k_is)
    (case aL2 => k_is); (case lL2 => k_is); (case cL2 => k_is); (case kL2 => k_is)
    (case aL3 => k_is); (case lL3 => k_is); (case cL3 => k_is); (case kL3 => k_is)
    (case aL4 => k_is); (case lL4 => k_is); (case cL4 => k_is); (case kL4 => k_is)
    (case aL5 => k_is); (case lL5 => k_is); (case cL5 => k_is); (case kL5 => k_is)
    (case aL6 => k_is); (case lL6 => k_is); (case cL6 => k_is); (case kL6 => k_is)
    (case aL7 => k_is); (case lL7 => k_is); (case cL7 => k_is); (case kL7 => k_is)
    (case aL8 => k_is); (case lL8 => k_is); (case cL8 => k_is); (case kL8 => k_is)
    (case aL9 => k_is); (case lL9 => k_is); (case cL9 => k_is); (case kL9 => k_is)
    (case aL10 => k_is); (case lL10 => k_is); (case cL10 => k_is); (case kL10 => k_is)
    (case aM1 => k_is); (case lM1 => k_is); (case cM1 => k_is); (case kM1 => k_is)
    (case aM2 => k_is); (case lM2 => k_is); (case cM2 => k_is); (case kM2 => k_is)
    (case aM4 => k_is); (case lM4 => k_is); (case cM4 => k_is); (case kM4 => k_is)
    (case aM3 => k_is); (case lM3 => k_is); (case cM3 => k_is); (case kM3 => k_is)
    (case aM5 => k_is); (case lM5 => k_is); (case cM5 => k_is); (case kM5 => k_is)
    (case b_isinstance => k_is); (case b_int => k_is); (case b_bool => k_is); (case b_list => k_is)
    (case b_tuple => k_is); (case b_len => k_is); (case b_all => k_is); (case b_sorted => k_is)
    (case b_range => k_is); (case b_abs => k_is); (case b_max => k_is); (case b_min => k_is)
    (case b_divmod => k_is); (case b_enumerate => k_is); (case b_repr => k_is); (case b_zip => k_is)
    (case aN => k_is); (case e1 => first | rfl | k_is); (case g1 => first | rfl | k_is); (case n1 => first | rfl | k_is)
    (case e2 => first | rfl | k_is); (case g2 => first | rfl | k_is); (case n2 => first | rfl | k_is); (case e3 => first | rfl | k_is)
    (case g3 => first | rfl | k_is); (case n3 => first | rfl | k_is)
