import PyProof.Rows.All
import Wide.All
import OpenK.AllK
import Wide.FinOn
import HandS.ForMost
import HandS.SortKw
import HandS.More
import HandS.OwnEq
import HandS.Keys
import KE.SortKeyHeap
import HandS.IsInst
import HandS.TupAny
import HandS.Wide
import HandS.ClsMeth
import HandS.Star
import HandS.CallLocal
import HandS.Codes
import KE.GoesMore
import HandS.Flow
import HandS.Style
import HandS.Conv
import HandS.SetFor
import HandS.SetTxt0
import HandS.Strs
import HandS.HeadEnd
import PyProof.ReprRoads
import HandS.DictComp
import HandS.WordsDict
import HandS.Small
import HandS.Head0
import HandS.Head1
import HandS.Head2
import HandS.HeadHook1
import HandS.HeadHook2
import HandS.HeadNt
import PySem.Challenge.RW_speaklast_k05_filters_built_of_filters
set_option Elab.async false
set_option linter.all false
set_option maxRecDepth 100000
set_option maxHeartbeats 2000000
namespace Spk
open PySem PySem.Spec PyProof.Rows PySem.W L2

/-! ## sorted(xs, key=f), f a def of the program that keeps an L2 promise -/
theorem heap_without (h : Heap) (k : Addr) : ∃ g : Heap, g.get? k = none ∧ ∀ b, b ≠ k → g.get? b = h.get? b := by
  by_cases hk : k < h.objs.size
  · refine ⟨{ h with objs := h.objs.set k ⟨.none, none, .freed, #[]⟩ hk }, ?_, fun b hb => ?_⟩
    · unfold Heap.get?
      simp
    · unfold Heap.get?
      simp only [Array.getElem?_set, if_neg (Ne.symm hb)]
  · refine ⟨h, ?_, fun _ _ => rfl⟩
    unfold Heap.get?
    rw [Array.getElem?_eq_none (Nat.le_of_not_lt hk)]

mutual
theorem dp_same {K : Frag} {H H' : Hp} (e : Same H H') : ∀ (d : PyData) (v : V), Dp K H v d → Dp K H' v d
  | .none, _, h => by cases h; exact .non
  | .bool b, _, h => by cases h; exact .bl b
  | .int i, _, h => by cases h; exact .int i
  | .str x, _, h => by cases h; exact .str x
  | .list ds, _, h => by
    cases h with
    | lst s a => exact .lst (SqL.ext s e) (dps_same e ds _ a)
  | .tuple ds, _, h => by
    cases h with
    | tup s a => exact .tup (SqT.ext s e) (dps_same e ds _ a)
  | .dict _, _, h => by cases h
theorem dps_same {K : Frag} {H H' : Hp} (e : Same H H') : ∀ (ds : List PyData) (vs : List V), DpAll K H vs ds → DpAll K H' vs ds
  | [], _, h => by cases h; exact .nil
  | d :: ds, _, h => by
    cases h with
    | cons a b => exact .cons (dp_same e d _ a) (dps_same e ds _ b)
end

/-- a def that keeps a promise, called somewhere below the running body -/
theorem call_at {X : Cx} {n : Nat} {f : Addr} {sp : Sp} (F : FnR X.prog X.w X.K X.mg X.base CX0 n f sp) {A' : Around} (sb : Sub X n A') {pins : List (Addr × Obj)} {s : Shared} {σ : L2.St} {H : Hp} (I : Inv X pins σ H s)
    {vs : List V} {us : List Value} {Q : VK} {E : Value → Shared → Prop} (r : Vals vs us) (h : sp vs H Q E0) : wpAny (model X.prog X.w) A' (call (.ref f) us) (EP X pins σ Q) E s := by
  have e0 : Env0 X.prog X.w X.K X.mg X.base A' X.stack s H := by
    have e := I.env0
    exact ⟨by rw [sb.fr]; exact e.frames, e.mod, e.bs, e.bsz, e.funs, e.frf, e.hok, e.bare⟩
  refine wpAny_call (codeAny_mono (F A' X.stack s H us vs Q E0 sb.room e0 r h) fun r s' hq => ?_)
  cases r with
  | error e => exact False.elim hq
  | ok fl =>
    cases fl with
    | ret w => exact I.after hq
    | next => exact False.elim hq
    | brk => exact False.elim hq
    | cont => exact False.elim hq

/-- the keys told so far -/
def KeysIn (K : Frag) (H : Hp) : List Value → List PyData → Prop := EachIs fun u d => ∃ v, RelV v u ∧ Dp K H v d

structure KeyLoop (X : Cx) (pins : List (Addr × Obj)) (σ : L2.St) (H : Hp) (a kS : Addr) (e1 : Nat) (kz : List PyData) (i : Nat) (s' : Shared) : Prop where
  ex : ∃ (H' : Hp) (kA : Array Value) (e : Nat), Inv X pins σ H' s' ∧ Same H H' ∧ FpOk X pins H' a ∧ FpOk X pins H' kS ∧ s'.heap.get? kS = some (seqObj "list" kA e) ∧
    s'.heap.get? a = some (seqObj "list" #[] e1) ∧ KeysIn X.K H' kA.toList (kz.take i)

theorem key_turn {X : Cx} {n : Nat} {f : Addr} {sp : Sp} (F : FnR X.prog X.w X.K X.mg X.base CX0 n f sp) {A' : Around} (sb : Sub X n A') {pins : List (Addr × Obj)} {σ : L2.St} {H : Hp} {a kS : Addr} {e1 : Nat} {kz : List PyData} {i : Nat} {s' : Shared}
    (hka : kS ≠ a) {x : V} {u : Value} {d : PyData} (ru : RelV x u) (hd : kz[i]? = some d) (turn : ∀ H', Same H H' → sp [x] H' (fun v H'' => Same H' H'' ∧ Dp X.K H'' v d) E0) (J : KeyLoop X pins σ H a kS e1 kz i s') {E : Value → Shared → Prop} :
    wpAny (model X.prog X.w) A' (call (.ref f) [u]) (fun v s'' => ∃ (kA : Array Value) (e : Nat), s''.heap.get? kS = some (seqObj "list" kA e) ∧ kA.size ≤ i ∧
      ∀ h' : Heap, (∀ b o, b ≠ kS → s''.heap.get? b = some o → h'.get? b = some o) → (∃ e', h'.get? kS = some (seqObj "list" (kA.push v) e')) → KeyLoop X pins σ H a kS e1 kz (i + 1) { s'' with heap := h' }) E s' := by
  obtain ⟨H', kA, e, I, sm, fa, fk, nk, na, ks⟩ := J.ex
  have Ip := I.pinned (fp := [a, kS]) (fun b hb => by
      rcases List.mem_cons.mp hb with rfl | hb
      · exact fa
      · rw [List.mem_singleton.mp hb]; exact fk) (fun b hb => by
      rcases List.mem_cons.mp hb with rfl | hb
      · exact ⟨_, na, fun v z => nomatch z⟩
      · rw [List.mem_singleton.mp hb]; exact ⟨_, nk, fun v z => nomatch z⟩)
  refine wpAny_mono (call_at F sb Ip (.cons ru .nil) (turn H' sm)) (fun v s'' he => ?_) fun _ _ z => z
  obtain ⟨w, H2, I2, rw2, sm2, dp⟩ := he
  have pa := I2.pin (a, _) (List.mem_append_right _ (List.mem_append_right _ (mem_pinsAt (by simp) na)))
  have pk := I2.pin (kS, _) (List.mem_append_right _ (List.mem_append_right _ (mem_pinsAt (by simp) nk)))
  have I3 := I2.unpinned
  have hsz : kA.size ≤ i := by
    have h1 := ks.length
    rw [Array.length_toList, List.length_take] at h1
    omega
  have fk2 : FpOk X pins H2 kS := ⟨pk.2.1, fk.2⟩
  have fa2 : FpOk X pins H2 a := ⟨pa.2.1, fa.2⟩
  refine ⟨kA, e, pk.1, hsz, fun h' keep ⟨e', hk'⟩ => ⟨⟨H2, kA.push v, e', ?_, fun b o q => sm2 b o (sm b o q), fa2, fk2, hk', keep a _ (Ne.symm hka) pa.1, ?_⟩⟩⟩
  · exact I3.turnedL (t' := s''.toks) (ch := [kS]) (fun b o hb q => keep b o (by simpa using hb) q) (fun b hb => by rw [List.mem_singleton.mp hb]; exact fk2)
  · have ek : kz.take (i + 1) = kz.take i ++ [d] := by rw [List.take_add_one, hd]; simp
    have ea : (kA.push v).toList = kA.toList ++ [v] := by simp
    rw [ea, ek]
    unfold KeysIn
    refine each_snoc ⟨w, rw2, dp⟩ ?_
    exact EachIs.mono (fun u d ⟨z, rz, dz⟩ => ⟨z, rz, dp_same sm2 d z dz⟩) ks

/-- the items in the order of their keys -/
def byKeys (xs : List V) (kz : List PyData) : List V := ((xs.zip kz).mergeSort (dataLe false (·.2))).map (·.1)

theorem each_vals : ∀ {vs : List Value} {bs : List (V × PyData)}, EachIs (fun u (b : V × PyData) => RelV b.1 u) vs bs → Vals (bs.map (·.1)) vs := by
  intro vs bs h
  induction h with
  | nil => exact .nil
  | cons r _ ih => exact .cons r ih
theorem each_zip : ∀ {xs : List V} {vs : List Value} {kz : List PyData}, Vals xs vs → kz.length = xs.length → EachIs (fun u (b : V × PyData) => RelV b.1 u) vs (xs.zip kz)
  | _, _, [], .nil, _ => .nil
  | _, _, d :: kz, .cons r t, h => .cons r (each_zip t (by simpa using h))
  | _, _, [], .cons _ _, h => by simp at h
  | _, _, _ :: _, .nil, h => by simp at h

theorem sort_rest {X : Cx} {n : Nat} {f : Addr} {sp : Sp} (F : FnR X.prog X.w X.K X.mg X.base CX0 n f sp) {A' : Around} (sb : Sub X n A') {pins : List (Addr × Obj)} {σ : L2.St} {H : Hp} {a kS : Addr} {e1 : Nat} {kz : List PyData} {s : Shared} {xs : List V} {vs : List Value}
    (hka : kS ≠ a) (r : Vals xs vs) (hlen : kz.length = xs.length) (hZ : xs.length ≤ sizeLine) (hal : AllAlike kz) (hsk : Sortable kz) (hdep : ∀ d, d ∈ kz → A'.units + d.depth < cLine)
    (turn : ∀ (i : Nat) x d, xs[i]? = some x → kz[i]? = some d → ∀ H', Same H H' → sp [x] H' (fun v H'' => Same H' H'' ∧ Dp X.K H'' v d) E0)
    (J : KeyLoop X pins σ H a kS e1 kz 0 s) {P : PySem.Fin → Shared → Prop} {E : Value → Shared → Prop}
    (q : ∀ (H' : Hp) (s' : Shared) (out : List Value) (c : Nat), Inv X pins σ H' s' → Same H H' → FpOk X pins H' a → s'.heap.get? a = some (seqObj "list" out.toArray c) → Vals (byKeys xs kz) out → P (.done (.ret .none)) s') :
    wpAny (model X.prog X.w) A' (ksk_rest a (.ref f) false vs.toArray e1 (.ref kS)) P E s := by
  have hvl : vs.length = xs.length := r.length.symm
  unfold ksk_rest
  refine wpAny_bind (wpAny_rule ?_)
  rw [← Array.forIn_toList]
  refine wpAny_bind (ksk_fold (fun i s' => KeyLoop X pins σ H a kS e1 kz i s') vs 0 s J ?step ?done)
  case step =>
    intro j u s' hu J'
    simp only [Nat.zero_add] at J' ⊢
    have hj : j < vs.length := (List.getElem?_eq_some_iff.mp hu).1
    have hjx : j < xs.length := by omega
    obtain ⟨u', hu', ru⟩ := r.get (i := j) (List.getElem?_eq_getElem hjx)
    rw [hu] at hu'
    cases hu'
    have hjk : j < kz.length := by omega
    refine wpAny_bind (wpAny_attempt (wpAny_mono (key_turn F sb hka ru (List.getElem?_eq_getElem hjk) (turn j _ _ (List.getElem?_eq_getElem hjx) (List.getElem?_eq_getElem hjk)) J') (fun v s'' he => ?_) fun _ _ hF => hF))
    obtain ⟨kA, e, nk, hs, go⟩ := he
    try dsimp only
    have s1 := Heap.SameBut.update s''.heap kS (Obj.mapSeq (·.push v))
    have hks : kA.size ≤ sizeLine := by omega
    refine wpAny_bind (listUpdate_at nk rfl ?_ hks (Nat.le_trans (Nat.le_of_eq (Array.size_push ..)) (Nat.succ_le_succ hks)))
    exact wpAny_pure ⟨rfl, go _ (fun b o hb z => (s1.2 b hb).trans z) ⟨_, get?_update_seq nk (·.push v)⟩⟩
  case done =>
    intro s' J'
    obtain ⟨H', kA, e, I, sm, fa, fk, nk, na, ks⟩ := J'.ex
    rw [Nat.zero_add, hvl, ← hlen, List.take_length] at ks
    have hk' : EachIs (fun v k => ∃ as, Reads s'.heap v k as) kA.toList kz := EachIs.mono (fun u d ⟨z, rz, dz⟩ => Dp.reads I d z u dz rz) ks
    have hsz : kA.size = vs.length := by
      have h1 := hk'.length
      rw [Array.length_toList] at h1
      omega
    refine wpAny_bind (listItems_at nk rfl ?_)
    obtain ⟨g, g0, g1⟩ := heap_without s'.heap kS
    have kp : KeepsBut a g s'.heap := fun b o _ z => by
      by_cases hb : b = kS
      · rw [hb, g0] at z; cases z
      · rw [← g1 b hb]; exact z
    refine keyH_end (κ := dataKind s'.heap kz) (h₁ := g) kp g0 nk na hka (SortsAt.data hk' hal hsk hdep) hsz (by omega) fun h3 tk3 c k3 n3 => ?_
    have keep : ∀ b o, b ∉ [a, kS] → s'.heap.get? b = some o → h3.get? b = some o := fun b o hb z => by
      simp only [List.mem_cons, List.not_mem_nil, or_false, not_or] at hb
      exact k3 b o hb.1 (by rw [g1 b hb.2]; exact z)
    refine q H' _ _ c (I.turnedL (ch := [a, kS]) keep (fun b hb => ?_)) sm fa n3 ?_
    · rcases List.mem_cons.mp hb with rfl | hb
      · exact fa
      · rw [List.mem_singleton.mp hb]; exact fk
    · have ko : KeyedOut false ((xs.zip kz).map (·.2)) vs (sortVals (dataKind s'.heap kz) false kA.toList vs) := by
        rw [List.map_snd_zip (by omega)]
        exact ⟨s'.heap, kA.toList, hal, rfl, hk'⟩
      exact each_vals (keyedOut_each (·.2) ko (each_zip r hlen))

theorem sort_tree {X : Cx} {n : Nat} {f : Addr} {sp : Sp} (F : FnR X.prog X.w X.K X.mg X.base CX0 n f sp) {A' : Around} (sb : Sub X n A') {pins : List (Addr × Obj)} {σ : L2.St} {H : Hp} {kz : List PyData} {s : Shared} {xs : List V} {vs : List Value}
    (I : Inv X pins σ H s) (r : Vals xs vs) (hlen : kz.length = xs.length) (hZ : xs.length ≤ sizeLine) (hal : AllAlike kz) (hsk : Sortable kz) (hdep : ∀ d, d ∈ kz → A'.units + d.depth < cLine)
    (turn : ∀ (i : Nat) x d, xs[i]? = some x → kz[i]? = some d → ∀ H', Same H H' → sp [x] H' (fun v H'' => Same H' H'' ∧ Dp X.K H'' v d) E0)
    {P : PySem.Fin → Shared → Prop} {E : Value → Shared → Prop}
    (q : ∀ (H' : Hp) (s' : Shared), Inv X pins σ (upd H' s.heap.objs.size (.lst (byKeys xs kz))) s' → Same H H' → H' s.heap.objs.size = none → P (.done (.ret .none)) s') :
    wpAny (model X.prog X.w) A' (ksk_tree s.heap.objs.size (.ref f) false) P E { s with heap := s.heap.push (seqObj "list" vs.toArray 0) } := by
  have hvl : vs.length = xs.length := r.length.symm
  have hvz : vs.toArray.size ≤ sizeLine := by rw [List.size_toArray]; omega
  have ho : (s.heap.push (seqObj "list" vs.toArray 0)).get? s.heap.objs.size = some (seqObj "list" vs.toArray 0) := Heap.get?_push_size _ rfl
  have s1 := Heap.SameBut.update (s.heap.push (seqObj "list" vs.toArray 0)) s.heap.objs.size (Obj.mapSeq fun _ => (#[] : Array Value))
  obtain ⟨e1, ho1⟩ : ∃ e1, ((s.heap.push (seqObj "list" vs.toArray 0)).update s.heap.objs.size (Obj.mapSeq fun _ => (#[] : Array Value))).get? s.heap.objs.size = some (seqObj "list" #[] e1) :=
    ⟨_, get?_update_seq ho fun _ => #[]⟩
  have hk : (((s.heap.push (seqObj "list" vs.toArray 0)).update s.heap.objs.size (Obj.mapSeq fun _ => (#[] : Array Value))).push (seqObj "tuple" vs.toArray 0)).objs.size = s.heap.objs.size + 2 := by
    rw [size_push', Heap.size_update, size_push']
  have Ha : H s.heap.objs.size = none := I.hok.fresh (Nat.le_refl _)
  have Hk : H (s.heap.objs.size + 2) = none := I.hok.fresh (Nat.le_add_right _ _)
  unfold ksk_tree
  refine wpAny_bind (listItems_at ho rfl ?_)
  refine wpAny_bind (listUpdate_at ho rfl ?_ hvz (Nat.zero_le _))
  refine wpAny_bind (seqEpoch_at ho1 rfl ?_)
  refine wpAny_bind (wpAny_newTuple ?_ (by show vs.length ≤ _; omega))
  refine wpAny_bind (wpAny_newList ?_ (Nat.zero_le _))
  refine wpAny_holding ?_
  rw [hk]
  refine sort_rest F sb (pins := pins) (σ := σ) (H := H) (a := s.heap.objs.size) (kS := s.heap.objs.size + 2) (Nat.ne_of_gt (Nat.lt_add_of_pos_right (by decide))) r hlen hZ hal hsk hdep turn ⟨H, #[], 0, ?_, Same.refl H, I.fpOk (Nat.le_refl _) Ha, I.fpOk (Nat.le_add_right _ _) Hk, ?_, ?_, ?_⟩ ?_
  · exact I.kept (t' := s.toks) fun b o e => by
      refine Heap.get?_push_of_some _ (Heap.get?_push_of_some _ ?_)
      rw [s1.2 b (Nat.ne_of_lt (Heap.lt_size e))]
      exact Heap.get?_push_of_some _ e
  · have := Heap.get?_push_size (((s.heap.push (seqObj "list" vs.toArray 0)).update s.heap.objs.size (Obj.mapSeq fun _ => (#[] : Array Value))).push (seqObj "tuple" vs.toArray 0)) (o := seqObj "list" #[] 0) rfl
    rw [hk] at this
    exact this
  · exact Heap.get?_push_of_some _ (Heap.get?_push_of_some _ ho1)
  · rw [List.take_zero]
    exact EachIs.nil
  · intro H' s' out c I' sm fa na ro
    refine q H' s' ?_ sm fa.1
    have z : (byKeys xs kz).length ≤ sizeLine := by
      unfold byKeys
      rw [List.length_map, List.length_mergeSort, List.length_zip]
      omega
    exact I'.take (it := s.heap.objs.size) (t' := s'.toks) (fun b ob _ e => e) fa ⟨z, out, c, ro, na⟩

/-- sorted(xs, key=f), xs a list or a tuple: what it asks -/
def rSortKey (K : Frag) (f : Addr) (sp : Sp) : List V → List V → Hp → VK → Prop := fun vs zs H Q => ∃ (l : Addr) (xs : List V) (kz : List PyData), vs = [V.ref l] ∧ zs = [V.ref f] ∧ (SqL K H l xs ∨ SqT K H l xs) ∧
  kz.length = xs.length ∧ AllAlike kz ∧ Sortable kz ∧ (∀ d, d ∈ kz → d.depth ≤ 100) ∧
  (∀ (i : Nat) x d, xs[i]? = some x → kz[i]? = some d → ∀ H', Same H H' → sp [x] H' (fun v H'' => Same H' H'' ∧ Dp K H'' v d) E0) ∧
  ∀ (H' : Hp) (p : Addr), Same H H' → H' p = none → Q (.ref p) (upd H' p (.lst (byKeys xs kz)))

theorem cr_sortKey {X : Cx} {n : Nat} {f : Addr} {sp : Sp} (F : FnR X.prog X.w X.K X.mg X.base CX0 n f sp) (hr : Room (n + 2) X.A) : CallRK X (.builtin "sorted") [Str.ofString "key"] (rSortKey X.K f sp) := by
  intro pins s σ H vs zs us ws Q I r1 r2 h
  obtain ⟨l, xs, kz, rfl, rfl, hl, hlen, hal, hsk, hdep, turn, q⟩ := h
  obtain ⟨u, rfl, ru⟩ := r1.one
  obtain ⟨y, rfl, ry⟩ := r2.one
  cases ru
  cases ry
  show wpAny (model X.prog X.w) X.A (call (.builtin "sorted") [.ref l] [(Str.ofString "key", .ref f)]) (EP X pins σ Q) X.xe s
  have sb : Sub X n X.A.in1.in1 := Sub.in1 (Sub.in1 ⟨hr, rfl⟩)
  obtain ⟨T, o, its, k, hT, ho, hc, hd, r, z⟩ : ∃ (T : String) (o : Obj) (its : List Value) (k : Nat), (T = "list" ∨ T = "tuple") ∧ s.heap.get? l = some o ∧ o.cls = .type T ∧ o.data = .seq its.toArray k ∧ Vals xs its ∧ xs.length ≤ sizeLine := by
    rcases hl with hl | hl
    · obtain ⟨its, r, ⟨o, k, ho, hc, _, hd⟩, z⟩ := I.list hl
      exact ⟨"list", o, its, k, .inl rfl, ho, hc, hd, r, z⟩
    · obtain ⟨its, r, ⟨o, ho, hc, k, hd⟩, z⟩ := I.tuple hl
      exact ⟨"tuple", o, its, k, .inr rfl, ho, hc, hd, r, z⟩
  have hsz : its.length ≤ sizeLine := by rw [← r.length]; exact z
  refine call_function_entry_kw kind_sorted plain_sorted entry_sorted (ksk_s1 _ _) ?_
  unfold Builtin.«sorted»
  refine wpAny_bind (m := checkCount "sorted" 1 1 _) (wpAny_pure ?_)
  refine wpAny_bind (wpAny_collect_seq l hT ho hc hd (fun h' hk => ?_) (by rw [List.size_toArray]; exact hsz))
  have I1 : Inv X pins σ H { s with heap := h' } := I.kept (t' := s.toks) hk
  refine wpAny_bind (wpAny_newList ?_ hsz)
  refine wpAny_bind (wpAny_holding (wpAny_call_entry_kw slot_list_sort ⟨_, Heap.get?_push_size h' rfl, rfl⟩ entry_list_sort ?body (ksk_l1 _ _)))
  case body =>
    rw [ksk_t1]
    refine sort_tree F (s := { s with heap := h' }) sb I1 r hlen z hal hsk (fun d hd => ?_) turn fun H' s' J sm hn => ?_
    · have h1 := hr.un
      have h2 := hdep d hd
      show X.A.units + 1 + 1 + d.depth < cLine
      omega
    · exact ⟨.none, rfl, wpAny_pure ⟨_, rfl, ⟨V.ref h'.objs.size, _, J, rfl, q H' _ sm hn⟩⟩⟩
end Spk

set_option Elab.async false
set_option linter.all false
set_option maxRecDepth 100000
set_option maxHeartbeats 2000000
namespace Spk
open PySem PySem.Spec PyProof.Rows PySem.W L2

/-! ## operators of a class of the program's own -/
section
variable {X : Cx} {n : Nat} {C f : Addr} {sp : Sp}

theorem relR (a : Addr) : RelV (.ref a) (.ref a) := rfl
theorem relB (b : Bool) : RelV (.bl b) (.bool b) := rfl
theorem rel_back {w : V} {r : Value} {Q : Value → Shared → Prop} {s' : Shared} (h : RelV w r) (q : Q r s') : PySem.W.CmpBack Q r s' := by
  cases w with
  | non => cases h; exact q
  | bl b => cases h; exact q
  | int i => obtain ⟨t, rfl⟩ := h; exact q
  | str x => obtain ⟨t, rfl⟩ := h; exact q
  | byt x => obtain ⟨t, rfl⟩ := h; exact q
  | flt x => obtain ⟨t, rfl⟩ := h; exact q
  | ref a => cases h; exact q
  | ty n => cases h; exact q
theorem sub0 {k : Nat} (hr : Room k X.A) : Sub X k X.A := ⟨hr, rfl⟩

/-- an instance as the library's rules want it -/
theorem inst_of {pins : List (Addr × Obj)} {s : Shared} {σ : L2.St} {H : Hp} {a dx : Addr} {fs : List (Str × V)} (I : Inv X pins σ H s) (h : H a = some (.ins C dx fs)) :
    ∃ od, InstAt s.heap a (instObj C dx) C (some od) := by
  obtain ⟨mA, O, _⟩ := ins_get I.hok h
  obtain ⟨od, J, _⟩ := O.look
  exact ⟨od, J⟩

/-- a op b, both instances of C, by C's method -/
def rBin (C : Addr) (sp : Sp) : R2 := fun x y H Q => ∃ a b dx dy fs gs, x = .ref a ∧ y = .ref b ∧ H a = some (.ins C dx fs) ∧ H b = some (.ins C dy gs) ∧ sp [.ref a, .ref b] H Q E0
theorem op_own {op : Operator} (F : FnR X.prog X.w X.K X.mg X.base CX0 n f sp) (hr : Room n X.A) (hc : selfFirst X.K C = true) (hs : findIn X.K (.ref C) (PySem.dunder op.info.2) = some (some (.ref f))) (hf : isFn X.K (.ref f) = true) :
    OpR X (binaryOp op) (rBin C sp) := by
  intro pins s σ H x y v u Q I rx ry h
  obtain ⟨a, b, dx, dy, fs, gs, rfl, rfl, ha, hb, q⟩ := h
  cases rx
  cases ry
  obtain ⟨oa, ja⟩ := inst_of I ha
  obtain ⟨ob, jb⟩ := inst_of I hb
  obtain ⟨m, hF⟩ := I.fr
  refine binop_K hF I.ok.mod.kin ja jb.type hc hs hf ?_
  refine wpAny_mono (call_at F (sub0 hr) I (.cons (relR _) (.cons (relR _) .nil)) q) (fun r s' z => ?_) fun _ _ z => z
  obtain ⟨w, H', I', rw', q'⟩ := id z
  exact rel_back rw' z

/-- ~a -/
def rUno (C : Addr) (sp : Sp) : V → Hp → VK → Prop := fun x H Q => ∃ a dx fs, x = .ref a ∧ H a = some (.ins C dx fs) ∧ sp [.ref a] H Q E0
theorem un_own (F : FnR X.prog X.w X.K X.mg X.base CX0 n f sp) (hr : Room n X.A) (hs : findIn X.K (.ref C) "__invert__" = some (some (.ref f))) (hf : isFn X.K (.ref f) = true) :
    UnR X (unaryOp .Invert) (rUno C sp) := by
  intro pins s σ H x v Q I rx h
  obtain ⟨a, dx, fs, rfl, ha, q⟩ := h
  cases rx
  obtain ⟨oa, ja⟩ := inst_of I ha
  obtain ⟨m, hF⟩ := I.fr
  exact ksp_inv hF I.ok.mod.kin ja hs hf (call_at F (sub0 hr) I (.cons (relR _) .nil) q)

/-- x in a, x not in a -/
def rInO (C : Addr) (sp : Sp) (neg : Bool) : R2 := fun x y H Q => ∃ b dy gs, y = .ref b ∧ H b = some (.ins C dy gs) ∧ sp [.ref b, x] H (fun v H' => ∃ k, v = .bl k ∧ Q (.bl (if neg then !k else k)) H') E0
theorem op_inO (F : FnR X.prog X.w X.K X.mg X.base CX0 n f sp) (hr : Room n X.A) (hs : findIn X.K (.ref C) "__contains__" = some (some (.ref f))) (hf : isFn X.K (.ref f) = true) :
    OpR X (compareOp .In) (rInO C sp false) := by
  intro pins s σ H x y v u Q I rx ry h
  obtain ⟨b, dy, gs, rfl, hb, q⟩ := h
  cases ry
  obtain ⟨ob, jb⟩ := inst_of I hb
  obtain ⟨m, hF⟩ := I.fr
  refine in_K hF I.ok.mod.kin jb hs hf ?_
  refine wpAny_mono (call_at F (sub0 hr) I (.cons (relR _) (.cons rx .nil)) q) (fun r s' z => ?_) fun _ _ z => z
  obtain ⟨w, H', I', rw', k, rfl, q'⟩ := z
  cases rw'
  exact wpAny_truthy_bool ⟨_, H', I', relB _, q'⟩
theorem op_notInO (F : FnR X.prog X.w X.K X.mg X.base CX0 n f sp) (hr : Room n X.A) (hs : findIn X.K (.ref C) "__contains__" = some (some (.ref f))) (hf : isFn X.K (.ref f) = true) :
    OpR X (compareOp .NotIn) (rInO C sp true) := by
  intro pins s σ H x y v u Q I rx ry h
  obtain ⟨b, dy, gs, rfl, hb, q⟩ := h
  cases ry
  obtain ⟨ob, jb⟩ := inst_of I hb
  obtain ⟨m, hF⟩ := I.fr
  refine notIn_K hF I.ok.mod.kin jb hs hf ?_
  refine wpAny_mono (call_at F (sub0 hr) I (.cons (relR _) (.cons rx .nil)) q) (fun r s' z => ?_) fun _ _ z => z
  obtain ⟨w, H', I', rw', k, rfl, q'⟩ := z
  cases rw'
  exact wpAny_truthy_bool ⟨_, H', I', relB _, q'⟩

/-- a == y, a an instance of C with its own ==, y anything of a known type that is no subclass of C -/
def rEqO (K : Frag) (C : Addr) (sp : Sp) : R2 := fun x y H Q => ∃ a dx fs t, x = .ref a ∧ H a = some (.ins C dx fs) ∧ TyX K H y t ∧ notFirst K C t = true ∧ sp [.ref a, y] H (fun v H' => ∃ k, v = .bl k ∧ Q (.bl k) H') E0
theorem op_eqO (F : FnR X.prog X.w X.K X.mg X.base CX0 n f sp) (hr : Room n X.A) (hs : findIn X.K (.ref C) "__eq__" = some (some (.ref f))) (hf : isFn X.K (.ref f) = true) :
    OpR X (compareOp .Eq) (rEqO X.K C sp) := by
  intro pins s σ H x y v u Q I rx ry h
  obtain ⟨a, dx, fs, t, rfl, ha, ty, nf, q⟩ := h
  cases rx
  obtain ⟨oa, ja⟩ := inst_of I ha
  obtain ⟨m, hF⟩ := I.fr
  obtain ⟨P, kx, hp, _⟩ := kit_of I ry ty
  show wpAny (model X.prog X.w) X.A (richCompare .Eq (.ref a) u) (EP X pins σ Q) X.xe s
  refine cmp_K (op := .Eq) hr.units0 hF I.ok.mod.kin ja (kx.ty _ _ I.kIn hp) nf hs hf ?_
  refine wpAny_mono (call_at F (sub0 hr) I (.cons (relR _) (.cons ry .nil)) q) (fun r s' z => ?_) fun _ _ z => z
  obtain ⟨w, H', I', rw', k, rfl, q'⟩ := z
  cases rw'
  exact ⟨_, H', I', relB _, q'⟩

/-! ### a != y: object.__ne__ turns the own == round -/
theorem ifBoundB {M : Model} {A : Around} {E : Value → Shared → Prop} {s : Shared} {K : Frag} {x : Addr} {ox : Obj} {od : Option Obj} {name : Str} {id : String} {args : List Value} {Q : Option Value → Shared → Prop} (Xk : K.In s.heap) (I : InstAt s.heap x ox C od)
    (hs : findIn K (.ref C) name = some (some (.builtin id))) (hb : ∀ self, bindSpecial (.builtin id) self = pure (.builtin id, [self]))
    (h : wpAny M A (call (.builtin id) (.ref x :: args)) (fun v => Q (some v)) E s) : wpAny M A (callSpecialIfBound? (.ref x) name args) Q E s := by
  simp only [callSpecialIfBound?, bindSpecialIfBound?]
  refine wpAny_holding (wpAny_bind (wpAny_bind (wpAny_bind (I.type.here ((looks_findIn Xk hs).here ?_)))))
  simp only [hb]
  have fin : wpAny M A (call (.builtin id) ([.ref x] ++ args) >>= fun v => pure (some v)) Q E s :=
    wpAny_bind (wpAny_mono h (fun v s' z => wpAny_pure z) fun _ _ z => z)
  refine wpAny_bind (wpAny_askSetting (wpAny_ite ?_))
  split
  · exact wpAny_bind (wpAny_pure (wpAny_pure fin))
  · exact wpAny_tryCatch (wpAny_bind (wpAny_pure (wpAny_pure fin)))

theorem call_ne {pins : List (Addr × Obj)} {s : Shared} {σ : L2.St} {H : Hp} {a dx : Addr} {fs : List (Str × V)} {y : V} {u : Value} {Q : VK} {E : Value → Shared → Prop} {A : Around} (F : FnR X.prog X.w X.K X.mg X.base CX0 n f sp) (sb : Sub X (n + 1) A)
    (hs : findIn X.K (.ref C) "__eq__" = some (some (.ref f))) (hf : isFn X.K (.ref f) = true) (hob : subIn X.K (.ref C) (.type "object") = some true)
    (I : Inv X pins σ H s) (ha : H a = some (.ins C dx fs)) (ry : RelV y u) (q : sp [.ref a, y] H (fun v H' => ∃ k, v = .bl k ∧ Q (.bl (!k)) H') E0) :
    wpAny (model X.prog X.w) A (call (.builtin "object.__ne__") [.ref a, u]) (EP X pins σ fun v H' => (∃ k, v = .bl k) ∧ Q v H') E s := by
  obtain ⟨oa, ja⟩ := inst_of I ha
  have li : Looks (model X.prog X.w) s.heap (isInstance (.ref a) (.type "object")) true := ja.type.andThen (looks_subIn I.kIn hob)
  refine wpAny_call (codeAny_call_builtin PySem.F.cmp_object.ne.plain PySem.F.cmpEntry_ne (check_slot PySem.F.cmpKind_ne PySem.F.cmpSplit_ne li (PySem.F.cmpArgs_ne _ _) ?_))
  have body : wpAny (model X.prog X.w) A.in1 (Builtin.«object.__ne__» ⟨[.ref a, u], []⟩) (fun fin s' => ∃ v, fin = .done (.ret v) ∧ EP X pins σ (fun v H' => (∃ k, v = .bl k) ∧ Q v H') v s') (fun _ _ => False) s := by
    unfold Builtin.«object.__ne__»
    have hu : A.in1.units < cLine := sb.in1.room.units0
    refine wpAny_bind (wpAny_pure ?_)
    dsimp only
    refine wpAny_bind (wpAny_cRoomFor hu ?_)
    refine wpAny_bind (ifBound_K I.kIn ja hs hf (wpAny_mono (call_at F sb.in1 I (.cons (relR _) (.cons ry .nil)) q) (fun r s' z => ?_) fun _ _ z => z))
    obtain ⟨w, H', I', rw', k, rfl, q'⟩ := z
    cases rw'
    dsimp only
    refine wpAny_bind (wpAny_truthy_bool ?_)
    exact wpAny_pure ⟨_, rfl, _, H', I', relB _, ⟨_, rfl⟩, q'⟩
  refine wpAny_mono body (fun fin s' z => ?_) fun _ _ z => z.elim
  obtain ⟨v, rfl, z⟩ := z
  exact z
end
end Spk

set_option Elab.async false
set_option linter.all false
set_option maxRecDepth 100000
set_option maxHeartbeats 2000000
namespace Spk
open PySem PySem.Spec PyProof.Rows PySem.W L2
open AutoSeq1 (wpAny_loadPart')
open MeetsSeq MeetsSeq2 MeetsSeq3 SeqRoads2

/-! ## built-in == and != decline an instance of an own class -/
section
variable {prog : Program} {w : World} {x C dx : Addr}
theorem int_eq_dec (b : Int) (u : Tok) : Meets (Builtin.«int.__eq__» ⟨[.int b u, .ref x], []⟩) (fun _ R s => s.heap.get? x = some (instObj C dx) ∧ R (.ok (.ret .notImplemented)) s) :=
  .of_wp fun prog w A R s h => by obtain ⟨hp, g, d, tk, os⟩ := s; obtain ⟨hl, h⟩ := h; unfold instObj at hl; wp_walk using wpAny_loadPart' hl, wpAny_load hl; exact ⟨_, rfl, h⟩
theorem int_ne_dec (b : Int) (u : Tok) : Meets (Builtin.«int.__ne__» ⟨[.int b u, .ref x], []⟩) (fun _ R s => s.heap.get? x = some (instObj C dx) ∧ R (.ok (.ret .notImplemented)) s) :=
  .of_wp fun prog w A R s h => by obtain ⟨hp, g, d, tk, os⟩ := s; obtain ⟨hl, h⟩ := h; unfold instObj at hl; wp_walk using wpAny_loadPart' hl, wpAny_load hl; exact ⟨_, rfl, h⟩
theorem bool_eq_dec (b : Bool) : Meets (Builtin.«int.__eq__» ⟨[.bool b, .ref x], []⟩) (fun _ R s => s.heap.get? x = some (instObj C dx) ∧ R (.ok (.ret .notImplemented)) s) :=
  .of_wp fun prog w A R s h => by obtain ⟨hp, g, d, tk, os⟩ := s; obtain ⟨hl, h⟩ := h; unfold instObj at hl; wp_walk using wpAny_loadPart' hl, wpAny_load hl; exact ⟨_, rfl, h⟩
theorem bool_ne_dec (b : Bool) : Meets (Builtin.«int.__ne__» ⟨[.bool b, .ref x], []⟩) (fun _ R s => s.heap.get? x = some (instObj C dx) ∧ R (.ok (.ret .notImplemented)) s) :=
  .of_wp fun prog w A R s h => by obtain ⟨hp, g, d, tk, os⟩ := s; obtain ⟨hl, h⟩ := h; unfold instObj at hl; wp_walk using wpAny_loadPart' hl, wpAny_load hl; exact ⟨_, rfl, h⟩
theorem str_eq_dec (b : Str) (u : Tok) : Meets (Builtin.«str.__eq__» ⟨[.str b u, .ref x], []⟩) (fun _ R s => s.heap.get? x = some (instObj C dx) ∧ R (.ok (.ret .notImplemented)) s) :=
  .of_wp fun prog w A R s h => by obtain ⟨hp, g, d, tk, os⟩ := s; obtain ⟨hl, h⟩ := h; unfold instObj at hl; wp_walk using wpAny_loadPart' hl, wpAny_load hl; exact ⟨_, rfl, h⟩
theorem str_ne_dec (b : Str) (u : Tok) : Meets (Builtin.«str.__ne__» ⟨[.str b u, .ref x], []⟩) (fun _ R s => s.heap.get? x = some (instObj C dx) ∧ R (.ok (.ret .notImplemented)) s) :=
  .of_wp fun prog w A R s h => by obtain ⟨hp, g, d, tk, os⟩ := s; obtain ⟨hl, h⟩ := h; unfold instObj at hl; wp_walk using wpAny_loadPart' hl, wpAny_load hl; exact ⟨_, rfl, h⟩
end

/-- values of built-in kinds that an instance is compared with -/
inductive Odd (H : Hp) : V → String → Prop where
  | non : Odd H .non "NoneType"
  | bl (b : Bool) : Odd H (.bl b) "bool"
  | int (i : Int) : Odd H (.int i) "int"
  | str (x : Str) : Odd H (.str x) "str"
  | lst {a : Addr} {xs : List V} (h : H a = some (.lst xs)) : Odd H (.ref a) "list"
  | tup {a : Addr} {xs : List V} (h : H a = some (.tup xs)) : Odd H (.ref a) "tuple"
theorem Odd.ty {K : Frag} {H : Hp} {y : V} {T : String} (h : Odd H y T) : TyX K H y (.type T) := by
  cases h with
  | non => exact .base .non
  | bl b => exact .base (.bl b)
  | int i => exact .base (.int i)
  | str x => exact .base (.str x)
  | lst h => exact .base (.lst h)
  | tup h => exact .base (.tup h)

/-- what the text says of a class: it is over no built-in type -/
structure Bare (K : Frag) (C : Addr) : Prop where
  o : subIn K (.ref C) (.type "object") = some true
  n : subIn K (.ref C) (.type "NoneType") = some false
  b : subIn K (.ref C) (.type "bool") = some false
  i : subIn K (.ref C) (.type "int") = some false
  s : subIn K (.ref C) (.type "str") = some false
  l : subIn K (.ref C) (.type "list") = some false
  t : subIn K (.ref C) (.type "tuple") = some false
theorem Bare.odd {K : Frag} {C : Addr} {H : Hp} {y : V} {T : String} (B : Bare K C) (h : Odd H y T) : subIn K (.ref C) (.type T) = some false := by
  cases h with
  | non => exact B.n
  | bl b => exact B.b
  | int i => exact B.i
  | str x => exact B.s
  | lst h => exact B.l
  | tup h => exact B.t

section
variable {X : Cx} {pins : List (Addr × Obj)} {s : Shared} {σ : L2.St} {H : Hp} {a C dx : Addr} {fs : List (Str × V)} {y : V} {u : Value} {T : String} {A : Around} {E : Value → Shared → Prop} {Q : Option Value → Shared → Prop}
theorem list_dec {l : Addr} {T : String} {name : Str} {id : String} {B : Builtin} (I : Inv X pins σ H s) (ha : H a = some (.ins C dx fs)) (hno : subIn X.K (.ref C) (.type T) = some false) (slot : Slot T name id) (hT : s.TypeIs (.ref l) T)
    (entry : entryFor table id = some B) (args : argsOk id ⟨[.ref l, .ref a], []⟩)
    (hB : ∀ (A : Around) (P : PySem.Fin → Shared → Prop) (E : Value → Shared → Prop), Looks (model X.prog X.w) s.heap (isInstance (.ref a) (.type T)) false → P (.done (.ret .notImplemented)) s → wpAny (model X.prog X.w) A (B ⟨[.ref l, .ref a], []⟩) P E s)
    (q : Q none s) : wpAny (model X.prog X.w) A (tryCompare (.ref l) name (.ref a)) Q E s := by
  obtain ⟨oa, ja⟩ := inst_of I ha
  have li : Looks (model X.prog X.w) s.heap (isInstance (.ref a) (.type T)) false := ja.type.andThen (looks_subIn I.kIn hno)
  refine wpAny_tryCompare_declines hT slot ?_
  refine GQ.call_here slot hT entry args ?_
  exact hB _ _ _ li ⟨rfl, q⟩
theorem try_dec_eq (B : Bare X.K C) (I : Inv X pins σ H s) (ha : H a = some (.ins C dx fs)) (o : Odd H y T) (ry : RelV y u) (q : Q none s) : wpAny (model X.prog X.w) A (tryCompare u "__eq__" (.ref a)) Q E s := by
  obtain ⟨oa, ja⟩ := inst_of I ha
  cases o with
  | non =>
    cases ry
    exact wpAny_tryCompare_declines (T := "NoneType") rfl PySem.F.slot_NoneType_eq (call_gives PySem.F.slot_NoneType_eq rfl PySem.F.entry_NoneType_eq (PySem.F.args_NoneType_eq_2 _ _) (SeqAt.NoneType___eq___none_ref_0 a) (show _ ∧ _ from ⟨rfl, q⟩))
  | bl b =>
    cases ry
    exact wpAny_tryCompare_declines (T := "bool") rfl PySem.F.slot_bool_eq (call_meets PySem.F.slot_bool_eq rfl PySem.F.entry_int_eq (PySem.F.args_int_eq_2 _ _) (bool_eq_dec (C := C) (dx := dx) b) ⟨ja.at_, rfl, q⟩)
  | int i =>
    obtain ⟨t, rfl⟩ := ry
    exact wpAny_tryCompare_declines (T := "int") (typeIs_int s i t) PySem.F.slot_int_eq (call_meets PySem.F.slot_int_eq (typeIs_int s i t) PySem.F.entry_int_eq (PySem.F.args_int_eq_2 _ _) (int_eq_dec (C := C) (dx := dx) i t) ⟨ja.at_, rfl, q⟩)
  | str x =>
    obtain ⟨t, rfl⟩ := ry
    exact wpAny_tryCompare_declines (T := "str") (typeIs_str s x t) PySem.F.slot_str_eq (call_meets PySem.F.slot_str_eq (typeIs_str s x t) PySem.F.entry_str_eq (PySem.F.args_str_eq_2 _ _) (str_eq_dec (C := C) (dx := dx) x t) ⟨ja.at_, rfl, q⟩)
  | lst h =>
    cases ry
    obtain ⟨_, its, k, _, e⟩ := (show ObjOk X.prog X.w H s.heap _ (.lst _) from I.hok _ _ h)
    refine list_dec I ha B.l PySem.F.slot_list_eq ⟨_, e, rfl⟩ PySem.F.entry_list_eq (PySem.F.args_list_eq_2 _ _) (fun A P E li q => ?_) q
    obtain ⟨hp, g, d, tk, os⟩ := s
    wp_walk using li.here
    exact q
  | tup h =>
    cases ry
    obtain ⟨_, its, _, o, e, c⟩ := (show ObjOk X.prog X.w H s.heap _ (.tup _) from I.hok _ _ h)
    refine list_dec I ha B.t PySem.F.slot_tuple_eq ⟨_, e, c.1⟩ PySem.F.entry_tuple_eq (PySem.F.args_tuple_eq_2 _ _) (fun A P E li q => ?_) q
    obtain ⟨hp, g, d, tk, os⟩ := s
    wp_walk using li.here
    exact q
theorem try_dec_ne (B : Bare X.K C) (I : Inv X pins σ H s) (ha : H a = some (.ins C dx fs)) (o : Odd H y T) (ry : RelV y u) (q : Q none s) : wpAny (model X.prog X.w) A (tryCompare u "__ne__" (.ref a)) Q E s := by
  obtain ⟨oa, ja⟩ := inst_of I ha
  cases o with
  | non =>
    cases ry
    exact wpAny_tryCompare_declines (T := "NoneType") rfl PySem.F.slot_NoneType_ne (call_gives PySem.F.slot_NoneType_ne rfl PySem.F.entry_NoneType_ne (PySem.F.args_NoneType_ne_2 _ _) (SeqAt.NoneType___ne___none_ref_0 a) (show _ ∧ _ from ⟨rfl, q⟩))
  | bl b =>
    cases ry
    exact wpAny_tryCompare_declines (T := "bool") rfl PySem.F.slot_bool_ne (call_meets PySem.F.slot_bool_ne rfl PySem.F.entry_int_ne (PySem.F.args_int_ne_2 _ _) (bool_ne_dec (C := C) (dx := dx) b) ⟨ja.at_, rfl, q⟩)
  | int i =>
    obtain ⟨t, rfl⟩ := ry
    exact wpAny_tryCompare_declines (T := "int") (typeIs_int s i t) PySem.F.slot_int_ne (call_meets PySem.F.slot_int_ne (typeIs_int s i t) PySem.F.entry_int_ne (PySem.F.args_int_ne_2 _ _) (int_ne_dec (C := C) (dx := dx) i t) ⟨ja.at_, rfl, q⟩)
  | str x =>
    obtain ⟨t, rfl⟩ := ry
    exact wpAny_tryCompare_declines (T := "str") (typeIs_str s x t) PySem.F.slot_str_ne (call_meets PySem.F.slot_str_ne (typeIs_str s x t) PySem.F.entry_str_ne (PySem.F.args_str_ne_2 _ _) (str_ne_dec (C := C) (dx := dx) x t) ⟨ja.at_, rfl, q⟩)
  | lst h =>
    cases ry
    obtain ⟨_, its, k, _, e⟩ := (show ObjOk X.prog X.w H s.heap _ (.lst _) from I.hok _ _ h)
    refine list_dec I ha B.l PySem.F.slot_list_ne ⟨_, e, rfl⟩ PySem.F.entry_list_ne (PySem.F.args_list_ne_2 _ _) (fun A P E li q => ?_) q
    obtain ⟨hp, g, d, tk, os⟩ := s
    wp_walk using li.here
    exact q
  | tup h =>
    cases ry
    obtain ⟨_, its, _, o, e, c⟩ := (show ObjOk X.prog X.w H s.heap _ (.tup _) from I.hok _ _ h)
    refine list_dec I ha B.t PySem.F.slot_tuple_ne ⟨_, e, c.1⟩ PySem.F.entry_tuple_ne (PySem.F.args_tuple_ne_2 _ _) (fun A P E li q => ?_) q
    obtain ⟨hp, g, d, tk, os⟩ := s
    wp_walk using li.here
    exact q
end

/-! ### the comparison itself -/
section
variable {X : Cx} {n : Nat} {C f : Addr} {sp : Sp}
theorem rc_right {op : CmpOp} {M : Model} {A : Around} {E : Value → Shared → Prop} {s : Shared} {u b : Value} {T : String} {Q : Value → Shared → Prop} (h1 : oneThing? op u b = none) (hu : A.units < cLine)
    (lu : Looks M s.heap (typeOf u) (.type T)) (lb : Looks M s.heap (typeOf b) (.ref C)) (ls : Looks M s.heap (isSubtype (.ref C) (.type T)) false)
    (d : ∀ Q' : Option Value → Shared → Prop, Q' none s → wpAny M A (tryCompare u (cmpInfo op).2.1 b) Q' E s)
    (h : wpAny M A (tryCompare b (cmpInfo op).2.2 u) (fun r s' => ∃ v, r = some v ∧ Q v s') E s) : wpAny M A (richCompare op u b) Q E s := by
  unfold richCompare
  simp only [h1]
  refine wpAny_holding (wpAny_bind (wpAny_cRoomFor hu ?_))
  refine wpAny_bind (lu.here (wpAny_bind (lb.here ?_)))
  rw [if_pos (by simp)]
  refine wpAny_bind (ls.here ?_)
  simp only [Bool.false_eq_true, if_false]
  refine wpAny_bind (d _ ?_)
  simp only [Bool.not_false, if_true]
  refine wpAny_bind (wpAny_mono h (fun r s' z => ?_) fun _ _ z => z)
  obtain ⟨v, rfl, q⟩ := z
  exact wpAny_pure q
theorem rc_left {op : CmpOp} {M : Model} {A : Around} {E : Value → Shared → Prop} {s : Shared} {a b tb : Value} {Q : Value → Shared → Prop} (h1 : oneThing? op a b = none) (hu : A.units < cLine)
    (la : Looks M s.heap (typeOf a) (.ref C)) (lb : Looks M s.heap (typeOf b) tb) (ls : tb = .ref C ∨ Looks M s.heap (isSubtype tb (.ref C)) false)
    (h : wpAny M A (tryCompare a (cmpInfo op).2.1 b) (fun r s' => ∃ v, r = some v ∧ Q v s') E s) : wpAny M A (richCompare op a b) Q E s := by
  unfold richCompare
  simp only [h1]
  refine wpAny_holding (wpAny_bind (wpAny_cRoomFor hu ?_))
  refine wpAny_bind (la.here (wpAny_bind (lb.here ?_)))
  have go : ∀ k : Sem Bool, Looks M s.heap k false → wpAny M A (do
      let rightFirst ← k
      if rightFirst then
        if let some v ← tryCompare b (cmpInfo op).2.2 a then rule "compare.subclass-reflected-first"; return v
      if let some v ← tryCompare a (cmpInfo op).2.1 b then return v
      if !rightFirst then
        if let some v ← tryCompare b (cmpInfo op).2.2 a then return v
      match op with
      | .Eq => rule "compare.eq-identity"; return .bool (← isSame a b)
      | .NotEq => rule "compare.ne-identity"; return .bool (!(← isSame a b))
      | _ =>
        rule "compare.unsupported"
        raiseError "TypeError" s!"'{(cmpInfo op).1}' not supported between instances of '{← typeNameOf a}' and '{← typeNameOf b}'") Q E s := by
    intro k lk
    refine wpAny_bind (lk.here ?_)
    simp only [Bool.false_eq_true, if_false]
    refine wpAny_bind (wpAny_mono h (fun r s' z => ?_) fun _ _ z => z)
    obtain ⟨v, rfl, q⟩ := z
    exact wpAny_pure q
  rcases ls with rfl | ls
  · rw [if_neg (by simp)]
    exact go _ .now
  · by_cases e : (Value.ref C != tb) = true
    · rw [if_pos e]
      exact go _ ls
    · rw [if_neg e]
      exact go _ .now

theorem try_ne {pins : List (Addr × Obj)} {s : Shared} {σ : L2.St} {H : Hp} {a dx : Addr} {fs : List (Str × V)} {y : V} {u : Value} {Q : VK} {E : Value → Shared → Prop} (F : FnR X.prog X.w X.K X.mg X.base CX0 n f sp) (hr : Room (n + 1) X.A)
    (hs : findIn X.K (.ref C) "__eq__" = some (some (.ref f))) (hn : findIn X.K (.ref C) "__ne__" = some (some (.builtin "object.__ne__"))) (hf : isFn X.K (.ref f) = true) (B : Bare X.K C)
    (I : Inv X pins σ H s) (ha : H a = some (.ins C dx fs)) (ry : RelV y u) (q : sp [.ref a, y] H (fun v H' => ∃ k, v = .bl k ∧ Q (.bl (!k)) H') E0) :
    wpAny (model X.prog X.w) X.A (tryCompare (.ref a) "__ne__" u) (fun r s' => ∃ v, r = some v ∧ EP X pins σ Q v s') E s := by
  obtain ⟨oa, ja⟩ := inst_of I ha
  unfold tryCompare
  refine wpAny_bind (ifBoundB I.kIn ja hn PySem.F.cmp_object.ne.bind (wpAny_mono (call_ne F (sub0 hr) hs hf B.o I ha ry q) (fun v s' z => ?_) fun _ _ z => z))
  obtain ⟨w, H', I', rw', ⟨k, rfl⟩, q'⟩ := z
  cases rw'
  exact wpAny_pure ⟨_, rfl, _, H', I', relB _, q'⟩

/-- what the text says of a class with its own == and none of the other comparisons -/
structure OwnEq (K : Frag) (C f : Addr) : Prop where
  eq : findIn K (.ref C) "__eq__" = some (some (.ref f))
  ne : findIn K (.ref C) "__ne__" = some (some (.builtin "object.__ne__"))
  fn : isFn K (.ref f) = true
  bare : Bare K C

/-- a != y, a an instance of C -/
def rNeO (K : Frag) (C : Addr) (sp : Sp) : R2 := fun x y H Q => ∃ a dx fs t, x = .ref a ∧ H a = some (.ins C dx fs) ∧ TyX K H y t ∧ notFirst K C t = true ∧ sp [.ref a, y] H (fun v H' => ∃ k, v = .bl k ∧ Q (.bl (!k)) H') E0
theorem op_neO (F : FnR X.prog X.w X.K X.mg X.base CX0 n f sp) (hr : Room (n + 1) X.A) (O : OwnEq X.K C f) : OpR X (compareOp .NotEq) (rNeO X.K C sp) := by
  intro pins s σ H x y v u Q I rx ry h
  obtain ⟨a, dx, fs, t, rfl, ha, ty, nf, q⟩ := h
  cases rx
  obtain ⟨oa, ja⟩ := inst_of I ha
  obtain ⟨P, kx, hp, _⟩ := kit_of I ry ty
  show wpAny (model X.prog X.w) X.A (richCompare .NotEq (.ref a) u) (EP X pins σ Q) X.xe s
  refine rc_left (op := .NotEq) (C := C) (tb := t) (oneThing_ref ..) hr.units0 ja.type (kx.ty _ _ I.kIn hp) ?_ (try_ne F hr O.eq O.ne O.fn O.bare I ha ry q)
  rcases Bool.or_eq_true_iff.mp nf with e | e
  · exact .inl (beq_iff_eq.mp e)
  · exact .inr (looks_subIn I.kIn (beq_iff_eq.mp e))

/-- y == a, y != a, y of a built-in kind, a an instance of C -/
def rEqR (K : Frag) (C : Addr) (sp : Sp) : R2 := fun y x H Q => ∃ a dx fs T, x = .ref a ∧ H a = some (.ins C dx fs) ∧ Odd H y T ∧ sp [.ref a, y] H (fun v H' => ∃ k, v = .bl k ∧ Q (.bl k) H') E0
def rNeR (K : Frag) (C : Addr) (sp : Sp) : R2 := fun y x H Q => ∃ a dx fs T, x = .ref a ∧ H a = some (.ins C dx fs) ∧ Odd H y T ∧ sp [.ref a, y] H (fun v H' => ∃ k, v = .bl k ∧ Q (.bl (!k)) H') E0
theorem one_odd {op : CmpOp} {H : Hp} {y : V} {T : String} {u : Value} {a : Addr} (o : Odd H y T) (ry : RelV y u) : oneThing? op u (.ref a) = none := by
  cases o with
  | non => cases ry; rfl
  | bl b => cases ry; rfl
  | int i => obtain ⟨t, rfl⟩ := ry; rfl
  | str x => obtain ⟨t, rfl⟩ := ry; rfl
  | lst h => cases ry; exact oneThing_ref ..
  | tup h => cases ry; exact oneThing_ref ..
theorem op_eqR (F : FnR X.prog X.w X.K X.mg X.base CX0 n f sp) (hr : Room (n + 1) X.A) (O : OwnEq X.K C f) : OpR X (compareOp .Eq) (rEqR X.K C sp) := by
  intro pins s σ H y x u v Q I ry rx h
  obtain ⟨a, dx, fs, T, rfl, ha, o, q⟩ := h
  cases rx
  obtain ⟨oa, ja⟩ := inst_of I ha
  obtain ⟨P, kx, hp, _⟩ := kit_of I ry (o.ty (K := X.K))
  show wpAny (model X.prog X.w) X.A (richCompare .Eq u (.ref a)) (EP X pins σ Q) X.xe s
  refine rc_right (op := .Eq) (C := C) (T := T) (one_odd o ry) hr.units0 (kx.ty _ _ I.kIn hp) ja.type (looks_subIn I.kIn (O.bare.odd o)) (fun Q' z => try_dec_eq O.bare I ha o ry z) ?_
  unfold tryCompare
  refine wpAny_bind (ifBound_K I.kIn ja O.eq O.fn (wpAny_mono (call_at F (sub0 (hr.mono (Nat.le_succ _))) I (.cons (relR _) (.cons ry .nil)) q) (fun r s' z => ?_) fun _ _ z => z))
  obtain ⟨w, H', I', rw', k, rfl, q'⟩ := z
  cases rw'
  exact wpAny_pure ⟨_, rfl, _, H', I', relB _, q'⟩
theorem op_neR (F : FnR X.prog X.w X.K X.mg X.base CX0 n f sp) (hr : Room (n + 1) X.A) (O : OwnEq X.K C f) : OpR X (compareOp .NotEq) (rNeR X.K C sp) := by
  intro pins s σ H y x u v Q I ry rx h
  obtain ⟨a, dx, fs, T, rfl, ha, o, q⟩ := h
  cases rx
  obtain ⟨oa, ja⟩ := inst_of I ha
  obtain ⟨P, kx, hp, _⟩ := kit_of I ry (o.ty (K := X.K))
  show wpAny (model X.prog X.w) X.A (richCompare .NotEq u (.ref a)) (EP X pins σ Q) X.xe s
  exact rc_right (op := .NotEq) (C := C) (T := T) (one_odd o ry) hr.units0 (kx.ty _ _ I.kIn hp) ja.type (looks_subIn I.kIn (O.bare.odd o)) (fun Q' z => try_dec_ne O.bare I ha o ry z) (try_ne F hr O.eq O.ne O.fn O.bare I ha ry q)
end
end Spk

set_option Elab.async false
set_option linter.all false
set_option maxRecDepth 100000
set_option maxHeartbeats 2000000
namespace Spk
open PySem PySem.Spec PyProof.Rows PySem.W L2
open PySem.Sem (wp)

/-! ## bool(t) of a tuple, bool(a) and the truth of an instance by its own __bool__ -/
theorem bool_new_in {prog : Program} {w : World} (x : Value) : MeetsIn prog w (Builtin.«bool.__new__» ⟨[.type "bool", x], []⟩)
    (fun A R s => wpAny (model prog w) A.in1 (truthy x) (fun b s' => R (.ok (.ret (.bool b))) s') (fun e s' => R (.error e) s') s) := fun A R s h => by
  have f1 := F.conv_sub_bool
  obtain ⟨hp, g, d, tk, os⟩ := s
  repeat (any_goals (first | assumption | (with_reducible refine wpAny_bind (m := truthy x) (wpAny_mono h (fun b s' z => ?_) fun _ _ z => z)) | wp_step))
  all_goals first | exact ⟨_, rfl, z⟩ | exact z | skip

section
variable {X : Cx} {n : Nat} {C f : Addr} {sp : Sp}
theorem call_bool_by {A : Around} {E : Value → Shared → Prop} {s : Shared} {x : Value} {Q : Value → Shared → Prop} (h : wpAny (model X.prog X.w) A.in1.in1 (truthy x) (fun b s' => Q (.bool b) s') E s) :
    wpAny (model X.prog X.w) A (call (.type "bool") [x]) Q E s :=
  callType_newIn PySem.F.called_bool PySem.F.newNe_bool (PySem.F.typeCall_bool_1 x) (PySem.F.newCall_bool_1 x) (fun obj => PySem.F.args_object_init_2 obj x) PySem.F.entry_bool_new (bool_new_in x)
    (wpAny_mono h (fun b s' z => ⟨rfl, z⟩) fun _ _ z => z)

/-- bool(t), t a tuple -/
theorem call_boolT : CallR X (.type "bool") (fun xs H Q => ∃ (a : Addr) (zs : List V), xs = [.ref a] ∧ SqT X.K H a zs ∧ Q (.bl (!zs.isEmpty)) H) := by
  intro pins s σ H xs us Q I r h
  obtain ⟨a, zs, rfl, hq, q⟩ := h
  obtain rfl := Vals.ref1 r
  obtain ⟨its, rv, pl, hz⟩ := I.tuple hq
  have hl := line63
  have hlen := rv.length
  refine call_bool_by (truthy_tuple pl (by simp only [List.size_toArray]; omega) ?_)
  exact ⟨.bl (!zs.isEmpty), H, I.tok _, by rw [isEmpty_of rv]; rfl, q⟩

/-- the truth of an instance of C -/
def rTruO (C : Addr) (sp : Sp) : V → Hp → (Bool → Hp → Prop) → Prop := fun x H Q => ∃ a dx fs, x = .ref a ∧ H a = some (.ins C dx fs) ∧ sp [.ref a] H (fun v H' => ∃ k, v = .bl k ∧ Q k H') E0
theorem truthy_own {A : Around} {E : Value → Shared → Prop} {pins : List (Addr × Obj)} {s : Shared} {σ : L2.St} {H : Hp} {x : V} {u : Value} {Q : Bool → Hp → Prop} (F : FnR X.prog X.w X.K X.mg X.base CX0 n f sp) (sb : Sub X n A)
    (hs : findIn X.K (.ref C) "__bool__" = some (some (.ref f))) (hf : isFn X.K (.ref f) = true) (I : Inv X pins σ H s) (rx : RelV x u) (h : rTruO C sp x H Q) : wpAny (model X.prog X.w) A (truthy u) (TP X pins σ Q) E s := by
  obtain ⟨a, dx, fs, rfl, ha, q⟩ := h
  cases rx
  obtain ⟨oa, ja⟩ := inst_of I ha
  obtain ⟨m, hF⟩ := I.fr
  refine truthy_K hF I.ok.mod.kin ja hs hf (wpAny_mono (call_at F sb I (.cons (relR _) .nil) q) (fun r s' z => ?_) fun _ _ z => z)
  obtain ⟨w, H', I', rw', k, rfl, q'⟩ := z
  cases rw'
  exact ⟨H', I', q'⟩
/-- bool(a) -/
theorem call_boolO (F : FnR X.prog X.w X.K X.mg X.base CX0 n f sp) (hr : Room (n + 2) X.A) (hs : findIn X.K (.ref C) "__bool__" = some (some (.ref f))) (hf : isFn X.K (.ref f) = true) :
    CallR X (.type "bool") (fun xs H Q => ∃ x, xs = [x] ∧ rTruO C sp x H (fun k H' => Q (.bl k) H')) := by
  intro pins s σ H xs us Q I r h
  obtain ⟨x, rfl, h⟩ := h
  obtain ⟨u, rfl, ru⟩ := r.one
  refine call_bool_by (wpAny_mono (truthy_own F (Sub.in1 (Sub.in1 (sub0 hr))) hs hf I ru h) (fun b s' z => ?_) fun _ _ z => z)
  obtain ⟨H', I', q'⟩ := z
  exact ⟨_, H', I', relB _, q'⟩
end
end Spk

set_option linter.all false
namespace Spk
abbrev Stc := Option Int × Option Int
def has1 (s : Stc) (n : Int) : Bool := (match s.1 with | none => true | some l => decide (l ≤ n)) && (match s.2 with | none => true | some h => decide (n ≤ h))
def hasL (ss : List Stc) (n : Int) : Bool := ss.any fun s => has1 s n
def NE (s : Stc) : Prop := ∀ l h, s.1 = some l → s.2 = some h → l ≤ h
def Apart (a b : Stc) : Prop := ∃ h l, a.2 = some h ∧ b.1 = some l ∧ h + 1 < l
structure Canon (ps : List Stc) : Prop where
  ne : ∀ s, s ∈ ps → NE s
  ap : ps.Pairwise Apart
def touchB (hi lo : Option Int) : Bool := match lo, hi with
  | none, _ => true
  | _, none => true
  | some l, some h => decide (l ≤ h + 1)
def laterE (a b : Option Int) : Option Int := match a, b with
  | none, _ => none
  | _, none => none
  | some x, some y => some (if y > x then y else x)
def joinF (acc : List Stc) (s : Stc) : List Stc := match acc.getLast? with
  | none => acc ++ [s]
  | some p => if touchB p.2 s.1 = true then acc.dropLast ++ [(p.1, laterE p.2 s.2)] else acc ++ [s]
def lowLe (a b : Option Int) : Prop := match a, b with
  | none, _ => True
  | some _, none => False
  | some i, some j => i ≤ j
theorem has1_of {s : Stc} {n : Int} (h1 : ∀ k, s.1 = some k → k ≤ n) (h2 : ∀ k, s.2 = some k → n ≤ k) : has1 s n = true := by
  obtain ⟨l, r⟩ := s
  cases l <;> cases r <;> simp_all [has1]
theorem hasL_append (a b : List Stc) (n : Int) : hasL (a ++ b) n = (hasL a n || hasL b n) := by simp [hasL, List.any_append]
theorem hasL_one (s : Stc) (n : Int) : hasL [s] n = has1 s n := by simp [hasL]
theorem hasL_cons (s : Stc) (b : List Stc) (n : Int) : hasL (s :: b) n = (has1 s n || hasL b n) := by simp [hasL]
theorem hasL_nil (n : Int) : hasL [] n = false := rfl

theorem join_has (p s : Stc) (n : Int) (hp : NE p) (hs : NE s) (hl : lowLe p.1 s.1) (ht : touchB p.2 s.1 = true) : has1 (p.1, laterE p.2 s.2) n = (has1 p n || has1 s n) := by
  obtain ⟨pl, ph⟩ := p
  obtain ⟨sl, sh⟩ := s
  rw [Bool.eq_iff_iff]
  cases pl <;> cases ph <;> cases sl <;> cases sh <;> simp_all [has1, laterE, touchB, lowLe, NE]
  all_goals (try split)
  all_goals (try omega)
theorem join_ne (p s : Stc) (hp : NE p) : NE (p.1, laterE p.2 s.2) := by
  obtain ⟨pl, ph⟩ := p
  obtain ⟨sl, sh⟩ := s
  intro l h h1 h2
  cases ph <;> cases sh <;> simp_all [laterE]
  have := hp l _ rfl rfl
  split at h2 <;> omega
theorem notouch {p s : Stc} (h : touchB p.2 s.1 = false) : Apart p s := by
  obtain ⟨pl, ph⟩ := p
  obtain ⟨sl, sh⟩ := s
  cases ph <;> cases sl <;> simp_all [touchB, Apart]
theorem apart_trans {a p s : Stc} (h1 : Apart a p) (hp : NE p) (h2 : Apart p s) : Apart a s := by
  obtain ⟨h, l, e1, e2, q⟩ := h1
  obtain ⟨h', l', e3, e4, q'⟩ := h2
  have := hp l h' e2 e3
  exact ⟨h, l', e1, e4, by omega⟩
theorem canon_snoc {acc : List Stc} {p s : Stc} (h : Canon (acc ++ [p])) (hs : NE s) (ha : Apart p s) : Canon (acc ++ [p] ++ [s]) := by
  refine ⟨fun x hx => ?_, ?_⟩
  · rcases List.mem_append.mp hx with hx | hx
    · exact h.ne x hx
    · rw [List.mem_singleton.mp hx]; exact hs
  · refine List.pairwise_append.mpr ⟨h.ap, List.pairwise_singleton .., fun a ha' b hb => ?_⟩
    rw [List.mem_singleton.mp hb]
    rcases List.mem_append.mp ha' with q | q
    · exact apart_trans ((List.pairwise_append.mp h.ap).2.2 a q p (by simp)) (h.ne p (by simp)) ha
    · rw [List.mem_singleton.mp q]; exact ha
theorem canon_last {acc : List Stc} {p s : Stc} (h : Canon (acc ++ [p])) : Canon (acc ++ [(p.1, laterE p.2 s.2)]) := by
  refine ⟨fun x hx => ?_, ?_⟩
  · rcases List.mem_append.mp hx with hx | hx
    · exact h.ne x (List.mem_append_left _ hx)
    · rw [List.mem_singleton.mp hx]; exact join_ne p s (h.ne p (by simp))
  · refine List.pairwise_append.mpr ⟨(List.pairwise_append.mp h.ap).1, List.pairwise_singleton .., fun a ha b hb => ?_⟩
    rw [List.mem_singleton.mp hb]
    exact (List.pairwise_append.mp h.ap).2.2 a ha p (by simp)
/-- one step of the joining -/
theorem join_step {acc pre : List Stc} {s : Stc} (hc : Canon acc) (hm : ∀ n, hasL acc n = hasL pre n) (hl : ∀ a, a ∈ acc → lowLe a.1 s.1) (hs : NE s) :
    Canon (joinF acc s) ∧ (∀ n, hasL (joinF acc s) n = hasL (pre ++ [s]) n) ∧ ∀ a, a ∈ joinF acc s → a.1 = s.1 ∨ ∃ b, b ∈ acc ∧ a.1 = b.1 := by
  rcases List.eq_nil_or_concat acc with rfl | ⟨ac, p, rfl⟩
  · refine ⟨⟨fun x hx => ?_, ?_⟩, fun n => ?_, fun a ha => ?_⟩
    · have : x = s := by simpa [joinF] using hx
      rw [this]; exact hs
    · simp [joinF]
    · rw [hasL_append, ← hm n]; simp [joinF, hasL]
    · left
      have : a = s := by simpa [joinF] using ha
      rw [this]
  · simp only [List.concat_eq_append] at *
    have hg : (ac ++ [p]).getLast? = some p := by simp
    unfold joinF
    rw [hg]
    dsimp only
    by_cases ht : touchB p.2 s.1 = true
    · rw [if_pos ht, List.dropLast_concat]
      refine ⟨canon_last (s := s) hc, fun n => ?_, fun a ha => ?_⟩
      · have h1 := hm n
        rw [hasL_append, hasL_one] at h1
        rw [hasL_append, hasL_one, hasL_append, hasL_one, join_has p s n (hc.ne p (by simp)) hs (hl p (by simp)) ht, ← h1, Bool.or_assoc]
      · right
        rcases List.mem_append.mp ha with ha | ha
        · exact ⟨a, by simp [ha], rfl⟩
        · rw [List.mem_singleton.mp ha]; exact ⟨p, by simp, rfl⟩
    · rw [if_neg ht]
      have ht' : touchB p.2 s.1 = false := by simpa using ht
      refine ⟨canon_snoc hc hs (notouch ht'), fun n => ?_, fun a ha => ?_⟩
      · rw [hasL_append (ac ++ [p]) [s], hasL_append pre [s], hm n]
      · rcases List.mem_append.mp ha with ha | ha
        · right; exact ⟨a, ha, rfl⟩
        · left; rw [List.mem_singleton.mp ha]
theorem lowLe_trans {a b c : Option Int} (h1 : lowLe a b) (h2 : lowLe b c) : lowLe a c := by
  cases a <;> cases b <;> cases c <;> simp_all [lowLe]
  omega
/-- the invariant of the loop -/
structure Joins (acc pre rest : List Stc) : Prop where
  canon : Canon acc
  has : ∀ n, hasL acc n = hasL pre n
  low : ∀ a, a ∈ acc → ∀ s, s ∈ rest → lowLe a.1 s.1
theorem joins_step {acc pre rest : List Stc} {s : Stc} (h : Joins acc pre (s :: rest)) (hs : NE s) (hw : (s :: rest).Pairwise fun a b => lowLe a.1 b.1) : Joins (joinF acc s) (pre ++ [s]) rest := by
  obtain ⟨c, m, l⟩ := join_step h.canon h.has (fun a ha => h.low a ha s (by simp)) hs
  refine ⟨c, m, fun a ha t ht => ?_⟩
  have hst : lowLe s.1 t.1 := (List.pairwise_cons.mp hw).1 t ht
  rcases l a ha with e | ⟨b, hb, e⟩
  · rw [e]; exact hst
  · rw [e]; exact h.low b hb t (by simp [ht])

/-! ### one set, one list of parts -/
theorem canon_tail {s : Stc} {ps : List Stc} (h : Canon (s :: ps)) : Canon ps := ⟨fun x hx => h.ne x (by simp [hx]), (List.pairwise_cons.mp h.ap).2⟩
/-- nothing of the later parts lies at or ahead of the number behind the first one's end -/
theorem later_no {s : Stc} {ps : List Stc} (h : Canon (s :: ps)) {n e : Int} (he : s.2 = some e) (hn : n ≤ e + 1) : hasL ps n = false := by
  unfold hasL
  rw [List.any_eq_false]
  intro t ht
  obtain ⟨h', l, e1, e2, q⟩ := (List.pairwise_cons.mp h.ap).1 t ht
  rw [he] at e1
  cases e1
  simp only [has1, e2, Bool.and_eq_true, decide_eq_true_eq, not_and]
  intro h1
  omega
theorem no_later {s : Stc} {ps : List Stc} (h : Canon (s :: ps)) (he : s.2 = none) : ps = [] := by
  cases ps with
  | nil => rfl
  | cons t ps =>
    obtain ⟨h', l, e1, _⟩ := (List.pairwise_cons.mp h.ap).1 t (by simp)
    rw [he] at e1
    cases e1
/-- ahead of the first part's low end there is nothing -/
theorem ahead_no {s : Stc} {ps : List Stc} (h : Canon (s :: ps)) {n l : Int} (hl : s.1 = some l) (hn : n < l) : hasL (s :: ps) n = false := by
  rw [hasL_cons]
  have h1 : has1 s n = false := by
    simp only [has1, hl, Bool.and_eq_false_iff, decide_eq_false_iff_not]
    left
    omega
  rw [h1, Bool.false_or]
  cases e : s.2 with
  | none => rw [no_later h e]; rfl
  | some x =>
    have := h.ne s (by simp) l x hl e
    exact later_no h e (by omega)
theorem has_low {s : Stc} (h : NE s) {l : Int} (hl : s.1 = some l) : has1 s l = true := by
  cases e : s.2 with
  | none => simp [has1, hl, e]
  | some x =>
    have := h l x hl e
    simp [has1, hl, e, this]
theorem has_some {s : Stc} (h : NE s) (m : Int) : ∃ n, n ≤ m ∧ (s.1 = none → has1 s n = true) := by
  cases e : s.2 with
  | none => exact ⟨m, Int.le_refl _, fun h1 => by simp [has1, h1, e]⟩
  | some x =>
    by_cases q : m ≤ x
    · exact ⟨m, Int.le_refl _, fun h1 => by simp [has1, h1, e, q]⟩
    · exact ⟨x, by omega, fun h1 => by simp [has1, h1, e]⟩
theorem ne_has {s : Stc} (h : NE s) : ∃ n, has1 s n = true := by
  cases e : s.1 with
  | none =>
    obtain ⟨n, _, q⟩ := has_some h 0
    exact ⟨n, q e⟩
  | some l => exact ⟨l, has_low h e⟩
theorem low_same {s t : Stc} {ps qs : List Stc} (h : Canon (s :: ps)) (h' : Canon (t :: qs)) (e : ∀ n, hasL (s :: ps) n = hasL (t :: qs) n) : lowLe t.1 s.1 := by
  cases hs : s.1 with
  | none =>
    cases ht : t.1 with
    | none => trivial
    | some l =>
      obtain ⟨n, hn, q⟩ := has_some (h.ne s (by simp)) (l - 1)
      have h1 := e n
      rw [ahead_no h' ht (by omega), hasL_cons, q hs] at h1
      simp at h1
  | some a =>
    cases ht : t.1 with
    | none => trivial
    | some b =>
      by_cases q : b ≤ a
      · exact q
      · have h1 := e a
        rw [ahead_no h' ht (by omega), hasL_cons, has_low (h.ne s (by simp)) hs] at h1
        simp at h1
theorem lowLe_antisymm {a b : Option Int} (h1 : lowLe a b) (h2 : lowLe b a) : a = b := by
  cases a <;> cases b <;> simp_all [lowLe]
  omega
/-- behind the end of the first one there is a number that is not in it -/
theorem high_same {s t : Stc} {ps qs : List Stc} (h : Canon (s :: ps)) (h' : Canon (t :: qs)) (e : ∀ n, hasL (s :: ps) n = hasL (t :: qs) n) (hl : s.1 = t.1) {x : Int} (hx : s.2 = some x) : ∃ y, t.2 = some y ∧ y ≤ x := by
  have h1 := e (x + 1)
  have n1 : has1 s (x + 1) = false := by
    simp only [has1, hx, Bool.and_eq_false_iff, decide_eq_false_iff_not]
    right
    omega
  rw [hasL_cons, n1, later_no h hx (Int.le_refl _), hasL_cons] at h1
  have h2 : has1 t (x + 1) = false := by
    cases q : has1 t (x + 1) with
    | false => rfl
    | true => rw [q] at h1; simp at h1
  have low : ∀ l, t.1 = some l → l ≤ x + 1 := fun l hl' => by
    rw [← hl] at hl'
    have := h.ne s (by simp) l x hl' hx
    omega
  cases ht : t.2 with
  | none =>
    exfalso
    cases hl' : t.1 with
    | none => simp [has1, hl', ht] at h2
    | some l =>
      have := low l hl'
      simp [has1, hl', ht, this] at h2
  | some y =>
    refine ⟨y, rfl, ?_⟩
    by_cases q : y ≤ x
    · exact q
    · exfalso
      have q' : x + 1 ≤ y := by omega
      cases hl' : t.1 with
      | none => simp [has1, hl', ht, q'] at h2
      | some l =>
        have := low l hl'
        simp [has1, hl', ht, this, q'] at h2
theorem canon_unique : ∀ {ps qs : List Stc}, Canon ps → Canon qs → (∀ n, hasL ps n = hasL qs n) → ps = qs
  | [], [], _, _, _ => rfl
  | [], t :: qs, _, h', e => by
    obtain ⟨n, q⟩ := ne_has (h'.ne t (by simp))
    have := e n
    rw [hasL_cons, q] at this
    simp [hasL_nil] at this
  | s :: ps, [], h, _, e => by
    obtain ⟨n, q⟩ := ne_has (h.ne s (by simp))
    have := e n
    rw [hasL_cons, q] at this
    simp [hasL_nil] at this
  | s :: ps, t :: qs, h, h', e => by
    have hl : s.1 = t.1 := lowLe_antisymm (low_same h' h fun n => (e n).symm) (low_same h h' e)
    have hh : s.2 = t.2 := by
      cases hs : s.2 with
      | none =>
        cases ht : t.2 with
        | none => rfl
        | some y =>
          obtain ⟨z, q, _⟩ := high_same h' h (fun n => (e n).symm) hl.symm ht
          rw [hs] at q; cases q
      | some x =>
        obtain ⟨y, hy, q⟩ := high_same h h' e hl hs
        obtain ⟨z, hz, q'⟩ := high_same h' h (fun n => (e n).symm) hl.symm hy
        rw [hs] at hz
        cases hz
        rw [hy]
        congr 1
        omega
    have est : s = t := Prod.ext hl hh
    subst est
    refine congrArg _ (canon_unique (canon_tail h) (canon_tail h') fun n => ?_)
    cases hs : s.2 with
    | none => rw [no_later h hs, no_later h' hs]
    | some x =>
      by_cases q : n ≤ x + 1
      · rw [later_no h hs q, later_no h' hs q]
      · have n1 : has1 s n = false := by
          simp only [has1, hs, Bool.and_eq_false_iff, decide_eq_false_iff_not]
          right
          omega
        have := e n
        rwa [hasL_cons, hasL_cons, n1, Bool.false_or, Bool.false_or] at this

/-! ### the halving search -/
theorem search_low {ps : List Stc} (h : Canon ps) {m : Nat} {s : Stc} (hm : ps[m]? = some s) {l n : Int} (hl : s.1 = some l) (hn : n < l) {j : Nat} {t : Stc} (hj : m ≤ j) (ht : ps[j]? = some t) : has1 t n = false := by
  have hs := h.ne s (List.mem_of_getElem? hm)
  by_cases e : m = j
  · subst e
    rw [hm] at ht
    cases ht
    simp only [has1, hl, Bool.and_eq_false_iff, decide_eq_false_iff_not]
    left
    omega
  · obtain ⟨h1, h2, h3⟩ := List.getElem?_eq_some_iff.mp hm |>.elim fun a b => (⟨a, b, trivial⟩ : ∃ (a : m < ps.length) (_ : ps[m] = s), True)
    obtain ⟨g1, g2⟩ := List.getElem?_eq_some_iff.mp ht
    have := List.pairwise_iff_getElem.mp h.ap m j h1 g1 (by omega)
    rw [h2, g2] at this
    obtain ⟨x, y, e1, e2, q⟩ := this
    have := hs l x hl e1
    simp only [has1, e2, Bool.and_eq_false_iff, decide_eq_false_iff_not]
    left
    omega
theorem search_high {ps : List Stc} (h : Canon ps) {m : Nat} {s : Stc} (hm : ps[m]? = some s) {l n : Int} (hl : s.2 = some l) (hn : l < n) {j : Nat} {t : Stc} (hj : j ≤ m) (ht : ps[j]? = some t) : has1 t n = false := by
  have hs := h.ne s (List.mem_of_getElem? hm)
  by_cases e : j = m
  · subst e
    rw [hm] at ht
    cases ht
    simp only [has1, hl, Bool.and_eq_false_iff, decide_eq_false_iff_not]
    right
    omega
  · obtain ⟨h1, h2⟩ := List.getElem?_eq_some_iff.mp hm
    obtain ⟨g1, g2⟩ := List.getElem?_eq_some_iff.mp ht
    have := List.pairwise_iff_getElem.mp h.ap j m g1 h1 (by omega)
    rw [h2, g2] at this
    obtain ⟨x, y, e1, e2, q⟩ := this
    have := hs y l e2 hl
    simp only [has1, e1, Bool.and_eq_false_iff, decide_eq_false_iff_not]
    right
    omega

/-! ### the points at which two sets are looked at -/
def endsOf (s : Stc) : List Int := (match s.1 with | none => [] | some l => [l - 1, l, l + 1]) ++ (match s.2 with | none => [] | some h => [h - 1, h, h + 1])
def points (ss : List Stc) : List Int := [0, 1, -1, 10000000000000, -10000000000000] ++ ss.flatMap endsOf
/-- the cuts: the first numbers behind which something changes -/
def cutsOf (s : Stc) : List Int := (match s.1 with | none => [] | some l => [l]) ++ (match s.2 with | none => [] | some h => [h + 1])
def cuts (ss : List Stc) : List Int := ss.flatMap cutsOf
theorem cut_point {ss : List Stc} {c : Int} (h : c ∈ cuts ss) : c ∈ points ss ∧ c - 1 ∈ points ss := by
  obtain ⟨s, hs, hc⟩ := List.mem_flatMap.mp h
  have key : c ∈ endsOf s ∧ c - 1 ∈ endsOf s := by
    obtain ⟨l, r⟩ := s
    cases l <;> cases r <;> simp_all [cutsOf, endsOf] <;> omega
  exact ⟨List.mem_append_right _ (List.mem_flatMap.mpr ⟨s, hs, key.1⟩), List.mem_append_right _ (List.mem_flatMap.mpr ⟨s, hs, key.2⟩)⟩
theorem has_by_cuts {s : Stc} {n m : Int} (h : ∀ c, c ∈ cutsOf s → (c ≤ n ↔ c ≤ m)) : has1 s n = has1 s m := by
  obtain ⟨l, r⟩ := s
  rw [Bool.eq_iff_iff]
  cases l <;> cases r <;> simp_all [cutsOf, has1] <;> omega
theorem hasL_by_cuts {ss : List Stc} {n m : Int} (h : ∀ c, c ∈ cuts ss → (c ≤ n ↔ c ≤ m)) : hasL ss n = hasL ss m := by
  induction ss with
  | nil => rfl
  | cons s ss ih =>
    rw [hasL_cons, hasL_cons, has_by_cuts (s := s) fun c hc => h c (List.mem_flatMap.mpr ⟨s, by simp, hc⟩), ih fun c hc => h c ?_]
    obtain ⟨t, ht, hc⟩ := List.mem_flatMap.mp hc
    exact List.mem_flatMap.mpr ⟨t, by simp [ht], hc⟩
theorem greatest {l : List Int} {n : Int} (h : ∃ c, c ∈ l ∧ c ≤ n) : ∃ c, c ∈ l ∧ c ≤ n ∧ ∀ d, d ∈ l → d ≤ n → d ≤ c := by
  induction l with
  | nil => obtain ⟨c, hc, _⟩ := h; simp at hc
  | cons a l ih =>
    by_cases q : ∃ c, c ∈ l ∧ c ≤ n
    · obtain ⟨c, hc, hn, m⟩ := ih q
      by_cases qa : a ≤ n ∧ c ≤ a
      · refine ⟨a, by simp, qa.1, fun d hd hdn => ?_⟩
        rcases List.mem_cons.mp hd with rfl | hd
        · exact Int.le_refl _
        · have := m d hd hdn; omega
      · refine ⟨c, by simp [hc], hn, fun d hd hdn => ?_⟩
        rcases List.mem_cons.mp hd with rfl | hd
        · omega
        · exact m d hd hdn
    · obtain ⟨c, hc, hn⟩ := h
      rcases List.mem_cons.mp hc with rfl | hc
      · refine ⟨c, by simp, hn, fun d hd hdn => ?_⟩
        rcases List.mem_cons.mp hd with rfl | hd
        · exact Int.le_refl _
        · exact absurd ⟨d, hd, hdn⟩ q
      · exact absurd ⟨c, hc, hn⟩ q
theorem least {l : List Int} (h : l ≠ []) : ∃ c, c ∈ l ∧ ∀ d, d ∈ l → c ≤ d := by
  induction l with
  | nil => exact absurd rfl h
  | cons a l ih =>
    by_cases q : l = []
    · subst q
      exact ⟨a, by simp, fun d hd => by rw [List.mem_singleton.mp hd]; exact Int.le_refl _⟩
    · obtain ⟨c, hc, m⟩ := ih q
      by_cases qa : a ≤ c
      · refine ⟨a, by simp, fun d hd => ?_⟩
        rcases List.mem_cons.mp hd with rfl | hd
        · exact Int.le_refl _
        · have := m d hd; omega
      · refine ⟨c, by simp [hc], fun d hd => ?_⟩
        rcases List.mem_cons.mp hd with rfl | hd
        · omega
        · exact m d hd
/-- each number has a point that no stretch tells from it -/
theorem point_of (ss : List Stc) (n : Int) : ∃ m, m ∈ points ss ∧ ∀ c, c ∈ cuts ss → (c ≤ n ↔ c ≤ m) := by
  by_cases q : ∃ c, c ∈ cuts ss ∧ c ≤ n
  · obtain ⟨c, hc, hn, m⟩ := greatest q
    refine ⟨c, (cut_point hc).1, fun d hd => ⟨fun h => m d hd h, fun h => by omega⟩⟩
  · by_cases q0 : cuts ss = []
    · refine ⟨0, by simp [points], fun c hc => ?_⟩
      rw [q0] at hc
      simp at hc
    · obtain ⟨c, hc, m⟩ := least q0
      refine ⟨c - 1, (cut_point hc).2, fun d hd => ⟨fun h => absurd ⟨d, hd, h⟩ q, fun h => ?_⟩⟩
      have := m d hd
      omega
theorem cuts_append (a b : List Stc) : cuts (a ++ b) = cuts a ++ cuts b := by simp [cuts, List.flatMap_append]
/-- sets that agree at the points of both are the same -/
theorem agree_all {a b : List Stc} (h : ∀ m, m ∈ points (a ++ b) → hasL a m = hasL b m) (n : Int) : hasL a n = hasL b n := by
  obtain ⟨m, hm, hc⟩ := point_of (a ++ b) n
  rw [cuts_append] at hc
  rw [hasL_by_cuts (ss := a) fun c q => hc c (List.mem_append_left _ q), hasL_by_cuts (ss := b) fun c q => hc c (List.mem_append_right _ q)]
  exact h m hm
end Spk

set_option Elab.async false
set_option linter.all false
set_option maxRecDepth 100000
set_option maxHeartbeats 1000000
namespace Spk
open PySem L2

/-! ## readings by steps: one lemma a construct -/
section
variable {σ : L2.St} {H : Hp} {D : Ends} {ta tb te : TE} {Q : VK} {t u : TS} {tt uu : TT} {v x y : V} {i : Nat} {K : PySem.W.Frag}
theorem i_seq (h : t { D with nx := u D } σ H) : tSeq t u D σ H := h
theorem i_next (h : D.nx σ H) : tNext D σ H := h
theorem i_asg {g : TG} (h : te σ H fun x H1 => g x σ H1 D.nx) : tAsg te g D σ H := h
theorem i_name {P : L2.St → Hp → Prop} (h : P (σ.set i (some v)) H) : gName i v σ H P := h
theorem i_ret (h : te σ H D.rt) : tRet te D σ H := h
theorem i_drop (h : te σ H fun _ H1 => D.nx σ H1) : tDrop te D σ H := h
theorem i_ifS (h : tt σ H fun b H1 => if b = true then t D σ H1 else u D σ H1) : tIfS tt t u D σ H := h
theorem i_if (h : tt σ H fun c H1 => if c = true then ta σ H1 Q else tb σ H1 Q) : tIf tt ta tb σ H Q := h
theorem i_var (h : σ[i]? = some (some v)) (q : Q v H) : tVar i σ H Q := ⟨v, h, q⟩
theorem i_c (q : Q v H) : tC v σ H Q := q
theorem i_op {r : R2} (h : ta σ H fun x H1 => tb σ H1 fun y H2 => r x y H2 Q) : tOp r ta tb σ H Q := h
theorem i_un {r : V → Hp → VK → Prop} (h : ta σ H fun x H1 => r x H1 Q) : tUn r ta σ H Q := h
theorem i_rI0 {g : Int → Int → V} {a b : Int} (q : Q (g a b) H) : rI0 g (.int a) (.int b) H Q := ⟨a, b, rfl, rfl, q⟩
theorem i_rI {C : Int → Int → Prop} {g : Int → Int → V} {a b : Int} (hc : C a b) (q : Q (g a b) H) : rI C g (.int a) (.int b) H Q := ⟨a, b, rfl, rfl, hc, q⟩
theorem i_rU {g : Int → V} {a : Int} (q : Q (g a) H) : rU g (.int a) H Q := ⟨a, rfl, q⟩
theorem i_rEq (hs : scal x y = true) (q : Q (.bl (decide (x = y))) H) : rEq x y H Q := ⟨hs, q⟩
theorem i_rNe (hs : scal x y = true) (q : Q (.bl (!decide (x = y))) H) : rNe x y H Q := ⟨hs, q⟩
theorem i_test {P : Bool → Hp → Prop} (h : ta σ H fun x H' => ∃ k, x = .bl k ∧ P k H') : tTest ta σ H P := h
theorem i_tB {P : Bool → Hp → Prop} (h : ta σ H fun x H' => ∃ k, x = .bl k ∧ P k H') : tB ta σ H P := h
theorem i_and {P : Bool → Hp → Prop} (h : tt σ H fun c H1 => if c = true then uu σ H1 P else P false H1) : tAnd tt uu σ H P := h
theorem i_or {P : Bool → Hp → Prop} (h : tt σ H fun c H1 => if c = true then P true H1 else uu σ H1 P) : tOr tt uu σ H P := h
theorem i_not {P : Bool → Hp → Prop} (h : tt σ H fun c H1 => P (!c) H1) : tNot tt σ H P := h
theorem i_andV (h : ta σ H fun x H1 => ∃ c, x = .bl c ∧ if c = true then tb σ H1 Q else Q (.bl false) H1) : tAndV ta tb σ H Q := h
theorem i_orV (h : ta σ H fun x H1 => ∃ c, x = .bl c ∧ if c = true then Q (.bl true) H1 else tb σ H1 Q) : tOrV ta tb σ H Q := h
theorem i_notV (h : ta σ H fun x H1 => ∃ c, x = .bl c ∧ Q (.bl (!c)) H1) : tNotV ta σ H Q := h
theorem i_nil {P : List V → Hp → Prop} (h : P [] H) : tNil σ H P := h
theorem i_cons {tr : TA} {P : List V → Hp → Prop} (h : ta σ H fun x H1 => tr σ H1 fun xs H2 => P (x :: xs) H2) : tCons ta tr σ H P := h
theorem i_cb {r : List V → Hp → VK → Prop} {ts : TA} (h : ts σ H fun vs H1 => r vs H1 Q) : tCB r ts σ H Q := h
theorem i_call {sp : Sp} {E : XK} {ts : TA} (h : ts σ H fun vs H1 => sp (vs ++ []) H1 Q E) : tCall sp [] E ts σ H Q := h
theorem i_bl {c : Bool} {P : Bool → Prop} (h : P c) : ∃ k, V.bl c = .bl k ∧ P k := ⟨c, rfl, h⟩
/-- a new object: the heap behind it is only known by what stood and what is new -/
theorem i_new {o : HO} (h : ∀ p H1, Same H H1 → H p = none → H1 p = some o → Q (.ref p) H1) : ∀ p, H p = none → Q (.ref p) (upd H p o) := fun p hp =>
  h p _ (fun b u e => by rw [upd_ne (ne_of_none e hp)]; exact e) hp upd_same
theorem i_tup {ts : TA} (h : ts σ H fun xs H1 => xs.length ≤ sizeLine ∧ ∀ p, H1 p = none → Q (.ref p) (upd H1 p (.tup xs))) : tTup ts σ H Q := h
theorem i_lst {ts : TA} (h : ts σ H fun xs H1 => xs.length ≤ sizeLine ∧ ∀ p, H1 p = none → Q (.ref p) (upd H1 p (.lst xs))) : tLst ts σ H Q := h
theorem i_sz {xs : List V} {o : HO} (hn : xs.length ≤ 1000) (h : ∀ p H1, Same H H1 → H p = none → H1 p = some o → Q (.ref p) H1) : xs.length ≤ sizeLine ∧ ∀ p, H p = none → Q (.ref p) (upd H p o) :=
  ⟨Nat.le_trans hn (by decide), i_new h⟩
theorem new_heap {o : HO} {p : Addr} (hp : H p = none) : ∃ H1, upd H p o = H1 ∧ Same H H1 ∧ H1 p = some o := ⟨_, rfl, fun b u e => by rw [upd_ne (ne_of_none e hp)]; exact e, upd_same⟩
theorem size_of {n : Nat} (h : n ≤ 100000) : n ≤ sizeLine := Nat.le_trans h (by decide)
theorem size_lt {n : Nat} (h : n ≤ 100000) : n < sizeLine := Nat.lt_of_le_of_lt h (by decide)
theorem i_ixT {p : Addr} {xs : List V} {a : Int} (h : H p = some (.tup xs)) (hv : atI xs a = some v) (q : Q v H) : rIxT K (.ref p) (.int a) H Q := ⟨p, xs, a, v, rfl, rfl, SqT.of h, hv, q⟩
theorem i_ixL {p : Addr} {xs : List V} {a : Int} (h : H p = some (.lst xs)) (hv : atI xs a = some v) (q : Q v H) : rIxL K (.ref p) (.int a) H Q := ⟨p, xs, a, v, rfl, rfl, SqL.of h, hv, q⟩
/-- a for's body and what follows, from the walk on -/
def forK (g : TG) (tb : TS) (D : Ends) (σ : L2.St) : It → Hp → Prop := fun J H1 => ∃ W : Nat → Nat → L2.St → Hp → Prop, (∃ m, W 0 m σ H1) ∧
  ∀ i m σ H, W i m σ H → (J.stop i H ∧ D.nx σ H) ∨ (J.go i H ∧ ∃ N : L2.St → Hp → Prop, (∀ σ' H', N σ' H' → ∃ m', m' < m ∧ W (i + 1) m' σ' H') ∧
    ∀ x H', J.yld i H x H' → g x σ H' fun σ2 H2 => tb { D with nx := N, ct := N, bk := D.nx } σ2 H2)
theorem i_for {wi : TI} {g : TG} (h : wi σ H (forK g t D σ)) : tFor wi g t D σ H := h
theorem i_iL {R : It → Hp → Prop} (h : te σ H fun x H1 => ∃ a, x = .ref a ∧ (∃ xs, SqL K H1 a xs) ∧ R (Itl K a) H1) : iList K te σ H R := h
theorem i_iT {R : It → Hp → Prop} (h : te σ H fun x H1 => ∃ a, x = .ref a ∧ (∃ xs, SqT K H1 a xs) ∧ R (Itt K a) H1) : iTup K te σ H R := h
theorem i_yes {P : Bool → Hp → Prop} (h : P true H) : tYes σ H P := h
theorem i_gsub {to ti : TE} {ts : TSet} {P : L2.St → Hp → Prop} (h : to σ H fun o H1 => ti σ H1 fun i H2 => ts o i v H2 fun H3 => P σ H3) : gSub to ti ts v σ H P := h
theorem pow_ok {a b : Nat} (ha : a ≤ 1000000) (hb : b ≤ 1000000) : CPow (b : Int) (a : Int) := ⟨by omega, by omega, by omega⟩
theorem cmulL {i j : Int} (h : decide (-(2 ^ 64) < i ∧ i < 2 ^ 64) = true) : CMul i j := .inl (of_decide_eq_true h)
theorem i_setL {p : Addr} {xs : List V} {k : Int} {j : Nat} {P : Hp → Prop} (h : H p = some (.lst xs)) (hj : ixN xs.length k = some j) (q : P (upd H p (.lst (xs.set j v)))) : rSetL (.ref p) (.int k) v H P := ⟨p, xs, k, j, rfl, rfl, h, hj, q⟩
theorem i_rng1 {ts : TA} {R : It → Hp → Prop} (h : ts σ H fun vs H1 => ∃ j : Int, vs = [.int j] ∧ -(2 ^ 62) ≤ j ∧ j < 2 ^ 62 ∧ R (Itr 0 j.toNat) H1) : iRng1 ts σ H R := h
theorem i_cut0 (h : t { D with nx := fun σ' H' => σ' = σ ∧ H' = H } σ H) (k : u D σ H) : C8.tCut t u D σ H := ⟨_, h, fun σ' H' e => by rw [e.1, e.2]; exact k⟩
theorem i_cm {C : Addr} {sp : Sp} {E : XK} {ts : TA} (h : te σ H fun x H1 => x = .ref C ∧ ts σ H1 fun vs H2 => sp (.ref C :: vs) H2 Q E) : ClX.tCMeth C sp E te ts σ H Q := h
theorem i_ckw {r : List V → List V → Hp → VK → Prop} {ts tk : TA} (h : ts σ H fun vs H1 => tk σ H1 fun zs H2 => r vs zs H2 Q) : tCKw r ts tk σ H Q := h
theorem i_bm {T : String} {r : V → List V → Hp → VK → Prop} {ts : TA} (h : te σ H fun x H1 => tyV K T x H1 ∧ ts σ H1 fun xs H2 => r x xs H2 Q) : tBM K T r te ts σ H Q := h
theorem i_bm0 {T : String} {r : V → List V → Hp → VK → Prop} (h : te σ H fun x H1 => tyV K T x H1 ∧ r x [] H1 Q) : tBM0 K T r te σ H Q := h
theorem i_tyL {p : Addr} {xs : List V} {A : Prop} (h : H p = some (.lst xs)) (q : A) : tyV K "list" (.ref p) H ∧ A := ⟨.inl ⟨rfl, _, SqL.of h⟩, q⟩
theorem i_app {p : Addr} {xs : List V} (h : H p = some (.lst xs)) (hz : xs.length ≤ 100000) (q : Q .non (upd H p (.lst (xs ++ [v])))) : rAppend (.ref p) [v] H Q := ⟨p, xs, v, rfl, rfl, h, size_lt hz, q⟩
theorem i_pop {p : Addr} {xs : List V} (h : H p = some (.lst (xs ++ [v]))) (q : Q v (upd H p (.lst xs))) : rPop (.ref p) [] H Q := ⟨p, _, v, rfl, rfl, h, by simp, by rw [List.dropLast_concat]; exact q⟩
theorem i_truL {p : Addr} {xs : List V} {P : Bool → Hp → Prop} (h : H p = some (.lst xs)) (q : P (!xs.isEmpty) H) : ∃ k, TruV K (.ref p) H k ∧ P k H := ⟨_, .inl ⟨xs, SqL.of h, rfl⟩, q⟩
theorem i_gtup {p : Addr} {xs : List V} {n : Nat} {g : TGs} {P : L2.St → Hp → Prop} (h : H p = some (.tup xs)) (hn : xs.length = n) (q : g xs σ H P) : gTup K n g (.ref p) σ H P := ⟨p, xs, rfl, SqT.of h, hn, q⟩
theorem i_gcons {g : TG} {gs : TGs} {vs : List V} {P : L2.St → Hp → Prop} (q : g v σ H fun σ' H' => gs vs σ' H' P) : gCons g gs (v :: vs) σ H P := ⟨v, vs, rfl, q⟩
theorem i_gnil {P : L2.St → Hp → Prop} (q : P σ H) : gNil [] σ H P := ⟨rfl, q⟩
theorem i_par {ts : TA} {a b : Nat} (h : ts σ H fun vs H1 => ∃ v w, vs = [v, w] ∧ D.nx ((σ.set a (some v)).set b (some w)) H1) : tPar a b ts D σ H := h
theorem ite_d {c A B : Prop} [Decidable c] (h1 : c → A) (h2 : ¬ c → B) : if decide c = true then A else B := by
  by_cases h : c
  · rw [decide_eq_true h, if_pos rfl]; exact h1 h
  · rw [decide_eq_false h, if_neg (by decide)]; exact h2 h
theorem ite_nd {c A B : Prop} [Decidable c] (h1 : ¬ c → A) (h2 : c → B) : if (!decide c) = true then A else B := by
  by_cases h : c
  · rw [decide_eq_true h, if_neg (by decide)]; exact h2 h
  · rw [decide_eq_false h, if_pos (by decide)]; exact h1 h
end
theorem sm_up {H H' : Hp} {a : Addr} {o : HO} (s : Same H H') (h : H a = some o) : H' a = some o := s a o h

/-! ## the data: stretches, parts, sets -/
abbrev ov : Option Int → V := fun o => match o with
  | none => .non
  | some i => .int i
def kx (s : Stc) : Int := match s.1 with | none => 0 | some _ => 1
def ky (s : Stc) : Int := match s.1 with | none => 0 | some i => i
def key (s : Stc) : List V := [.int (kx s), .int (ky s)]
def keyD (s : Stc) : PyData := .tuple [.int (kx s), .int (ky s)]
/-- v is a tuple (low, high) -/
def TupS (H : Hp) (v : V) (s : Stc) : Prop := ∃ a, v = .ref a ∧ H a = some (.tup [ov s.1, ov s.2])
/-- the values are stretches, one by one -/
def Tups (H : Hp) : List V → List Stc → Prop := Paired (TupS H)
theorem TupS.up {H H' : Hp} {v : V} {s : Stc} (e : Same H H') (h : TupS H v s) : TupS H' v s := by
  obtain ⟨a, rfl, h⟩ := h
  exact ⟨a, rfl, e _ _ h⟩
theorem Tups.up {H H' : Hp} {vs : List V} {ss : List Stc} (e : Same H H') (h : Tups H vs ss) : Tups H' vs ss := Paired.mapP h fun _ _ z => z.up e

theorem tups_zip {H : Hp} {xs : List V} {ss : List Stc} (h : Tups H xs ss) : ∀ b, b ∈ xs.zip ss → TupS H b.1 b.2 := by
  induction h with
  | nil => intro b hb; simp at hb
  | cons r t ih =>
    intro b hb
    rw [List.zip_cons_cons] at hb
    rcases List.mem_cons.mp hb with rfl | hb
    · exact r
    · exact ih b hb
theorem tups_of {H : Hp} : ∀ {bs : List (V × Stc)}, (∀ b, b ∈ bs → TupS H b.1 b.2) → Tups H (bs.map (·.1)) (bs.map (·.2))
  | [], _ => .nil
  | b :: bs, h => .cons (h b (by simp)) (tups_of fun c hc => h c (by simp [hc]))
theorem kxy_le {a b : Stc} (h : kx a < kx b ∨ (kx a = kx b ∧ ky a ≤ ky b)) : lowLe a.1 b.1 := by
  obtain ⟨l, r⟩ := a
  obtain ⟨l', r'⟩ := b
  cases l <;> cases l' <;> simp_all [kx, ky, lowLe]
/-- what sorted by start_of gives: the same stretches, by their low ends -/
theorem sorted_low {H : Hp} {xs : List V} {ss : List Stc} (h : Tups H xs ss) : ∃ ss', Tups H (byKeys xs (ss.map keyD)) ss' ∧ ss'.Perm ss ∧ ss'.Pairwise fun a b => lowLe a.1 b.1 := by
  have hlen : xs.length = ss.length := Paired.length h
  have e1 : xs.zip (ss.map keyD) = (xs.zip ss).map fun b => (b.1, keyD b.2) := by rw [List.zip_map_right]; rfl
  have hle : PySem.W.dataLe false (fun b : V × Stc => keyD b.2) = fun p q => decide (kx p.2 < kx q.2 ∨ (kx p.2 = kx q.2 ∧ ky p.2 ≤ ky q.2)) := PySem.W.dataLe_ii (fun b : V × Stc => kx b.2) fun b => ky b.2
  have e2 : byKeys xs (ss.map keyD) = ((xs.zip ss).mergeSort (PySem.W.dataLe false fun b : V × Stc => keyD b.2)).map (·.1) := by
    unfold byKeys
    rw [e1, ← List.map_mergeSort (f := fun b : V × Stc => (b.1, keyD b.2)) (r := PySem.W.dataLe false fun b : V × Stc => keyD b.2) (s := PySem.W.dataLe false fun b : V × PyData => b.2) (fun _ _ _ _ => rfl), List.map_map]
    rfl
  rw [e2, hle]
  have pm := List.mergeSort_perm (xs.zip ss) fun p q => decide (kx p.2 < kx q.2 ∨ (kx p.2 = kx q.2 ∧ ky p.2 ≤ ky q.2))
  have pw := List.pairwise_mergeSort (le := fun p q : V × Stc => decide (kx p.2 < kx q.2 ∨ (kx p.2 = kx q.2 ∧ ky p.2 ≤ ky q.2)))
    (fun a b c h1 h2 => by simp only [decide_eq_true_eq] at *; omega) (fun a b => by simp only [Bool.or_eq_true, decide_eq_true_eq]; omega) (xs.zip ss)
  refine ⟨_, tups_of fun b hb => tups_zip h b (pm.mem_iff.mp hb), ?_, ?_⟩
  · have := pm.map (·.2)
    rwa [List.map_snd_zip (by omega)] at this
  · refine List.pairwise_map.mpr (pw.imp fun {a b} hab => kxy_le (by simpa using hab))
theorem keys_alike (ss : List Stc) : PySem.W.AllAlike (ss.map keyD) := PySem.W.AllAlike.of fun _ _ => by simp [keyD, PySem.W.alike, PySem.W.alikeAll]
theorem keys_sort (ss : List Stc) : PySem.W.Sortable (ss.map keyD) := PySem.W.Sortable.tuples fun _ => ⟨_, _, rfl⟩
theorem keys_deep (ss : List Stc) : ∀ d, d ∈ ss.map keyD → d.depth ≤ 100 := fun d hd => by
  obtain ⟨s, _, rfl⟩ := List.mem_map.mp hd
  simp [keyD, PyData.depth, PyData.depthAll]

/-! ## cls(..) of a local name, C.m() without arguments -/
section
open PySem.Spec PyProof.Rows ClX StX
variable {X : Cx} {CX : CXT} {k i : Nat} {f C p g : Addr} {mc : Value} {sp : Sp} {E : XK} {x m : Str} {q pos apos : Pos} {e o : Expr} {es : List Expr} {ta : TE} {t : TA}
def tMakeL (i : Nat) (C : Addr) (sp : Sp) (E : XK) (t : TA) : TE := fun σ H Q => σ[i]? = some (some (.ref C)) ∧ tMakeR C sp E t σ H Q
theorem pe_makeL (M : Mk X.K C f) (F : FnR X.prog X.w X.K X.mg X.base CX k f sp) (hr : Room (k + 1) X.A) (hN : X.N[i]? = some x) (hv : Vis X.env.scope x) (hx : Passes CX X E) (ha : PA X (e :: es) t)
    (hdb : (x == ("__debug__" : Str)) = false := by decide) (hcd : (x == ("__classdict__" : Str)) = false := by decide)
    (he : starEach (e :: es) X.env = (false, eval e X.env) :: starEach es X.env := by rfl) (hpl : (backTo pos (starEach es X.env)).any (·.1) = false := by rfl) : PE X (.Call (.Name x q) (e :: es) [] pos) (tMakeL i C sp E t) := by
  refine ⟨fun pins s σ H Q I h => ?_⟩
  obtain ⟨hs, ht⟩ := h
  have ld := (pe_var (pos := q) hN hv hdb hcd).run pins s σ H (fun v H1 => v = .ref C ∧ H1 = H) I ⟨.ref C, hs, rfl, rfl⟩
  refine wpAny_Call_Name_kw (thn ld fun u s1 ⟨v, H1, I1, r1, q1⟩ => ?_)
  obtain ⟨rfl, rfl⟩ := q1
  cases r1
  refine PySem.W.callWith_K (h₀ := X.base) I.ok.mod.kin M.kp (thn (ha.run pos pins s1 σ _ _ I1 ht) fun us s2 ⟨vs, H2, I2, r, z⟩ => ⟨I2.kIn, ?_⟩) he hpl
  exact run_makeR M F hr hx I2 r z
theorem pe_cmeth0 {pl : Sem Bool} (he : PE X o ta) (r : CRead X.K C mc) (c : CMet X.K C mc m p g) (F : FnR X.prog X.w X.K X.mg X.base CX k g sp) (hr : Room k X.A) (hx : Passes CX X E)
    (ht : eval (.Call (.Attribute o m apos) [] [] pos) X.env = (do
      let ov ← eval o X.env
      standAt apos.atName
      let (f, first) ← holding [ov] (getMethod ov m pl)
      callWith pos f first (backTo pos (starEach [] X.env)) (backToKw pos (keywordEach [] X.env))) := by rfl) : PE X (.Call (.Attribute o m apos) [] [] pos) (tCMeth C sp E ta tNil) := by
  refine ⟨fun pins s σ H Q I h => ?_⟩
  refine PySem.W.methodCall_KW (pl := pl) (thn (he.run pins s σ H _ I h) fun u s1 ⟨x, H1, I1, rx, ex, z⟩ => ?_) ht
  subst ex
  obtain rfl : u = Value.ref C := rx
  refine getmethcm_ok I1 r c fun s2 I2 => ?_
  exact PySem.W.callWith_M0 (first := []) ⟨pin_at I2, I2.kIn⟩ c.fi (run_cm F hr hx I2 .nil z)
end

/-- def f(a, .., *v) by its text -/
theorem _root_.L2.Fun.okStar {P : Program} {w : World} {K : PySem.W.Frag} {mg : Str → Option Value} {base : Heap} {x qual pv : Str} {st : Stmt} {f : Addr} {fd : FuncData} {N ps : List Str} {k : Nat} {sp : Sp} (F : Fun K x qual st f fd) (S : FnScope N (ps ++ [pv]) (defScope st))
    (hb : ∀ (kV doc pm : Value) (an : Option Addr) (cdv ct : Value) (us rest : List Value), us.length = ps.length →
      bindArgs (PySem.W.fnOf x qual (defArgs st) (defBody st) (defScope st) .none kV doc pm an cdv ct) ⟨us ++ rest, []⟩ = (newTuple rest >>= fun t => pure (ps.zip us ++ [(pv, t)])))
    (hbody : ∀ (cdv : Value) (A : Around) (outer : List Env) (s : Shared) (H : Hp) (vs : List V) (Q : VK) (E : XK), Room k (A.deeper (PyProof.Rows.envOfC qual (defScope st) s.heap.objs.size f cdv)) → sp vs H Q E →
      ∃ t, PSs (cxOf CX0 P w K mg base N qual (defScope st) f cdv A outer s H E).nox (defBody st) t ∧ t { nx := fun _ H' => Q .non H', rt := Q } (L2.start N vs) H) :
    FnR P w K mg base CX0 (k + 1) f (fun vs H Q E => ∃ ws rest, vs = ws ++ rest ∧ ws.length = ps.length ∧ rest.length ≤ sizeLine ∧ ∀ p, H p = none → sp (ws ++ [V.ref p]) (upd H p (.tup rest)) Q E) := by
  obtain ⟨oc, od, kV, doc, pm, an, cdv, ct, osl, rfl, lk, hcd⟩ := F.ex
  refine StX.fn_star lk hcd S StX.cxUp_none (hb kV doc pm an cdv ct) fun A outer s H vs Q E hr hsp => ?_
  obtain ⟨t, h, q⟩ := hbody cdv A outer s H vs Q E hr hsp
  exact ⟨t, h.nox, q⟩
end Spk

set_option Elab.async false
set_option linter.all false
set_option maxRecDepth 100000
set_option maxHeartbeats 1000000
namespace Spk
open PySem L2
def top (i : Nat) : Stmt := PySem.Challenge.pw_speaklast_k05_filters_built_of_filters.main.body.getD i (.Pass ⟨0, 0, 0, 0⟩)
local macro_rules | `(tactic| walk_at "rd") => `(tactic| repeat (first
  | with_reducible refine i_seq ?_ | with_reducible refine i_asg ?_ | with_reducible refine i_ret ?_ | with_reducible refine i_ifS ?_ | with_reducible refine i_if ?_
  | with_reducible refine i_for ?_ | with_reducible refine i_iL ?_ | with_reducible refine i_iT ?_ | with_reducible refine i_ckw ?_ | with_reducible refine i_cm ?_ | with_reducible refine And.intro (rfl : V.ref _ = V.ref _) ?_ | with_reducible refine i_rng1 ?_ | with_reducible refine i_bm ?_ | with_reducible refine i_bm0 ?_
  | with_reducible refine i_drop ?_ | with_reducible refine i_next ?_
  | with_reducible refine i_var rfl ?_ | with_reducible refine i_c ?_ | with_reducible refine i_op ?_ | with_reducible refine i_un ?_ | with_reducible refine i_name ?_
  | with_reducible refine i_rI0 ?_ | with_reducible refine i_rU ?_ | with_reducible refine i_rEq rfl ?_ | with_reducible refine i_rNe rfl ?_
  | with_reducible refine i_test ?_ | with_reducible refine i_tB ?_ | with_reducible refine i_and ?_ | with_reducible refine i_or ?_ | with_reducible refine i_not ?_
  | with_reducible refine i_andV ?_ | with_reducible refine i_orV ?_ | with_reducible refine i_notV ?_
  | with_reducible refine i_cons ?_ | with_reducible refine i_nil ?_ | with_reducible refine i_cb ?_ | with_reducible refine i_call ?_ | with_reducible refine i_bl ?_
  | with_reducible refine i_tup ?_ | with_reducible refine i_lst ?_ | with_reducible refine i_par ?_ | with_reducible refine i_gcons ?_ | with_reducible refine i_gnil ?_
  | with_reducible refine And.intro (rfl : V.non = V.non) ?_ | with_reducible refine i_ixT (by assumption) rfl ?_ | with_reducible refine i_ixL (by assumption) rfl ?_ | with_reducible refine i_gtup (by assumption) rfl ?_
  | with_reducible refine i_gsub ?_
  | with_reducible refine Or.inl (Exists.intro _ (And.intro (rfl : [V.int _] = [V.int _]) ?_)) | with_reducible refine Exists.intro _ (And.intro (rfl : [V.int _] = [V.int _]) ?_)
  | with_reducible refine Or.inr (Exists.intro _ (And.intro (rfl : [V.bl _] = [V.bl _]) ?_))
  | with_reducible refine Exists.intro _ (Exists.intro _ (And.intro (rfl : [V.int _, V.int _] = [V.int _, V.int _]) ?_))
  | with_reducible refine Exists.intro _ (Exists.intro _ (And.intro (rfl : [V.ref _] = [V.ref _]) (And.intro (Or.inl (SqL.of (by assumption))) ?_)))
  | with_reducible refine i_rI (show (0 : Int) < _ by assumption) ?_ | with_reducible refine i_rI (show (0 : Int) < _ by decide) ?_
  | with_reducible refine i_rI (pow_ok (Nat.le_of_ble_eq_true rfl) (Nat.le_of_ble_eq_true rfl)) ?_
  | with_reducible refine i_rI (cmulL rfl) ?_))
/-- the parts of a set stand at t -/
def PartsT (H : Hp) (t : Addr) (ps : List Stc) : Prop := ∃ vs, H t = some (.tup vs) ∧ Tups H vs ps
theorem PartsT.up {H H' : Hp} {t : Addr} {ps : List Stc} (e : Same H H') (h : PartsT H t ps) : PartsT H' t ps := by
  obtain ⟨vs, h, z⟩ := h
  exact ⟨vs, e _ _ h, z.up e⟩
theorem ov_non {o : Option Int} (h : ov o = .non) : o = none := by
  cases o with
  | none => rfl
  | some i => cases h
theorem ov_some {o : Option Int} (h : ¬ ov o = .non) : ∃ i, o = some i := by
  cases o with
  | none => exact absurd rfl h
  | some i => exact ⟨i, rfl⟩

section
variable {P : Program} {w : World} {K : PySem.W.Frag} {mg : Str → Option Value} {base : Heap}
/-! ### start_of, touches, later_end -/
abbrev s_start_of : Stmt := top 3
theorem sc_start_of : FnScope ["stretch", "low"] ["stretch"] (defScope s_start_of) := ⟨rfl, rfl, rfl, by decide +kernel, rfl, by decide +kernel, by decide +kernel⟩
def sp_start_of : Sp := fun vs H Q _ => ∃ (v : V) (s : Stc), vs = [v] ∧ TupS H v s ∧ ∀ p H', Same H H' → H' p = some (.tup (key s)) → Q (.ref p) H'
theorem ok_start_of {f : Addr} {fd : FuncData} (F : Fun K "start_of" "start_of" s_start_of f fd) : FnOk P w K mg base CX0 1 f fd ["stretch"] sp_start_of := by
  refine F.ok sc_start_of (fun vs H Q E h => ?_) (fun cdv A outer s H vs Q E hr h => ?_)
  · obtain ⟨v, s, rfl, _⟩ := h
    rfl
  · obtain ⟨v, ⟨lo, hi⟩, rfl, ⟨a, rfl, ha⟩, q⟩ := h
    refine ⟨_, (pss_cons (ps_set (i := 1) sc_start_of.nd rfl (Or.inl rfl) (pe_ix ix_tup (pv 0) pe_int (fun _ _ => rfl)))
 (pss_one (ps_ret (pe_ifExp (pt_cmpR op_isN (pv 1) pe_non (nomark _)) (pe_tup (pa_cons pe_int (pa_cons pe_int pa_nil))) (pe_tup (pa_cons pe_int (pa_cons (pv 1) pa_nil))))))), ?_⟩
    walk_at "rd"
    refine ite_d (fun h => ?_) (fun h => ?_)
    · walk_at "rd"
      have e := ov_non h
      dsimp only at e
      subst e
      exact i_sz (Nat.le_of_ble_eq_true rfl) fun p H1 s1 _ e => q p H1 s1 e
    · obtain ⟨i, rfl⟩ := ov_some h
      walk_at "rd"
      exact i_sz (Nat.le_of_ble_eq_true rfl) fun p H1 s1 _ e => q p H1 s1 e
abbrev s_touches : Stmt := top 5
theorem sc_touches : FnScope ["part", "low", "high"] ["part", "low"] (defScope s_touches) := ⟨rfl, rfl, rfl, by decide +kernel, rfl, by decide +kernel, by decide +kernel⟩
def sp_touches : Sp := fun vs H Q _ => ∃ (v : V) (s : Stc) (lo : Option Int), vs = [v, ov lo] ∧ TupS H v s ∧ Q (.bl (touchB s.2 lo)) H
theorem ok_touches {f : Addr} {fd : FuncData} (F : Fun K "touches" "touches" s_touches f fd) : FnOk P w K mg base CX0 1 f fd ["part", "low"] sp_touches := by
  refine F.ok sc_touches (fun vs H Q E h => ?_) (fun cdv A outer s H vs Q E hr h => ?_)
  · obtain ⟨v, s, lo, rfl, _⟩ := h
    rfl
  · obtain ⟨v, ⟨lo, hi⟩, l, rfl, ⟨a, rfl, ha⟩, q⟩ := h
    refine ⟨_, (pss_cons (ps_set (i := 2) sc_touches.nd rfl (Or.inl rfl) (pe_ix ix_tup (pv 0) pe_int (fun _ _ => rfl)))
 (pss_one (ps_ret (pe_or (pe_cmpR op_isN (pv 1) pe_non (nomark _)) (pe_or (pe_cmpR op_isN (pv 2) pe_non (nomark _)) (pe_one (pe_cmpR op_le (pv 1) (pe_op op_add (pv 2) pe_int) (nomark _)))))))), ?_⟩
    walk_at "rd"
    refine ite_d (fun h => ?_) (fun h => ?_)
    · have e := ov_non h
      subst e
      exact q
    · obtain ⟨i, rfl⟩ := ov_some h
      walk_at "rd"
      refine ite_d (fun h => ?_) (fun h => ?_)
      · have e := ov_non h
        subst e
        exact q
      · obtain ⟨j, rfl⟩ := ov_some h
        walk_at "rd"
        exact q
abbrev s_later_end : Stmt := top 6
theorem sc_later_end : FnScope ["one", "other"] ["one", "other"] (defScope s_later_end) := ⟨rfl, rfl, rfl, by decide +kernel, rfl, by decide +kernel, by decide +kernel⟩
def sp_later_end : Sp := fun vs H Q _ => ∃ (a b : Option Int), vs = [ov a, ov b] ∧ Q (ov (laterE a b)) H
theorem ok_later_end {f : Addr} {fd : FuncData} (F : Fun K "later_end" "later_end" s_later_end f fd) (z_max : mg "max" = none) : FnOk P w K mg base CX0 1 f fd ["one", "other"] sp_later_end := by
  refine F.ok sc_later_end (fun vs H Q E h => ?_) (fun cdv A outer s H vs Q E hr h => ?_)
  · obtain ⟨a, b, rfl, _⟩ := h
    rfl
  · obtain ⟨a, b, rfl, q⟩ := h
    refine ⟨_, (pss_cons (ps_if (PW.pt (pw_or (pt_cmpR op_isN (pv 0) pe_non (nomark _)) (pw_or1 (pt_cmpR op_isN (pv 1) pe_non (nomark _)))))
 (pss_one (ps_ret pe_non))
 pss_nil)
 (pss_one (ps_ret (pe_callB (call_max2 rfl) (by rfl) z_max (by decide +kernel) (pa_cons (pv 0) (pa_cons (pv 1) pa_nil)))))), ?_⟩
    walk_at "rd"
    refine ite_d (fun h => ?_) (fun h => ?_)
    · have e := ov_non h
      subst e
      refine iteT ?_
      walk_at "rd"
      exact q
    · obtain ⟨i, rfl⟩ := ov_some h
      walk_at "rd"
      refine ite_d (fun h => ?_) (fun h => ?_)
      · have e := ov_non h
        subst e
        walk_at "rd"
        exact q
      · obtain ⟨j, rfl⟩ := ov_some h
        walk_at "rd"
        exact q
/-! ### in_parts -/
theorem tups_get {H : Hp} {vs : List V} {ps : List Stc} (h : Tups H vs ps) {i : Nat} (hi : i < ps.length) : ∃ v, vs[i]? = some v ∧ TupS H v ps[i] := by
  induction h generalizing i with
  | nil => simp at hi
  | cons r t ih =>
    cases i with
    | zero => exact ⟨_, rfl, r⟩
    | succ i => exact ih (by simpa using hi)
theorem tups_len {H : Hp} {vs : List V} {ps : List Stc} (h : Tups H vs ps) : vs.length = ps.length := Paired.length h
structure SInv (t : Addr) (n : Int) (ps : List Stc) (H0 : Hp) (m : Nat) (σ : L2.St) (H : Hp) : Prop where
  ex : ∃ (a b : Nat) (x y z : Option V), m = b - a ∧ a ≤ b ∧ b ≤ ps.length ∧ H = H0 ∧ σ = [some (.ref t), some (.int n), some (.int a), some (.int b), x, y, z] ∧
    (∀ (j : Nat) s, j < a → ps[j]? = some s → has1 s n = false) ∧ (∀ (j : Nat) s, b ≤ j → ps[j]? = some s → has1 s n = false)
abbrev s_in_parts : Stmt := top 8
theorem sc_in_parts : FnScope ["parts", "number", "start", "end", "middle", "low", "high"] ["parts", "number"] (defScope s_in_parts) := ⟨rfl, rfl, rfl, by decide +kernel, rfl, by decide +kernel, by decide +kernel⟩
def sp_in_parts : Sp := fun vs H Q _ => ∃ (t : Addr) (ps : List Stc) (n : Int), vs = [.ref t, .int n] ∧ PartsT H t ps ∧ Canon ps ∧ Q (.bl (hasL ps n)) H
theorem ok_in_parts {f : Addr} {fd : FuncData} (F : Fun K "in_parts" "in_parts" s_in_parts f fd) (z_len : mg "len" = none) : FnOk P w K mg base CX0 1 f fd ["parts", "number"] sp_in_parts := by
  refine F.ok sc_in_parts (fun vs H Q E h => ?_) (fun cdv A outer s H vs Q E hr h => ?_)
  · obtain ⟨t, ps, n, rfl, _⟩ := h
    rfl
  · obtain ⟨t, ps, n, rfl, ⟨vs, ht, tu⟩, hc, q⟩ := h
    refine ⟨_, (pss_cons (ps_set (i := 2) sc_in_parts.nd rfl (Or.inl rfl) pe_int)
 (pss_cons (ps_set (i := 3) sc_in_parts.nd rfl (Or.inl rfl) (pe_callB call_len_seq (by rfl) z_len PySem.boot_len (pa_cons (pv 0) pa_nil)))
 (pss_cons (ps_while PassesOwn.never (pt_cmpR op_lt (pv 2) (pv 3) (nomark _))
 (pss_cons (ps_set (i := 4) sc_in_parts.nd rfl (Or.inl rfl) (pe_op op_fdivW (pe_op op_add (pv 2) (pv 3)) pe_int))
 (pss_cons (ps_asg (pe_ix ix_tup (pv 0) (pv 4) (fun _ _ => rfl)) (pg_tup (by rfl) (pgs_cons (pg_name (i := 5) sc_in_parts.nd rfl (Or.inl rfl)) (pgs_cons (pg_name (i := 6) sc_in_parts.nd rfl (Or.inl rfl)) pgs_nil))))
 (pss_one (ps_if (PW.pt (pw_and (pt_cmpR op_notN (pv 5) pe_non (nomark _)) (pw_and1 (pt_cmpR op_lt (pv 1) (pv 5) (nomark _)))))
 (pss_one (ps_set (i := 3) sc_in_parts.nd rfl (Or.inl rfl) (pv 4)))
 (pss_one (ps_if (PW.pt (pw_and (pt_cmpR op_notN (pv 6) pe_non (nomark _)) (pw_and1 (pt_cmpR op_gt (pv 1) (pv 6) (nomark _)))))
 (pss_one (ps_set (i := 2) sc_in_parts.nd rfl (Or.inl rfl) (pe_op op_add (pv 4) pe_int)))
 (pss_one (ps_ret pe_bl)))))))))
 (pss_one (ps_ret pe_bl))))), ?_⟩
    walk_at "rd"
    refine ⟨t, vs, rfl, .inr (SqT.of ht), ?_⟩
    walk_at "rd"
    have hlen := tups_len tu
    refine ⟨SInv t n ps H, ⟨vs.length, ⟨0, vs.length, none, none, none, rfl, Nat.zero_le _, Nat.le_of_eq hlen, rfl, rfl, fun j s h => absurd h (Nat.not_lt_zero _), fun j s h e => ?_⟩⟩, ?_⟩
    · rw [List.getElem?_eq_none (by omega)] at e
      cases e
    rintro m σ H' ⟨⟨a, b, x, y, z, em, hab, hb, eH, rfl, lo, hi⟩⟩
    subst H'
    walk_at "rd"
    refine ite_d (fun h => ?_) (fun h => ?_)
    · refine ⟨fun σ' H' => ∃ m', m' < m ∧ SInv t n ps H m' σ' H', fun _ _ h => h, ?_⟩
      walk_at "rd"
      refine i_rI (wide_div (b := 2) (by decide) (by decide) (by decide) (by decide)) ?_
      walk_at "rd"
      have e2 : (((a : Int) + (b : Int)) / 2) = (((a + b) / 2 : Nat) : Int) := by omega
      have hm : (a + b) / 2 < ps.length := by omega
      obtain ⟨v, hv, c, rfl, hcc⟩ := tups_get tu hm
      rw [e2]
      refine i_ixT ht (atI_nat hv) ?_
      walk_at "rd"
      generalize hs : ps[(a + b) / 2] = s at hcc
      have hs' : ps[(a + b) / 2]? = some s := by rw [List.getElem?_eq_getElem hm, hs]
      obtain ⟨l, r⟩ := s
      dsimp only at hcc ⊢
      -- the number lies ahead of this part, behind it, or in it
      have goL : ∀ (k : Int) (x y z : Option V), l = some k → n < k → ∃ m', m' < m ∧ SInv t n ps H m' [some (.ref t), some (.int n), some (.int a), some (.int ((a + b) / 2 : Nat)), x, y, z] H := fun k x y z hk hn =>
        ⟨(a + b) / 2 - a, by omega, ⟨a, (a + b) / 2, x, y, z, rfl, by omega, by omega, rfl, rfl, lo, fun j s hj e => search_low hc hs' hk hn hj e⟩⟩
      have goR : ∀ (k : Int) (x y z : Option V), r = some k → k < n → ∃ m', m' < m ∧ SInv t n ps H m' [some (.ref t), some (.int n), some (.int ((a + b) / 2 + 1 : Nat)), some (.int b), x, y, z] H := fun k x y z hk hn =>
        ⟨b - ((a + b) / 2 + 1), by omega, ⟨(a + b) / 2 + 1, b, x, y, z, rfl, by omega, hb, rfl, rfl, fun j s hj e => search_high hc hs' hk hn (by omega) e, hi⟩⟩
      have found : has1 (l, r) n = true → Q (.bl true) H := fun hh => by
        have e : hasL ps n = true := List.any_eq_true.mpr ⟨_, List.mem_of_getElem? hs', hh⟩
        rw [e] at q
        exact q
      have rest : (∀ k, l = some k → k ≤ n) → tIfS
            (tAnd (tTest (tOp (fun x y H Q => y = V.non ∧ Q (V.bl !decide (x = V.non)) H) (tVar 6) (tC V.non)))
              (tTest (tOp (rI0 fun i j => V.bl (decide (j < i))) (tVar 1) (tVar 6))))
            (tAsg (tOp (rI0 fun i j => V.int (i + j)) (tVar 4) (tC (V.int 1))) (gName 2)) (tRet (tC (V.bl true)))
            { nx := fun σ' H' => ∃ m', m' < m ∧ SInv t n ps H m' σ' H', rt := Q, bk := fun σ H => Q (.bl false) H, ct := fun σ' H' => ∃ m', m' < m ∧ SInv t n ps H m' σ' H' }
            [some (.ref t), some (.int n), some (.int a), some (.int b), some (.int ((a + b) / 2 : Nat)), some (ov l), some (ov r)] H := by
        intro hl
        walk_at "rd"
        cases r with
        | none =>
          refine ite_nd (fun h => absurd rfl h) (fun _ => ?_)
          refine iteF ?_
          walk_at "rd"
          exact found (has1_of hl fun k hk => nomatch hk)
        | some k =>
          refine ite_nd (fun _ => ?_) (fun h => nomatch h)
          walk_at "rd"
          refine ite_d (fun h => ?_) (fun h => ?_)
          · walk_at "rd"
            exact goR k _ _ _ rfl h
          · walk_at "rd"
            exact found (has1_of hl fun j hj => by cases hj; omega)
      cases l with
      | none =>
        refine ite_nd (fun h => absurd rfl h) (fun _ => ?_)
        refine iteF ?_
        exact rest (fun k hk => nomatch hk)
      | some k =>
        refine ite_nd (fun _ => ?_) (fun h => nomatch h)
        walk_at "rd"
        refine ite_d (fun h => ?_) (fun h => ?_)
        · walk_at "rd"
          exact goL k _ _ _ rfl h
        · exact rest (fun j hj => by cases hj; omega)
    · walk_at "rd"
      have e : hasL ps n = false := by
        unfold hasL
        rw [List.any_eq_false]
        intro s hs
        obtain ⟨j, hj⟩ := List.mem_iff_getElem?.mp hs
        rcases Nat.lt_or_ge j a with q1 | q1
        · rw [lo j s q1 hj]; simp
        · rw [hi j s (by omega) hj]; simp
      rw [e] at q
      exact q

/-! ### joined -/
theorem dp_key {H : Hp} {p : Addr} {s : Stc} (h : H p = some (.tup (key s))) : Dp K H (.ref p) (keyD s) := .tup (SqT.of h) (.cons (.int _) (.cons (.int _) .nil))
abbrev s_joined : Stmt := top 4
theorem sc_joined : FnScope ["stretches", "parts", "low", "high", "first", "last"] ["stretches"] (defScope s_joined) := ⟨rfl, rfl, rfl, by decide +kernel, rfl, by decide +kernel, by decide +kernel⟩
def sp_joined (K : PySem.W.Frag) : Sp := fun vs H Q _ => ∃ (l : Addr) (xs : List V) (ss : List Stc), vs = [.ref l] ∧ (SqL K H l xs ∨ SqT K H l xs) ∧ Tups H xs ss ∧ ss.length ≤ 1000 ∧ (∀ s, s ∈ ss → NE s) ∧
  ∀ p H' ps, Same H H' → PartsT H' p ps → Canon ps → (∀ n, hasL ps n = hasL ss n) → ps.length ≤ ss.length → Q (.ref p) H'
/-- what holds between two turns: the list at d holds the joined stretches so far -/
structure JInv (H0 : Hp) (a p d : Addr) (L : List V) (ss : List Stc) (i : Nat) (σ : L2.St) (H : Hp) : Prop where
  ex : ∃ (acc : List Stc) (vs : List V) (x y z w : Option V), σ = [some (.ref a), some (.ref d), x, y, z, w] ∧ Same H0 H ∧ H p = some (.lst L) ∧ H d = some (.lst vs) ∧ Tups H vs acc ∧ Joins acc (ss.take i) (ss.drop i) ∧ acc.length ≤ i
theorem joinF_len (acc : List Stc) (s : Stc) : (joinF acc s).length ≤ acc.length + 1 := by
  unfold joinF
  cases h : acc.getLast? with
  | none => simp
  | some p =>
    dsimp only
    split
    · simp
    · simp
theorem Same.mut {H0 H : Hp} {d : Addr} {o : HO} (e : Same H0 H) (h : H0 d = none) : Same H0 (upd H d o) := fun b u hb => by
  rw [upd_ne (ne_of_none hb h)]
  exact e b u hb
/-- tuples stay where a list is changed -/
theorem Tups.mut {H : Hp} {d : Addr} {ys zs : List V} {vs : List V} {ss : List Stc} (h : Tups H vs ss) (hd : H d = some (.lst ys)) : Tups (upd H d (.lst zs)) vs ss :=
  Paired.mapP h fun v s ⟨a, e, ha⟩ => ⟨a, e, by rw [upd_ne (ne_of ha hd (by intro z; cases z))]; exact ha⟩
theorem tups_snoc {H : Hp} {vs : List V} {ss : List Stc} {v : V} {s : Stc} (h : Tups H vs ss) (hv : TupS H v s) : Tups H (vs ++ [v]) (ss ++ [s]) := by
  induction h with
  | nil => exact .cons hv .nil
  | cons r t ih => exact .cons r ih
theorem tups_concat {H : Hp} {s : Stc} : ∀ {ss : List Stc} {vs : List V}, Tups H vs (ss ++ [s]) → ∃ vs' v, vs = vs' ++ [v] ∧ Tups H vs' ss ∧ TupS H v s
  | [], _, .cons r .nil => ⟨[], _, rfl, .nil, r⟩
  | a :: ss, _, .cons r t => by
    obtain ⟨vs', v, e, t', hv⟩ := tups_concat (ss := ss) t
    subst e
    exact ⟨_ :: vs', v, rfl, .cons r t', hv⟩
theorem ok_joined {f fS fT fE : Addr} {fd fdS fdT fdE : FuncData} (F : Fun K "joined" "joined" s_joined f fd) (FS : Fun K "start_of" "start_of" s_start_of fS fdS) (B_start_of : Binds K fdS ["stretch"] []) (g_start_of : mg "start_of" = some (.ref fS))
    (F_touches : Fun K "touches" "touches" s_touches fT fdT) (B_touches : Binds K fdT ["part", "low"] []) (g_touches : mg "touches" = some (.ref fT))
    (F_later_end : Fun K "later_end" "later_end" s_later_end fE fdE) (B_later_end : Binds K fdE ["one", "other"] []) (g_later_end : mg "later_end" = some (.ref fE))
    (z_max : mg "max" = none) (z_sorted : mg "sorted" = none) (z_tuple : mg "tuple" = none) : FnOk P w K mg base CX0 4 f fd ["stretches"] (sp_joined K) := by
  have GS : FnOk P w K mg base CX0 1 fS fdS ["stretch"] sp_start_of := ok_start_of FS
  have RS := FnOk.raw GS B_start_of .nil
  have G_touches : FnOk P w K mg base CX0 1 fT fdT ["part", "low"] sp_touches := ok_touches F_touches
  have G_later_end : FnOk P w K mg base CX0 1 fE fdE ["one", "other"] sp_later_end := ok_later_end F_later_end z_max
  refine F.ok sc_joined (fun vs H Q E h => ?_) (fun cdv A outer s H vs Q E hr h => ?_)
  · obtain ⟨l, xs, ss, rfl, _⟩ := h
    rfl
  · obtain ⟨l, xs, ss, rfl, hl, tu, hz, hne, q⟩ := h
    refine ⟨_, (pss_cons (ps_set (i := 1) sc_joined.nd rfl (Or.inl rfl) (pe_lst pa_nil))
 (pss_cons (ps_for PassesOwn.never rfl (pi_list (pe_callBK (cr_sortKey RS (hr.mono (by decide))) (by rfl) z_sorted (by decide +kernel) (pa_cons (pv 0) pa_nil) (pk_cons (pe_glob rfl g_start_of (relR _)) pk_nil))) (pg_tup (by rfl) (pgs_cons (pg_name (i := 2) sc_joined.nd rfl (Or.inl rfl)) (pgs_cons (pg_name (i := 3) sc_joined.nd rfl (Or.inl rfl)) pgs_nil)))
 (pss_one (ps_if (PW.pt (pw_and (pt_truth (pv 1) (by intro _; rfl)) (pw_and1 (pt_val (pe_call G_touches (hr.mono (by decide)) rfl g_touches F_touches.kp B_touches .nil pass0 (pa_cons (pe_ix ix_list (pv 1) (pe_un un_neg pe_int) (fun _ _ => rfl)) (pa_cons (pv 2) pa_nil)))))))
 (pss_cons (ps_asg (pe_bm0 PySem.F.plainAttrs_list PySem.F.slot_list_pop PySem.F.type_list_pop mt_pop (pv 1)) (pg_tup (by rfl) (pgs_cons (pg_name (i := 4) sc_joined.nd rfl (Or.inl rfl)) (pgs_cons (pg_name (i := 5) sc_joined.nd rfl (Or.inl rfl)) pgs_nil))))
 (pss_one (ps_expr (pe_bm PySem.F.plainAttrs_list PySem.F.slot_list_append PySem.F.type_list_append mt_append (pv 1) (pa_cons (pe_tup (pa_cons (pv 4) (pa_cons (pe_call G_later_end (hr.mono (by decide)) rfl g_later_end F_later_end.kp B_later_end .nil pass0 (pa_cons (pv 5) (pa_cons (pv 3) pa_nil))) pa_nil))) pa_nil)))))
 (pss_one (ps_expr (pe_bm PySem.F.plainAttrs_list PySem.F.slot_list_append PySem.F.type_list_append mt_append (pv 1) (pa_cons (pe_tup (pa_cons (pv 2) (pa_cons (pv 3) pa_nil))) pa_nil)))))))
 (pss_one (ps_ret (pe_callTy call_tuple_of (by rfl) z_tuple (by decide +kernel) (pa_cons (pv 1) pa_nil)))))), ?_⟩
    walk_at "rd"
    refine ⟨Nat.zero_le _, fun d hd0 => ?_⟩
    obtain ⟨H1, e1, s1, hd⟩ := new_heap (o := .lst []) hd0
    rw [e1]
    walk_at "rd"
    have hl1 : SqL K H1 l xs ∨ SqT K H1 l xs := hl.elim (fun z => .inl (SqL.ext z s1)) fun z => .inr (SqT.ext z s1)
    have tu1 := tu.up s1
    have hlen := tups_len tu
    refine ⟨l, xs, ss.map keyD, rfl, rfl, hl1, by rw [List.length_map]; exact hlen.symm, keys_alike ss, keys_sort ss, keys_deep ss, fun i x d hx hk H' sm => ?_, fun H2 p sm hp => ?_⟩
    · have hi : i < ss.length := by
        have := (List.getElem?_eq_some_iff.mp hk).1
        simpa using this
      obtain ⟨v, hv, ts⟩ := tups_get tu1 hi
      rw [hx] at hv
      cases hv
      have hd : d = keyD ss[i] := by
        rw [List.getElem?_map, List.getElem?_eq_getElem hi] at hk
        exact (Option.some.inj hk).symm
      subst hd
      exact ⟨x, ss[i], rfl, ts.up sm, fun p H'' s2 e => ⟨s2, dp_key e⟩⟩
    obtain ⟨ss', tu', pm, pw⟩ := sorted_low tu
    obtain ⟨H3, e3, s3, hp3⟩ := new_heap (o := .lst (byKeys xs (ss.map keyD))) hp
    rw [e3]
    have s13 : Same H1 H3 := fun b o z => s3 _ _ (sm _ _ z)
    have s03 : Same H H3 := fun b o z => s13 _ _ (s1 _ _ z)
    have hdp : d ≠ p := ne_of_none (sm _ _ hd) hp
    have hl3 := tups_len tu'
    have hle : ss'.length = ss.length := pm.length_eq
    have hne' : ∀ s, s ∈ ss' → NE s := fun s hs => hne s (pm.mem_iff.mp hs)
    generalize hL : byKeys xs (ss.map keyD) = L at *
    refine ⟨p, rfl, ⟨_, SqL.of hp3⟩, for_list (K := K) (a := p) (xs := L) (JInv H l p d L ss') ⟨[], [], none, none, none, none, rfl, s03, hp3, s13 _ _ hd, .nil, ⟨⟨fun s hs => (by simp at hs), .nil⟩, fun n => rfl, fun a ha => (by simp at ha)⟩, Nat.le_refl _⟩ ?_ ?_ ?_⟩
    · rintro i σ H' _ ⟨acc, vs, x, y, z, w, _, _, hp4, _⟩
      exact SqL.of hp4
    · rintro i x σ H' hx ⟨acc, vs, x1, y1, z1, w1, rfl, sm4, hp4, hd4, ta, jn, hai⟩
      have hi : i < ss'.length := by
        have := (List.getElem?_eq_some_iff.mp hx).1
        omega
      obtain ⟨v, hv, c, rfl, hc⟩ := tups_get tu' hi
      rw [hx] at hv
      cases hv
      have hc4 := sm4 _ _ hc
      have jn' : Joins (joinF acc ss'[i]) (ss'.take (i + 1)) (ss'.drop (i + 1)) := by
        rw [List.drop_eq_getElem_cons hi] at jn
        rw [List.take_succ_eq_append_getElem hi]
        refine joins_step jn (hne' _ (List.getElem_mem hi)) ?_
        rw [← List.drop_eq_getElem_cons hi]
        exact pw.drop
      have hjl := joinF_len acc ss'[i]
      generalize hs : ss'[i] = s at *
      obtain ⟨lo, hi'⟩ := s
      dsimp only at hc4
      -- what the turn leaves
      have fin : ∀ (vs' : List V) (H5 : Hp) (x y z w : Option V), Same H H5 → H5 p = some (.lst L) → H5 d = some (.lst vs') → Tups H5 vs' (joinF acc (lo, hi')) → JInv H l p d L ss' (i + 1) [some (.ref l), some (.ref d), x, y, z, w] H5 :=
        fun vs' H5 x y z w a1 a2 a3 a4 => ⟨_, vs', x, y, z, w, rfl, a1, a2, a3, a4, jn', by omega⟩
      have hva := tups_len ta
      -- the appending of a tuple
      have app : ∀ (ws : List V) (ac : List Stc) (u v : Option Int) (H5 : Hp), Same H H5 → H5 p = some (.lst L) → H5 d = some (.lst ws) → Tups H5 ws ac → ac ++ [(u, v)] = joinF acc (lo, hi') → ∀ q, H5 q = none →
          ∀ R : VK, (∀ H6, (∀ x y z w, JInv H l p d L ss' (i + 1) [some (.ref l), some (.ref d), x, y, z, w] H6) → R .non H6) → rAppend (.ref d) [.ref q] (upd H5 q (.tup [ov u, ov v])) R := by
        intro ws ac u v H5 a1 a2 a3 a4 e q hq R hR
        obtain ⟨H6, e6, s6, hq6⟩ := new_heap (o := .tup [ov u, ov v]) hq
        rw [e6]
        have hw : ws.length ≤ 100000 := by
          have h1 := tups_len a4
          have h2 := congrArg List.length e
          simp only [List.length_append, List.length_singleton] at h2
          omega
        refine i_app (s6 _ _ a3) hw (hR _ fun x y z w => fin (ws ++ [.ref q]) _ x y z w ?_ ?_ upd_same ?_)
        · exact Same.mut (fun b o z => s6 _ _ (a1 _ _ z)) hd0
        · rw [upd_ne hdp.symm]
          exact s6 _ _ a2
        · rw [← e]
          exact Tups.mut (tups_snoc (a4.up s6) ⟨q, rfl, hq6⟩) (s6 _ _ a3)
      walk_at "rd"
      refine ⟨!vs.isEmpty, .inl ⟨vs, SqL.of hd4, rfl⟩, ?_⟩
      rcases List.eq_nil_or_concat acc with rfl | ⟨ac, p', rfl⟩
      · have ev : vs = [] := List.length_eq_zero_iff.mp (by simpa using hva)
        subst ev
        refine iteF (iteF ?_)
        walk_at "rd"
        refine i_tyL hd4 ?_
        walk_at "rd"
        refine ⟨size_of (Nat.le_of_ble_eq_true rfl), fun q hq => ?_⟩
        walk_at "rd"
        refine app [] [] lo hi' H' sm4 hp4 hd4 ta rfl q hq _ ?_
        exact fun H6 h => h _ _ _ _
      · simp only [List.concat_eq_append] at *
        obtain ⟨vs', v, rfl, ta', tp⟩ := tups_concat ta
        have hne : (!(vs' ++ [v]).isEmpty) = true := by simp
        rw [hne]
        refine iteT ?_
        walk_at "rd"
        refine i_ixL hd4 (atI_last _ _) ?_
        walk_at "rd"
        refine ⟨v, p', lo, rfl, tp, ?_⟩
        walk_at "rd"
        have ejn : joinF (ac ++ [p']) (lo, hi') = if touchB p'.2 lo = true then ac ++ [(p'.1, laterE p'.2 hi')] else ac ++ [p'] ++ [(lo, hi')] := by
          unfold joinF
          rw [List.getLast?_concat]
          simp only [List.dropLast_concat]
        by_cases ht : touchB p'.2 lo = true
        · rw [ht]
          refine iteT ?_
          rw [if_pos ht] at ejn
          walk_at "rd"
          refine i_tyL hd4 (i_pop hd4 ?_)
          obtain ⟨c', rfl, hc'⟩ := tp
          have hcd : c' ≠ d := ne_of hc' hd4 (by intro z; cases z)
          have hc5 : upd H' d (.lst vs') c' = some (.tup [ov p'.1, ov p'.2]) := by rw [upd_ne hcd]; exact hc'
          walk_at "rd"
          refine i_tyL upd_same ?_
          walk_at "rd"
          refine ⟨p'.2, hi', rfl, ?_⟩
          walk_at "rd"
          refine ⟨size_of (Nat.le_of_ble_eq_true rfl), fun q hq => ?_⟩
          walk_at "rd"
          refine app vs' ac p'.1 (laterE p'.2 hi') _ (Same.mut sm4 hd0) (by rw [upd_ne hdp.symm]; exact hp4) upd_same (ta'.mut hd4) ejn.symm q hq _ ?_
          exact fun H6 h => h _ _ _ _
        · have ht' : touchB p'.2 lo = false := by simpa using ht
          rw [ht']
          refine iteF ?_
          rw [if_neg ht] at ejn
          walk_at "rd"
          refine i_tyL hd4 ?_
          walk_at "rd"
          refine ⟨size_of (Nat.le_of_ble_eq_true rfl), fun q hq => ?_⟩
          walk_at "rd"
          refine app _ _ lo hi' H' sm4 hp4 hd4 ta ejn.symm q hq _ ?_
          exact fun H6 h => h _ _ _ _
    · rintro σ H' ⟨acc, vs, x1, y1, z1, w1, rfl, sm4, hp4, hd4, ta, jn, hai⟩
      walk_at "rd"
      rw [hl3, List.take_length, List.drop_length] at jn
      refine ⟨d, vs, rfl, .inl ⟨SqL.of hd4, fun p6 hp6 => ?_⟩⟩
      obtain ⟨H6, e6, s6, h6⟩ := new_heap (o := .tup vs) hp6
      rw [e6]
      refine q p6 H6 acc (fun b o z => s6 _ _ (sm4 _ _ z)) ⟨vs, h6, ta.up s6⟩ jn.canon (fun n => ?_) (by omega)
      rw [jn.has n]
      exact Bool.eq_iff_iff.mpr (by simp only [hasL, List.any_eq_true]; exact ⟨fun ⟨s, hs, e⟩ => ⟨s, pm.mem_iff.mp hs, e⟩, fun ⟨s, hs, e⟩ => ⟨s, pm.mem_iff.mpr hs, e⟩⟩)
end
end Spk

set_option Elab.async false
set_option linter.all false
set_option maxRecDepth 100000
set_option maxHeartbeats 1000000
namespace Spk
open PySem L2
local macro_rules | `(tactic| walk_at "rd") => `(tactic| repeat (first
  | with_reducible refine i_seq ?_ | with_reducible refine i_asg ?_ | with_reducible refine i_ret ?_ | with_reducible refine i_ifS ?_ | with_reducible refine i_if ?_
  | with_reducible refine i_for ?_ | with_reducible refine i_iL ?_ | with_reducible refine i_iT ?_ | with_reducible refine i_ckw ?_ | with_reducible refine i_cm ?_ | with_reducible refine And.intro (rfl : V.ref _ = V.ref _) ?_ | with_reducible refine i_rng1 ?_ | with_reducible refine i_bm ?_ | with_reducible refine i_bm0 ?_
  | with_reducible refine i_drop ?_ | with_reducible refine i_next ?_
  | with_reducible refine i_var rfl ?_ | with_reducible refine i_c ?_ | with_reducible refine i_op ?_ | with_reducible refine i_un ?_ | with_reducible refine i_name ?_
  | with_reducible refine i_rI0 ?_ | with_reducible refine i_rU ?_ | with_reducible refine i_rEq rfl ?_ | with_reducible refine i_rNe rfl ?_
  | with_reducible refine i_test ?_ | with_reducible refine i_tB ?_ | with_reducible refine i_and ?_ | with_reducible refine i_or ?_ | with_reducible refine i_not ?_
  | with_reducible refine i_andV ?_ | with_reducible refine i_orV ?_ | with_reducible refine i_notV ?_
  | with_reducible refine i_cons ?_ | with_reducible refine i_nil ?_ | with_reducible refine i_cb ?_ | with_reducible refine i_call ?_ | with_reducible refine i_bl ?_
  | with_reducible refine i_tup ?_ | with_reducible refine i_lst ?_ | with_reducible refine i_par ?_ | with_reducible refine i_gcons ?_ | with_reducible refine i_gnil ?_
  | with_reducible refine And.intro (rfl : V.non = V.non) ?_ | with_reducible refine i_ixT (by assumption) rfl ?_ | with_reducible refine i_ixL (by assumption) rfl ?_ | with_reducible refine i_gtup (by assumption) rfl ?_
  | with_reducible refine i_gsub ?_
  | with_reducible refine Or.inl (Exists.intro _ (And.intro (rfl : [V.int _] = [V.int _]) ?_)) | with_reducible refine Exists.intro _ (And.intro (rfl : [V.int _] = [V.int _]) ?_)
  | with_reducible refine Or.inr (Exists.intro _ (And.intro (rfl : [V.bl _] = [V.bl _]) ?_))
  | with_reducible refine Exists.intro _ (Exists.intro _ (And.intro (rfl : [V.int _, V.int _] = [V.int _, V.int _]) ?_))
  | with_reducible refine Exists.intro _ (Exists.intro _ (And.intro (rfl : [V.ref _] = [V.ref _]) (And.intro (Or.inl (SqL.of (by assumption))) ?_)))
  | with_reducible refine i_rI (show (0 : Int) < _ by assumption) ?_ | with_reducible refine i_rI (show (0 : Int) < _ by decide) ?_
  | with_reducible refine i_rI (pow_ok (Nat.le_of_ble_eq_true rfl) (Nat.le_of_ble_eq_true rfl)) ?_
  | with_reducible refine i_rI (cmulL rfl) ?_))
/-! ### the class Ranges -/
def Rng (C : Addr) (H : Hp) (r : Addr) (ps : List Stc) : Prop := ∃ dx t, H r = some (.ins C dx [("parts", .ref t)]) ∧ PartsT H t ps ∧ Canon ps
theorem Rng.up {C : Addr} {H H' : Hp} {r : Addr} {ps : List Stc} (e : Same H H') (h : Rng C H r ps) : Rng C H' r ps := by
  obtain ⟨dx, t, a, b, c⟩ := h
  exact ⟨dx, t, e _ _ a, b.up e, c⟩
theorem Rng.canon {C : Addr} {H : Hp} {r : Addr} {ps : List Stc} (h : Rng C H r ps) : Canon ps := let ⟨_, _, _, _, c⟩ := h; c
/-- parts as data -/
def oD : Option Int → PyData
  | none => .none
  | some i => .int i
def stD (s : Stc) : PyData := .tuple [oD s.1, oD s.2]
def psD (ps : List Stc) : PyData := .tuple (ps.map stD)
theorem dp_ov {K : PySem.W.Frag} {H : Hp} (o : Option Int) : Dp K H (ov o) (oD o) := by
  cases o with
  | none => exact .non
  | some i => exact .int i
theorem dps_tups {K : PySem.W.Frag} {H : Hp} {vs : List V} {ps : List Stc} (h : Tups H vs ps) : DpAll K H vs (ps.map stD) := by
  induction h with
  | nil => exact .nil
  | cons r t ih =>
    obtain ⟨a, rfl, ha⟩ := r
    exact .cons (.tup (SqT.of ha) (.cons (dp_ov _) (.cons (dp_ov _) .nil))) ih
theorem dp_parts {K : PySem.W.Frag} {H : Hp} {t : Addr} {ps : List Stc} (h : PartsT H t ps) : Dp K H (.ref t) (psD ps) := by
  obtain ⟨vs, h, tu⟩ := h
  exact .tup (SqT.of h) (dps_tups tu)
theorem eqv_oD (a b : Option Int) : PyData.eqv (oD a) (oD b) = decide (a = b) := by
  cases a <;> cases b <;> simp [oD, PyData.eqv]
  rw [Bool.eq_iff_iff]
  simp
theorem eqv_stD (a b : Stc) : PyData.eqv (stD a) (stD b) = decide (a = b) := by
  obtain ⟨l, r⟩ := a
  obtain ⟨l', r'⟩ := b
  simp only [stD, PyData.eqv, PyData.eqvAll, eqv_oD, Bool.and_true, Prod.mk.injEq]
  rw [Bool.eq_iff_iff]
  simp
theorem eqvAll_ps : ∀ ps qs : List Stc, PyData.eqvAll (ps.map stD) (qs.map stD) = decide (ps = qs)
  | [], [] => by simp [PyData.eqvAll]
  | [], _ :: _ => by simp [PyData.eqvAll]
  | _ :: _, [] => by simp [PyData.eqvAll]
  | a :: ps, b :: qs => by
    simp only [List.map_cons, PyData.eqvAll, eqv_stD, eqvAll_ps ps qs, List.cons.injEq]
    rw [Bool.eq_iff_iff]
    simp
theorem eqv_psD (ps qs : List Stc) : PyData.eqv (psD ps) (psD qs) = decide (ps = qs) := by
  simp only [psD, PyData.eqv]
  exact eqvAll_ps ps qs
theorem lay_oD (o : Option Int) : (oD o).canLay0 = true := by cases o <;> simp [oD, PyData.canLay0]
theorem lay_stD (s : Stc) : (stD s).canLay0 = true := by simp [stD, PyData.canLay0, PyData.canLayAll0, lay_oD]
theorem lay_ps : ∀ ps : List Stc, PyData.canLayAll0 (ps.map stD) = true
  | [] => by simp [PyData.canLayAll0]
  | a :: ps => by simp [PyData.canLayAll0, lay_stD, lay_ps ps]
theorem dep_oD (o : Option Int) : (oD o).depth = 0 := by cases o <;> simp [oD, PyData.depth]
theorem dep_ps : ∀ ps : List Stc, PyData.depthAll (ps.map stD) ≤ 2
  | [] => by simp [PyData.depthAll]
  | a :: ps => by
    have := dep_ps ps
    simp only [List.map_cons, PyData.depthAll, stD, PyData.depth, dep_oD]
    omega
theorem shaped_ps (ps : List Stc) : SeqAt.shaped (psD ps) = true := by
  have h1 := lay_ps ps
  have h2 := dep_ps ps
  simp only [SeqAt.shaped, psD, PyData.canLay0, h1, PyData.depth, Bool.true_and, decide_eq_true_eq]
  omega

/-- what the text says of the class -/
structure ClsT (K : PySem.W.Frag) (mg : Str → Option Value) (C fI fE : Addr) : Prop where
  cl : Cls K C
  nP : NoAttr K C "parts"
  M : Mk K C fI
  g_C : mg "Ranges" = some (.ref C)
  self : PySem.W.selfFirst K C = true
  eq : OwnEq K C fE
  cls : PySem.W.findIn K (.ref C) "__class__" = some (some (.builtin "object.__class__"))
  get : PySem.W.specialIn K (.builtin "object.__class__") "__get__" = some (some (.builtin "getset_descriptor.__get__"))
  tk : PySem.W.takesIn K (.builtin "object.__class__") = some true
  mro : PySem.W.mroIn K C (.type "object") = some true
  kit : PySem.W.kitOne K (.ref C) (.ref C) = some true
  kn : PySem.W.kitOne K (.type "NoneType") (.ref C) = some false
  kb : PySem.W.kitOne K (.type "bool") (.ref C) = some false
  ki : PySem.W.kitOne K (.type "int") (.ref C) = some false
  ks : PySem.W.kitOne K (.type "str") (.ref C) = some false
  kl : PySem.W.kitOne K (.type "list") (.ref C) = some false
  kt : PySem.W.kitOne K (.type "tuple") (.ref C) = some false
section
variable {P : Program} {w : World} {K : PySem.W.Frag} {mg : Str → Option Value} {base : Heap} {C fI fE : Addr}
theorem Rng.ty {H : Hp} {r : Addr} {ps : List Stc} (T : ClsT K mg C fI fE) (h : Rng C H r ps) : TyX K H (.ref r) (.ref C) := by
  obtain ⟨dx, t, a, _⟩ := h
  exact .base (.ins a T.cl T.cls T.get T.tk T.mro)
theorem ClsT.odd {H : Hp} {y : V} {X : String} (T : ClsT K mg C fI fE) (o : Odd H y X) : PySem.W.kitOne K (.type X) (.ref C) = some false := by
  cases o with
  | non => exact T.kn
  | bl b => exact T.kb
  | int i => exact T.ki
  | str x => exact T.ks
  | lst h => exact T.kl
  | tup h => exact T.kt
abbrev s_Ranges__init : Stmt := inClass (top 2) 0
theorem sc_Ranges__init : FnScope ["self", "parts"] ["self", "parts"] (defScope s_Ranges__init) := ⟨rfl, rfl, rfl, by decide +kernel, rfl, by decide +kernel, by decide +kernel⟩
def sp_init (C : Addr) : Sp := fun vs H Q _ => ∃ x dx t, vs = [.ref x, .ref t] ∧ H x = some (.ins C dx []) ∧ Q .non (upd H x (.ins C dx [("parts", .ref t)]))
theorem ok_init {fd : FuncData} (F : Fun K "__init__" "Ranges.__init__" s_Ranges__init fI fd) (T : ClsT K mg C fI fE) : FnOk P w K mg base CX0 1 fI fd ["self", "parts"] (sp_init C) := by
  refine F.ok sc_Ranges__init (fun vs H Q E h => ?_) (fun cdv A outer s H vs Q E hr h => ?_)
  · obtain ⟨x, dx, t, rfl, _⟩ := h
    rfl
  · obtain ⟨x, dx, t, rfl, hx, q⟩ := h
    refine ⟨_, (pss_one (ps_fld (pv 0) (pv 1) rfl)), ?_⟩
    exact ⟨_, rfl, _, rfl, x, C, dx, [], rfl, hx, T.cl, T.nP, (by show 0 < 1000; decide), q⟩
/-- the promise of __init__ where a set is made -/
abbrev spI (C : Addr) : Sp := fun vs H Q E => sp_init C (vs ++ []) H Q E
theorem mk_rng {H : Hp} {t : Addr} {ps : List Stc} {Q : VK} (hp : PartsT H t ps) (hc : Canon ps) (q : ∀ r H', Same H H' → Rng C H' r ps → Q (.ref r) H') :
    ∀ x dx, H x = none → H dx = none → dx ≠ x → spI C (V.ref x :: [.ref t]) (upd (upd H dx (.own x)) x (.ins C dx [])) (fun v H2 => v = .non ∧ Q (.ref x) H2) E0 := by
  intro x dx hx hdx hne
  refine ⟨x, dx, t, rfl, upd_same, rfl, ?_⟩
  have sm : Same H (upd (upd (upd H dx (.own x)) x (.ins C dx [])) x (.ins C dx [("parts", .ref t)])) := fun b o e => by
    rw [upd_ne (ne_of_none e hx), upd_ne (ne_of_none e hx), upd_ne (ne_of_none e hdx)]
    exact e
  exact q x _ sm ⟨dx, t, upd_same, hp.up sm, hc⟩
theorem canon_nil : Canon [] := ⟨fun s hs => by simp at hs, .nil⟩
theorem canon_one {s : Stc} (h : NE s) : Canon [s] := ⟨fun x hx => by rw [List.mem_singleton.mp hx]; exact h, List.pairwise_singleton ..⟩
/-- «a new set with the integers that g tells» -/
abbrev NewR (C : Addr) (H : Hp) (Q : VK) (n : Nat) (g : Int → Bool) : Prop := ∀ r H' ps, Same H H' → Rng C H' r ps → (∀ k, hasL ps k = g k) → ps.length ≤ n → Q (.ref r) H'
abbrev s_Ranges_between : Stmt := inClass (top 2) 2
theorem sc_Ranges_between : FnScope ["cls", "low", "high"] ["cls", "low", "high"] (defScope s_Ranges_between) := ⟨rfl, rfl, rfl, by decide +kernel, rfl, by decide +kernel, by decide +kernel⟩
def sp_between (C : Addr) : Sp := fun vs H Q _ => ∃ lo hi, vs = [.ref C, ov lo, ov hi] ∧ NewR C H Q 1 (has1 (lo, hi))
theorem ok_between {f : Addr} {fd fdI : FuncData} (F : Fun K "between" "Ranges.between" s_Ranges_between f fd) (FI : Fun K "__init__" "Ranges.__init__" s_Ranges__init fI fdI) (B_init : Binds K fdI ["self", "parts"] []) (T : ClsT K mg C fI fE) :
    FnOk P w K mg base CX0 3 f fd ["cls", "low", "high"] (sp_between C) := by
  have RI : FnR P w K mg base CX0 1 fI (spI C) := FnOk.raw (ok_init FI T) B_init .nil
  have M := T.M
  refine F.ok sc_Ranges_between (fun vs H Q E h => ?_) (fun cdv A outer s H vs Q E hr h => ?_)
  · obtain ⟨lo, hi, rfl, _⟩ := h
    rfl
  · obtain ⟨lo, hi, rfl, q⟩ := h
    refine ⟨_, (pss_cons (ps_if (PW.pt (pw_and (pt_cmpR op_notN (pv 1) pe_non (nomark _)) (pw_and (pt_cmpR op_notN (pv 2) pe_non (nomark _)) (pw_and1 (pt_cmpR op_gt (pv 1) (pv 2) (nomark _))))))
 (pss_one (ps_ret (pe_makeL (i := 0) M RI (hr.mono (by decide)) rfl (Or.inl rfl) pass0 (pa_cons (pe_tup pa_nil) pa_nil))))
 pss_nil)
 (pss_one (ps_ret (pe_makeL (i := 0) M RI (hr.mono (by decide)) rfl (Or.inl rfl) pass0 (pa_cons (pe_tup (pa_cons (pe_tup (pa_cons (pv 1) (pa_cons (pv 2) pa_nil))) pa_nil)) pa_nil))))), ?_⟩
    have full : NE (lo, hi) → tRet (tMakeL 0 C (spI C) E0 (tCons (tTup (tCons (tTup (tCons (tVar 1) (tCons (tVar 2) tNil))) tNil)) tNil)) { nx := fun _ H' => Q .non H', rt := Q } [some (.ref C), some (ov lo), some (ov hi)] H := by
      intro hn
      walk_at "rd"
      refine ⟨rfl, ?_⟩
      unfold StX.tMakeR
      walk_at "rd"
      refine ⟨size_of (Nat.le_of_ble_eq_true rfl), fun p hp => ?_⟩
      obtain ⟨H1, e1, s1, h1⟩ := new_heap (o := .tup [ov lo, ov hi]) hp
      rw [e1]
      walk_at "rd"
      refine ⟨size_of (Nat.le_of_ble_eq_true rfl), fun p' hp' => ?_⟩
      obtain ⟨H2, e2, s2, h2⟩ := new_heap (o := .tup [.ref p]) hp'
      rw [e2]
      walk_at "rd"
      refine mk_rng (ps := [(lo, hi)]) ⟨_, h2, .cons ⟨p, rfl, s2 _ _ h1⟩ .nil⟩ (canon_one hn) fun r H' s3 hr => ?_
      exact q r H' _ (fun b o z => s3 _ _ (s2 _ _ (s1 _ _ z))) hr (fun k => hasL_one _ _) (Nat.le_refl _)
    walk_at "rd"
    cases lo with
    | none =>
      refine ite_nd (fun h => absurd rfl h) fun _ => iteF ?_
      walk_at "rd"
      exact full (fun l h e => nomatch e)
    | some l =>
      refine ite_nd (fun _ => ?_) (fun h => nomatch h)
      walk_at "rd"
      cases hi with
      | none =>
        refine ite_nd (fun h => absurd rfl h) fun _ => iteF ?_
        walk_at "rd"
        exact full (fun l h _ e => nomatch e)
      | some h =>
        refine ite_nd (fun _ => ?_) (fun h => nomatch h)
        walk_at "rd"
        refine ite_d (fun hlt => ?_) (fun hge => ?_)
        · walk_at "rd"
          refine ⟨rfl, ?_⟩
          unfold StX.tMakeR
          walk_at "rd"
          refine ⟨Nat.zero_le _, fun p hp => ?_⟩
          obtain ⟨H1, e1, s1, h1⟩ := new_heap (o := .tup []) hp
          rw [e1]
          walk_at "rd"
          refine mk_rng (ps := []) ⟨_, h1, .nil⟩ canon_nil fun r H' s3 hr => ?_
          refine q r H' _ (fun b o z => s3 _ _ (s1 _ _ z)) hr (fun k => ?_) (Nat.zero_le _)
          rw [hasL_nil]
          simp only [has1]
          rw [eq_comm, Bool.and_eq_false_iff, decide_eq_false_iff_not, decide_eq_false_iff_not]
          omega
        · walk_at "rd"
          exact full (fun a b e1 e2 => by cases e1; cases e2; omega)
abbrev s_Ranges_full : Stmt := inClass (top 2) 3
theorem sc_Ranges_full : FnScope ["cls"] ["cls"] (defScope s_Ranges_full) := ⟨rfl, rfl, rfl, by decide +kernel, rfl, by decide +kernel, by decide +kernel⟩
def sp_full (C : Addr) : Sp := fun vs H Q _ => vs = [.ref C] ∧ ∀ r H', Same H H' → Rng C H' r [(none, none)] → Q (.ref r) H'
theorem ok_full {f : Addr} {fd fdI : FuncData} (F : Fun K "full" "Ranges.full" s_Ranges_full f fd) (FI : Fun K "__init__" "Ranges.__init__" s_Ranges__init fI fdI) (B_init : Binds K fdI ["self", "parts"] []) (T : ClsT K mg C fI fE) :
    FnOk P w K mg base CX0 3 f fd ["cls"] (sp_full C) := by
  have RI : FnR P w K mg base CX0 1 fI (spI C) := FnOk.raw (ok_init FI T) B_init .nil
  have M := T.M
  refine F.ok sc_Ranges_full (fun vs H Q E h => ?_) (fun cdv A outer s H vs Q E hr h => ?_)
  · obtain ⟨rfl, _⟩ := h
    rfl
  · obtain ⟨rfl, q⟩ := h
    refine ⟨_, (pss_one (ps_ret (pe_makeL (i := 0) M RI (hr.mono (by decide)) rfl (Or.inl rfl) pass0 (pa_cons (pe_tup (pa_cons (pe_tup (pa_cons pe_non (pa_cons pe_non pa_nil))) pa_nil)) pa_nil)))), ?_⟩
    walk_at "rd"
    refine ⟨rfl, ?_⟩
    unfold StX.tMakeR
    walk_at "rd"
    refine ⟨size_of (Nat.le_of_ble_eq_true rfl), fun p hp => ?_⟩
    obtain ⟨H1, e1, s1, h1⟩ := new_heap (o := .tup [.non, .non]) hp
    rw [e1]
    walk_at "rd"
    refine ⟨size_of (Nat.le_of_ble_eq_true rfl), fun p' hp' => ?_⟩
    obtain ⟨H2, e2, s2, h2⟩ := new_heap (o := .tup [.ref p]) hp'
    rw [e2]
    walk_at "rd"
    refine mk_rng (ps := [(none, none)]) ⟨_, h2, .cons ⟨p, rfl, s2 _ _ h1⟩ .nil⟩ (canon_one fun l h e => nomatch e) fun r H' s3 hr => ?_
    exact q r H' (fun b o z => s3 _ _ (s2 _ _ (s1 _ _ z))) hr
abbrev s_Ranges_empty : Stmt := inClass (top 2) 4
theorem sc_Ranges_empty : FnScope ["cls"] ["cls"] (defScope s_Ranges_empty) := ⟨rfl, rfl, rfl, by decide +kernel, rfl, by decide +kernel, by decide +kernel⟩
def sp_empty (C : Addr) : Sp := fun vs H Q _ => vs = [.ref C] ∧ ∀ r H', Same H H' → Rng C H' r [] → Q (.ref r) H'
theorem ok_empty {f : Addr} {fd fdI : FuncData} (F : Fun K "empty" "Ranges.empty" s_Ranges_empty f fd) (FI : Fun K "__init__" "Ranges.__init__" s_Ranges__init fI fdI) (B_init : Binds K fdI ["self", "parts"] []) (T : ClsT K mg C fI fE) :
    FnOk P w K mg base CX0 3 f fd ["cls"] (sp_empty C) := by
  have RI : FnR P w K mg base CX0 1 fI (spI C) := FnOk.raw (ok_init FI T) B_init .nil
  have M := T.M
  refine F.ok sc_Ranges_empty (fun vs H Q E h => ?_) (fun cdv A outer s H vs Q E hr h => ?_)
  · obtain ⟨rfl, _⟩ := h
    rfl
  · obtain ⟨rfl, q⟩ := h
    refine ⟨_, (pss_one (ps_ret (pe_makeL (i := 0) M RI (hr.mono (by decide)) rfl (Or.inl rfl) pass0 (pa_cons (pe_tup pa_nil) pa_nil)))), ?_⟩
    walk_at "rd"
    refine ⟨rfl, ?_⟩
    unfold StX.tMakeR
    walk_at "rd"
    refine ⟨Nat.zero_le _, fun p hp => ?_⟩
    obtain ⟨H1, e1, s1, h1⟩ := new_heap (o := .tup []) hp
    rw [e1]
    walk_at "rd"
    refine mk_rng (ps := []) ⟨_, h1, .nil⟩ canon_nil fun r H' s3 hr => ?_
    exact q r H' (fun b o z => s3 _ _ (s1 _ _ z)) hr
/-! ### a | b -/
abbrev s_Ranges__or : Stmt := inClass (top 2) 5
theorem sc_Ranges__or : FnScope ["self", "other"] ["self", "other"] (defScope s_Ranges__or) := ⟨rfl, rfl, rfl, by decide +kernel, rfl, by decide +kernel, by decide +kernel⟩
def sp_or (C : Addr) : Sp := fun vs H Q _ => ∃ a b ps qs, vs = [.ref a, .ref b] ∧ Rng C H a ps ∧ Rng C H b qs ∧ ps.length + qs.length ≤ 1000 ∧ NewR C H Q (ps.length + qs.length) fun k => hasL ps k || hasL qs k
theorem tups_append {H : Hp} {vs ws : List V} {ps qs : List Stc} (h : Tups H vs ps) (h' : Tups H ws qs) : Tups H (vs ++ ws) (ps ++ qs) := by
  induction h with
  | nil => exact h'
  | cons r t ih => exact .cons r ih
theorem lk_parts {t : Addr} : ([("parts", V.ref t)] : List (Str × V)).lookup ("parts" : Str) = some (V.ref t) := by
  show (match (("parts" : Str) == "parts") with | true => some (V.ref t) | false => none) = some (V.ref t)
  rw [beq_self_eq_true]
theorem ok_or {f fJ : Addr} {fd fdI fdJ : FuncData} (F : Fun K "__or__" "Ranges.__or__" s_Ranges__or f fd) (FI : Fun K "__init__" "Ranges.__init__" s_Ranges__init fI fdI) (B_init : Binds K fdI ["self", "parts"] []) (T : ClsT K mg C fI fE)
    (F_joined : Fun K "joined" "joined" s_joined fJ fdJ) (B_joined : Binds K fdJ ["stretches"] []) (g_joined : mg "joined" = some (.ref fJ)) (G_joined : FnOk P w K mg base CX0 4 fJ fdJ ["stretches"] (sp_joined K)) :
    FnOk P w K mg base CX0 5 f fd ["self", "other"] (sp_or C) := by
  have RI : FnR P w K mg base CX0 1 fI (spI C) := FnOk.raw (ok_init FI T) B_init .nil
  have M := T.M
  have g_C := T.g_C
  refine F.ok sc_Ranges__or (fun vs H Q E h => ?_) (fun cdv A outer s H vs Q E hr h => ?_)
  · obtain ⟨a, b, ps, qs, rfl, _⟩ := h
    rfl
  · obtain ⟨a, b, ps, qs, rfl, ⟨dx, t, ha, ⟨vs, ht, tu⟩, ca⟩, ⟨dy, u, hb, ⟨ws, hu, tw⟩, cb⟩, hz, q⟩ := h
    refine ⟨_, (pss_one (ps_ret (StX.pe_makeR M RI (hr.mono (by decide)) rfl g_C pass0 (pa_cons (pe_call G_joined (hr.mono (by decide)) rfl g_joined F_joined.kp B_joined .nil pass0 (pa_cons (pe_op op_catA (pe_fld (pv 0) rfl) (pe_fld (pv 1) rfl)) pa_nil)) pa_nil)))), ?_⟩
    have l1 := tups_len tu
    have l2 := tups_len tw
    have hne : ∀ s, s ∈ ps ++ qs → NE s := fun s hs => (List.mem_append.mp hs).elim (ca.ne s) (cb.ne s)
    have fin : ∀ (p : Addr) (H1 : Hp), Same H H1 → H1 p = some (.tup (vs ++ ws)) → sp_joined K [.ref p] H1 (fun v H2 => ∀ x dx, H2 x = none → H2 dx = none → dx ≠ x → spI C (V.ref x :: [v]) (upd (upd H2 dx (.own x)) x (.ins C dx [])) (fun v H2 => v = .non ∧ Q (.ref x) H2) E0) E0 := by
      intro p H1 s1 hp
      refine ⟨p, vs ++ ws, ps ++ qs, rfl, .inr (SqT.of hp), tups_append (tu.up s1) (tw.up s1), by rw [List.length_append]; exact hz, hne, fun r H2 rs s2 hr hc hm hl => ?_⟩
      refine mk_rng hr hc fun x H3 s3 hx => ?_
      exact q x H3 rs (fun b o z => s3 _ _ (s2 _ _ (s1 _ _ z))) hx (fun k => by rw [hm k, hasL_append]) (by rw [List.length_append] at hl; exact hl)
    unfold StX.tMakeR
    walk_at "rd"
    refine ⟨_, rfl, a, C, dx, _, _, rfl, ha, T.cl, T.nP, lk_parts, ?_⟩
    refine ⟨_, rfl, b, C, dy, _, _, rfl, hb, T.cl, T.nP, lk_parts, ?_⟩
    refine ⟨t, u, vs, ws, rfl, rfl, SqT.of ht, SqT.of hu, size_of (by omega), fun e => ?_, fun _ e => ?_, fun _ _ p hp => ?_⟩
    · subst e
      exact fin u H (Same.refl H) hu
    · subst e
      exact fin t H (Same.refl H) (by rw [List.append_nil]; exact ht)
    · obtain ⟨H1, e1, s1, h1⟩ := new_heap (o := .tup (vs ++ ws)) hp
      rw [e1]
      exact fin p H1 s1 h1

/-! ### Ranges.of(*numbers) -/
def singles (ns : List Int) : List Stc := ns.map fun n => (some n, some n)
abbrev s_Ranges_of : Stmt := inClass (top 2) 1
theorem sc_Ranges_of : FnScope ["cls", "numbers", "number"] ["cls", "numbers"] (defScope s_Ranges_of) := ⟨rfl, rfl, rfl, by decide +kernel, rfl, by decide +kernel, by decide +kernel⟩
def sp_ofI (C : Addr) : Sp := fun vs H Q _ => ∃ t ns, vs = [.ref C, .ref t] ∧ H t = some (.tup (ns.map V.int)) ∧ ns.length ≤ 1000 ∧ NewR C H Q ns.length (hasL (singles ns))
/-- as it is called -/
def sp_of (C : Addr) : Sp := fun vs H Q _ => ∃ ns : List Int, vs = .ref C :: ns.map V.int ∧ ns.length ≤ 1000 ∧ NewR C H Q ns.length (hasL (singles ns))
structure OInv (H0 : Hp) (t D : Addr) (ns : List Int) (i : Nat) (H : Hp) : Prop where
  ex : ∃ vs, Same H0 H ∧ H D = some (.lst vs) ∧ Tups H vs (singles (ns.take i))
theorem singles_ne (ns : List Int) : ∀ s, s ∈ singles ns → NE s := fun s hs => by
  obtain ⟨n, _, rfl⟩ := List.mem_map.mp hs
  intro l h e1 e2
  cases e1
  cases e2
  exact Int.le_refl _
theorem ok_of {f fJ : Addr} {fd fdI fdJ : FuncData} (F : Fun K "of" "Ranges.of" s_Ranges_of f fd) (FI : Fun K "__init__" "Ranges.__init__" s_Ranges__init fI fdI) (B_init : Binds K fdI ["self", "parts"] []) (T : ClsT K mg C fI fE)
    (F_joined : Fun K "joined" "joined" s_joined fJ fdJ) (B_joined : Binds K fdJ ["stretches"] []) (g_joined : mg "joined" = some (.ref fJ)) (G_joined : FnOk P w K mg base CX0 4 fJ fdJ ["stretches"] (sp_joined K)) :
    FnR P w K mg base CX0 5 f (sp_of C) := by
  have RI : FnR P w K mg base CX0 1 fI (spI C) := FnOk.raw (ok_init FI T) B_init .nil
  have M := T.M
  refine FnR.imp (F.okStar (ps := ["cls"]) (pv := "numbers") (sp := sp_ofI C) sc_Ranges_of (fun kV doc pm an cdv ct => StX.bind_star1 (B := fun us => bindArgs (PySem.W.fnOf "of" "Ranges.of" (defArgs s_Ranges_of) (defBody s_Ranges_of) (defScope s_Ranges_of) .none kV doc pm an cdv ct) ⟨us, []⟩) (fun _ => rfl) fun _ _ _ => rfl) (fun cdv A outer s H vs Q E hr h => ?_)) ?_
  · obtain ⟨t, ns, rfl, ht, hz, q⟩ := h
    refine ⟨_, (pss_one (ps_ret (pe_makeL (i := 0) M RI (hr.mono (by decide)) rfl (Or.inl rfl) pass0 (pa_cons (pe_call G_joined (hr.mono (by decide)) rfl g_joined F_joined.kp B_joined .nil pass0 (pa_cons (pe_lc (own := [("number", 2)]) (g := gName 2) (tt := tYes) rfl sc_Ranges_of.nd (pi_tup (pv 1)) (blkOk_by (own := [("number", 2)]) (N := ["cls", "numbers", "number"]) (sc := defScope s_Ranges_of) (by decide +kernel)) (fun _ _ _ _ _ => pg_name (i := 2) sc_Ranges_of.nd rfl (Or.inl rfl)) (fun _ _ _ _ _ => pts_nil) (fun _ _ _ _ _ => (pe_tup (pa_cons (pv 2) (pa_cons (pv 2) pa_nil))))) pa_nil)) pa_nil)))), ?_⟩
    walk_at "rd"
    refine ⟨rfl, ?_⟩
    unfold StX.tMakeR
    walk_at "rd"
    refine ⟨_, rfl, t, rfl, ⟨_, SqT.of ht⟩, fun D hD => ?_⟩
    obtain ⟨H1, e1, s1, h1⟩ := new_heap (o := .lst []) hD
    refine lc_tup (K := K) (a := t) (xs := ns.map V.int) (OInv H t D ns) ⟨[], by rw [e1]; exact s1, by rw [e1]; exact h1, .nil⟩ ?_ ?_ ?_
    · rintro i H' _ ⟨vs, sm, _⟩
      exact SqT.of (sm _ _ ht)
    · rintro i x H' hx ⟨vs, sm, hd, tu⟩
      have hi : i < ns.length := by
        have := (List.getElem?_eq_some_iff.mp hx).1
        simpa using this
      have ex : x = .int ns[i] := by
        rw [List.getElem?_map, List.getElem?_eq_getElem hi] at hx
        exact (Option.some.inj hx).symm
      subst ex
      walk_at "rd"
      refine ⟨rfl, i_yes (iteT ?_)⟩
      walk_at "rd"
      refine ⟨size_of (Nat.le_of_ble_eq_true rfl), fun p hp => ?_⟩
      obtain ⟨H2, e2, s2, h2⟩ := new_heap (o := .tup [.int ns[i], .int ns[i]]) hp
      rw [e2]
      have hl := tups_len tu
      have hl2 : vs.length ≤ 100000 := by
        rw [hl]
        simp only [singles, List.length_map, List.length_take]
        omega
      refine ⟨vs, s2 _ _ hd, size_lt hl2, ⟨vs ++ [.ref p], Same.mut (fun b o z => s2 _ _ (sm _ _ z)) hD, upd_same, ?_⟩⟩
      have e : singles (ns.take (i + 1)) = singles (ns.take i) ++ [(some ns[i], some ns[i])] := by
        simp only [singles, List.take_succ_eq_append_getElem hi, List.map_append, List.map_cons, List.map_nil]
      rw [e]
      exact Tups.mut (tups_snoc (tu.up s2) ⟨p, rfl, h2⟩) (s2 _ _ hd)
    · rintro H' ⟨vs, sm, hd, tu⟩
      rw [List.length_map, List.take_length] at tu
      refine ⟨D, vs, singles ns, rfl, .inl (SqL.of hd), tu, by simpa [singles] using hz, singles_ne ns, fun p H2 ps s2 hp hc hm hl => ?_⟩
      refine mk_rng hp hc fun r H3 s3 hr => ?_
      exact q r H3 ps (fun b o z => s3 _ _ (s2 _ _ (sm _ _ z))) hr hm (by simpa [singles] using hl)
  · rintro vs H Q E ⟨ns, rfl, hz, q⟩
    refine ⟨[.ref C], ns.map V.int, rfl, rfl, size_of (by rw [List.length_map]; omega), fun p hp => ?_⟩
    obtain ⟨H1, e1, s1, h1⟩ := new_heap (o := .tup (ns.map V.int)) hp
    rw [e1]
    exact ⟨p, ns, rfl, h1, hz, fun r H' ps sm hr hm hl => q r H' ps (fun b o z => sm _ _ (s1 _ _ z)) hr hm hl⟩
/-! ### ==, in, bool -/
abbrev s_Ranges__eq : Stmt := inClass (top 2) 8
theorem sc_Ranges__eq : FnScope ["self", "other"] ["self", "other"] (defScope s_Ranges__eq) := ⟨rfl, rfl, rfl, by decide +kernel, rfl, by decide +kernel, by decide +kernel⟩
def sp_eq (C : Addr) : Sp := fun vs H Q _ => ∃ a y ps k, vs = [.ref a, y] ∧ Rng C H a ps ∧ ((∃ b qs, y = .ref b ∧ Rng C H b qs ∧ k = decide (ps = qs)) ∨ (∃ T, Odd H y T ∧ k = false)) ∧ Q (.bl k) H
theorem ok_eq {fd : FuncData} (F : Fun K "__eq__" "Ranges.__eq__" s_Ranges__eq fE fd) (T : ClsT K mg C fI fE) (z_isinstance : mg "isinstance" = none) : FnOk P w K mg base CX0 1 fE fd ["self", "other"] (sp_eq C) := by
  have g_C := T.g_C
  refine F.ok sc_Ranges__eq (fun vs H Q E h => ?_) (fun cdv A outer s H vs Q E hr h => ?_)
  · obtain ⟨a, y, ps, k, rfl, _⟩ := h
    rfl
  · obtain ⟨a, y, ps, k, rfl, ra, h, q⟩ := h
    refine ⟨_, (pss_one (ps_ret (pe_and (pe_callB call_isi (by rfl) z_isinstance (by decide +kernel) (pa_cons (pv 1) (pa_cons (pe_glob rfl g_C (relR _)) pa_nil))) (pe_one (pe_cmpR (op_eqD hr.units) (pe_fld (pv 0) rfl) (pe_fld (pv 1) rfl) (nomark _)))))), ?_⟩
    walk_at "rd"
    rcases h with ⟨b, qs, rfl, rb, rfl⟩ | ⟨X, o, rfl⟩
    · refine ⟨_, _, _, _, true, rfl, .own C, rb.ty T, T.kit, true, rfl, iteT ?_⟩
      obtain ⟨dx, t, ha, pa, _⟩ := ra
      obtain ⟨dy, u, hb, pb, _⟩ := rb
      walk_at "rd"
      refine ⟨_, rfl, a, C, dx, _, _, rfl, ha, T.cl, T.nP, lk_parts, ?_⟩
      refine ⟨_, rfl, b, C, dy, _, _, rfl, hb, T.cl, T.nP, lk_parts, ?_⟩
      refine ⟨psD ps, psD qs, dp_parts pa, dp_parts pb, shaped_ps ps, shaped_ps qs, ?_⟩
      rw [eqv_psD]
      exact q
    · exact ⟨_, _, _, _, false, rfl, .own C, o.ty, T.odd o, false, rfl, iteF q⟩
abbrev s_Ranges__contains : Stmt := inClass (top 2) 9
theorem sc_Ranges__contains : FnScope ["self", "value"] ["self", "value"] (defScope s_Ranges__contains) := ⟨rfl, rfl, rfl, by decide +kernel, rfl, by decide +kernel, by decide +kernel⟩
/-- any other value, by its type -/
def Other (K : PySem.W.Frag) (H : Hp) (y : V) : Prop := ∃ t, TyX K H y t ∧ (PySem.W.kitOne K t (.type "int") = some false ∨ (PySem.W.kitOne K t (.type "int") = some true ∧ PySem.W.kitOne K t (.type "bool") = some true))
def sp_contains (K : PySem.W.Frag) (C : Addr) : Sp := fun vs H Q _ => ∃ a y ps k, vs = [.ref a, y] ∧ Rng C H a ps ∧ ((∃ n, y = .int n ∧ k = hasL ps n) ∨ (Other K H y ∧ k = false)) ∧ Q (.bl k) H
theorem ok_contains {f fN : Addr} {fd fdN : FuncData} (F : Fun K "__contains__" "Ranges.__contains__" s_Ranges__contains f fd) (T : ClsT K mg C fI fE) (z_isinstance : mg "isinstance" = none) (z_int : mg "int" = none) (z_bool : mg "bool" = none) (z_len : mg "len" = none)
    (F_in_parts : Fun K "in_parts" "in_parts" s_in_parts fN fdN) (B_in_parts : Binds K fdN ["parts", "number"] []) (g_in_parts : mg "in_parts" = some (.ref fN)) : FnOk P w K mg base CX0 2 f fd ["self", "value"] (sp_contains K C) := by
  have G_in_parts : FnOk P w K mg base CX0 1 fN fdN ["parts", "number"] sp_in_parts := ok_in_parts F_in_parts z_len
  refine F.ok sc_Ranges__contains (fun vs H Q E h => ?_) (fun cdv A outer s H vs Q E hr h => ?_)
  · obtain ⟨a, y, ps, k, rfl, _⟩ := h
    rfl
  · obtain ⟨a, y, ps, k, rfl, ra, h, q⟩ := h
    refine ⟨_, (pss_one (ps_ret (pe_and (pe_callB call_isi (by rfl) z_isinstance (by decide +kernel) (pa_cons (pv 1) (pa_cons (pe_bltn (v := .ty "int") (u := .type "int") (by rfl) z_int (by decide +kernel) rfl) pa_nil))) (pe_and (pe_not (pe_callB call_isi (by rfl) z_isinstance (by decide +kernel) (pa_cons (pv 1) (pa_cons (pe_bltn (v := .ty "bool") (u := .type "bool") (by rfl) z_bool (by decide +kernel) rfl) pa_nil)))) (pe_one (pe_call G_in_parts (hr.mono (by decide)) rfl g_in_parts F_in_parts.kp B_in_parts .nil pass0 (pa_cons (pe_fld (pv 0) rfl) (pa_cons (pv 1) pa_nil)))))))), ?_⟩
    walk_at "rd"
    rcases h with ⟨n, rfl, rfl⟩ | ⟨⟨t, ty, ho⟩, rfl⟩
    · refine ⟨_, _, _, _, true, rfl, .ty "int", .base (.int n), kit_ty (by decide +kernel), true, rfl, iteT ?_⟩
      walk_at "rd"
      refine ⟨_, _, _, _, false, rfl, .ty "bool", .base (.int n), kit_ty (by decide +kernel), false, rfl, ?_⟩
      refine ⟨true, rfl, iteT ?_⟩
      obtain ⟨dx, t, ha, pa, ca⟩ := ra
      walk_at "rd"
      refine ⟨_, rfl, a, C, dx, _, _, rfl, ha, T.cl, T.nP, lk_parts, ?_⟩
      walk_at "rd"
      exact ⟨t, ps, n, rfl, pa, ca, q⟩
    · rcases ho with h1 | ⟨h1, h2⟩
      · exact ⟨_, _, _, _, false, rfl, .ty "int", ty, h1, false, rfl, iteF q⟩
      · refine ⟨_, _, _, _, true, rfl, .ty "int", ty, h1, true, rfl, iteT ?_⟩
        walk_at "rd"
        refine ⟨_, _, _, _, true, rfl, .ty "bool", ty, h2, true, rfl, ?_⟩
        exact ⟨false, rfl, iteF q⟩
abbrev s_Ranges__bool : Stmt := inClass (top 2) 10
theorem sc_Ranges__bool : FnScope ["self"] ["self"] (defScope s_Ranges__bool) := ⟨rfl, rfl, rfl, by decide +kernel, rfl, by decide +kernel, by decide +kernel⟩
def sp_bool (C : Addr) : Sp := fun vs H Q _ => ∃ a ps, vs = [.ref a] ∧ Rng C H a ps ∧ Q (.bl (!ps.isEmpty)) H
theorem ok_bool {f : Addr} {fd : FuncData} (F : Fun K "__bool__" "Ranges.__bool__" s_Ranges__bool f fd) (T : ClsT K mg C fI fE) (z_bool : mg "bool" = none) : FnOk P w K mg base CX0 1 f fd ["self"] (sp_bool C) := by
  refine F.ok sc_Ranges__bool (fun vs H Q E h => ?_) (fun cdv A outer s H vs Q E hr h => ?_)
  · obtain ⟨a, ps, rfl, _⟩ := h
    rfl
  · obtain ⟨a, ps, rfl, ⟨dx, t, ha, ⟨vs, ht, tu⟩, _⟩, q⟩ := h
    refine ⟨_, (pss_one (ps_ret (pe_callTy call_boolT (by rfl) z_bool (by decide +kernel) (pa_cons (pe_fld (pv 0) rfl) pa_nil)))), ?_⟩
    walk_at "rd"
    refine ⟨_, rfl, a, C, dx, _, _, rfl, ha, T.cl, T.nP, lk_parts, ?_⟩
    walk_at "rd"
    refine ⟨t, vs, rfl, SqT.of ht, ?_⟩
    have e : vs.isEmpty = ps.isEmpty := by
      cases tu <;> rfl
    rw [e]
    exact q
end
end Spk

set_option Elab.async false
set_option linter.all false
set_option maxRecDepth 100000
set_option maxHeartbeats 1000000
namespace Spk
open PySem L2
local macro_rules | `(tactic| walk_at "rd") => `(tactic| repeat (first
  | with_reducible refine i_seq ?_ | with_reducible refine i_asg ?_ | with_reducible refine i_ret ?_ | with_reducible refine i_ifS ?_ | with_reducible refine i_if ?_
  | with_reducible refine i_for ?_ | with_reducible refine i_iL ?_ | with_reducible refine i_iT ?_ | with_reducible refine i_ckw ?_ | with_reducible refine i_cm ?_ | with_reducible refine And.intro (rfl : V.ref _ = V.ref _) ?_ | with_reducible refine i_rng1 ?_ | with_reducible refine i_bm ?_ | with_reducible refine i_bm0 ?_
  | with_reducible refine i_drop ?_ | with_reducible refine i_next ?_
  | with_reducible refine i_var rfl ?_ | with_reducible refine i_c ?_ | with_reducible refine i_op ?_ | with_reducible refine i_un ?_ | with_reducible refine i_name ?_
  | with_reducible refine i_rI0 ?_ | with_reducible refine i_rU ?_ | with_reducible refine i_rEq rfl ?_ | with_reducible refine i_rNe rfl ?_
  | with_reducible refine i_test ?_ | with_reducible refine i_tB ?_ | with_reducible refine i_and ?_ | with_reducible refine i_or ?_ | with_reducible refine i_not ?_
  | with_reducible refine i_andV ?_ | with_reducible refine i_orV ?_ | with_reducible refine i_notV ?_
  | with_reducible refine i_cons ?_ | with_reducible refine i_nil ?_ | with_reducible refine i_cb ?_ | with_reducible refine i_call ?_ | with_reducible refine i_bl ?_
  | with_reducible refine i_tup ?_ | with_reducible refine i_lst ?_ | with_reducible refine i_par ?_ | with_reducible refine i_gcons ?_ | with_reducible refine i_gnil ?_
  | with_reducible refine And.intro (rfl : V.non = V.non) ?_ | with_reducible refine i_ixT (by assumption) rfl ?_ | with_reducible refine i_ixL (by assumption) rfl ?_ | with_reducible refine i_gtup (by assumption) rfl ?_
  | with_reducible refine i_gsub ?_
  | with_reducible refine Or.inl (Exists.intro _ (And.intro (rfl : [V.int _] = [V.int _]) ?_)) | with_reducible refine Exists.intro _ (And.intro (rfl : [V.int _] = [V.int _]) ?_)
  | with_reducible refine Or.inr (Exists.intro _ (And.intro (rfl : [V.bl _] = [V.bl _]) ?_))
  | with_reducible refine Exists.intro _ (Exists.intro _ (And.intro (rfl : [V.int _, V.int _] = [V.int _, V.int _]) ?_))
  | with_reducible refine Exists.intro _ (Exists.intro _ (And.intro (rfl : [V.ref _] = [V.ref _]) (And.intro (Or.inl (SqL.of (by assumption))) ?_)))
  | with_reducible refine i_rI (show (0 : Int) < _ by assumption) ?_ | with_reducible refine i_rI (show (0 : Int) < _ by decide) ?_
  | with_reducible refine i_rI (pow_ok (Nat.le_of_ble_eq_true rfl) (Nat.le_of_ble_eq_true rfl)) ?_
  | with_reducible refine i_rI (cmulL rfl) ?_))
/-! ### the pen: what is drawn from the script -/
def penny : HO → Bool
  | .lst [.ref _, .int _, .int _] => true
  | _ => false
/-- all but a pen is as it was -/
def Keep (H H' : Hp) : Prop := ∀ b o, penny o = false → H b = some o → H' b = some o
theorem Keep.refl (H : Hp) : Keep H H := fun _ _ _ h => h
theorem Keep.trans {H H1 H2 : Hp} (a : Keep H H1) (b : Keep H1 H2) : Keep H H2 := fun c o p h => b c o p (a c o p h)
theorem Same.keep {H H' : Hp} (e : Same H H') : Keep H H' := fun b o _ h => e b o h
def Pen (H : Hp) (p L : Addr) (n : Nat) : Prop := ∃ (ns : List Int) (at_ lg : Int), H p = some (.lst [.ref L, .int at_, .int lg]) ∧ H L = some (.lst (ns.map V.int)) ∧ ns.length ≤ 63 ∧ 0 ≤ at_ ∧ at_ ≤ n ∧ 0 ≤ lg
theorem Pen.up {H H' : Hp} {p L : Addr} {n : Nat} (e : Same H H') (h : Pen H p L n) : Pen H' p L n := by
  obtain ⟨ns, a, l, h1, h2, r⟩ := h
  exact ⟨ns, a, l, e _ _ h1, e _ _ h2, r⟩
theorem Pen.mono {H : Hp} {p L : Addr} {n m : Nat} (h : Pen H p L n) (e : n ≤ m) : Pen H p L m := by
  obtain ⟨ns, a, l, h1, h2, h3, h4, h5, h6⟩ := h
  exact ⟨ns, a, l, h1, h2, h3, h4, by omega, h6⟩
theorem penny_ints (ns : List Int) : penny (.lst (ns.map V.int)) = false := by
  cases ns <;> rfl
/-- a pen is written anew -/
theorem pen_set {H : Hp} {p L : Addr} {ns : List Int} {a l a' l' : Int} {n : Nat} (hp : H p = some (.lst [.ref L, .int a, .int l])) (hL : H L = some (.lst (ns.map V.int))) (h1 : ns.length ≤ 63) (h2 : 0 ≤ a') (h3 : a' ≤ n) (h4 : 0 ≤ l') :
    Keep H (upd H p (.lst [.ref L, .int a', .int l'])) ∧ Pen (upd H p (.lst [.ref L, .int a', .int l'])) p L n := by
  refine ⟨fun b o hb e => ?_, ns, a', l', upd_same, ?_, h1, h2, h3, h4⟩
  · have : b ≠ p := fun z => by
      subst z
      rw [hp] at e
      cases e
      simp [penny] at hb
    rw [upd_ne this]
    exact e
  · have : L ≠ p := fun z => by
      subst z
      rw [hp] at hL
      have := penny_ints ns
      rw [← HO.lst.inj (Option.some.inj hL)] at this
      simp [penny] at this
    rw [upd_ne this]
    exact hL
theorem pen_put {H : Hp} {p L : Addr} {ns : List Int} {a l a' l' : Int} (hp : H p = some (.lst [.ref L, .int a, .int l])) (hL : H L = some (.lst (ns.map V.int))) :
    ∃ H1, upd H p (.lst [.ref L, .int a', .int l']) = H1 ∧ Keep H H1 ∧ H1 p = some (.lst [.ref L, .int a', .int l']) ∧ H1 L = some (.lst (ns.map V.int)) := by
  have : L ≠ p := fun z => by
    subst z
    rw [hp] at hL
    have := penny_ints ns
    rw [← HO.lst.inj (Option.some.inj hL)] at this
    simp [penny] at this
  refine ⟨_, rfl, fun b o hb e => ?_, upd_same, by rw [upd_ne this]; exact hL⟩
  have : b ≠ p := fun z => by
    subst z
    rw [hp] at e
    cases e
    simp [penny] at hb
  rw [upd_ne this]
  exact e
theorem dps_ints {K : PySem.W.Frag} {H : Hp} : ∀ ns : List Int, DpAll K H (ns.map V.int) (ns.map PyData.int)
  | [] => .nil
  | n :: ns => .cons (.int n) (dps_ints ns)
theorem eqv_ints : ∀ ns ms : List Int, PyData.eqvAll (ns.map PyData.int) (ms.map PyData.int) = decide (ns = ms)
  | [], [] => by simp [PyData.eqvAll]
  | [], _ :: _ => by simp [PyData.eqvAll]
  | _ :: _, [] => by simp [PyData.eqvAll]
  | a :: ns, b :: ms => by
    simp only [List.map_cons, PyData.eqvAll, PyData.eqv, eqv_ints ns ms, List.cons.injEq]
    rw [Bool.eq_iff_iff]
    simp
theorem lay_ints : ∀ ns : List Int, PyData.canLayAll0 (ns.map PyData.int) = true
  | [] => by simp [PyData.canLayAll0]
  | n :: ns => by simp [PyData.canLayAll0, PyData.canLay0, lay_ints ns]
theorem dep_ints : ∀ ns : List Int, PyData.depthAll (ns.map PyData.int) ≤ 1
  | [] => by simp [PyData.depthAll]
  | n :: ns => by
    have := dep_ints ns
    simp only [List.map_cons, PyData.depthAll, PyData.depth]
    omega
theorem shaped_ints (ns : List Int) : SeqAt.shaped (.list (ns.map PyData.int)) = true := by
  have h1 := lay_ints ns
  have h2 := dep_ints ns
  have h3 : (PyData.list (ns.map PyData.int)).depth ≤ 2 := by
    simp only [PyData.depth]
    omega
  unfold SeqAt.shaped
  rw [Bool.and_eq_true, decide_eq_true_eq]
  exact ⟨by simpa only [PyData.canLay0] using h1, by omega⟩
theorem mul_bd {a b A B : Int} (h1 : 0 ≤ a) (h2 : a ≤ A) (h3 : 0 ≤ b) (h4 : b ≤ B) : 0 ≤ a * b ∧ a * b ≤ A * B :=
  ⟨Int.mul_nonneg h1 h3, Int.mul_le_mul h2 h4 h3 (Int.le_trans h1 h2)⟩
section
variable {P : Program} {w : World} {K : PySem.W.Frag} {mg : Str → Option Value} {base : Heap}
abbrev s_pen : Stmt := top 18
theorem sc_pen : FnScope ["_law_script"] ["_law_script"] (defScope s_pen) := ⟨rfl, rfl, rfl, by decide +kernel, rfl, by decide +kernel, by decide +kernel⟩
def sp_pen (K : PySem.W.Frag) : Sp := fun vs H Q _ => ∃ a, ∃ ns : List Int, vs = [.ref a] ∧ SqL K H a (ns.map V.int) ∧ ns.length ≤ 63 ∧ ∀ p L H', Same H H' → Pen H' p L 0 → Q (.ref p) H'
theorem cut_ints (ns : List Int) (lo hi : Option Int) : ∃ ns' : List Int, cutV (ns.map V.int) lo hi = ns'.map V.int ∧ ns'.length ≤ ns.length := by
  refine ⟨(ns.drop (HT.sIx (ns.map V.int).length 0 lo)).take (HT.sIx (ns.map V.int).length (ns.map V.int).length hi - HT.sIx (ns.map V.int).length 0 lo), ?_, ?_⟩
  · unfold cutV
    rw [List.map_take, List.map_drop]
  · rw [List.length_take, List.length_drop]
    omega
theorem ok_pen {f : Addr} {fd : FuncData} (F : Fun K "_law_pen" "_law_pen" s_pen f fd) (z_list : mg "list" = none) : FnOk P w K mg base CX0 1 f fd ["_law_script"] (sp_pen K) := by
  refine F.ok sc_pen (fun vs H Q E h => ?_) (fun cdv A outer s H vs Q E hr h => ?_)
  · obtain ⟨a, ns, rfl, _⟩ := h
    rfl
  · obtain ⟨a, ns, rfl, ha, hz, q⟩ := h
    refine ⟨_, (pss_one (ps_ret (pe_lst (pa_cons (pe_callTy call_list_of (by rfl) z_list (by decide +kernel) (pa_cons (pe_slice sl_list (pv 0) po_none (po_some pe_int)) pa_nil)) (pa_cons pe_int (pa_cons pe_int pa_nil)))))), ?_⟩
    walk_at "rd"
    refine ⟨_, rfl, 63, rfl, a, _, rfl, ha, fun p hp => ?_⟩
    obtain ⟨ns', e, hl⟩ := cut_ints ns none (some 63)
    rw [e]
    obtain ⟨H1, e1, s1, h1⟩ := new_heap (o := .lst (ns'.map V.int)) hp
    rw [e1]
    walk_at "rd"
    intro l hl'
    obtain ⟨H2, e2, s2, h2⟩ := new_heap (o := .lst (ns'.map V.int)) hl'
    rw [e2]
    walk_at "rd"
    refine ⟨size_of (Nat.le_of_ble_eq_true rfl), fun r hr => ?_⟩
    obtain ⟨H3, e3, s3, h3⟩ := new_heap (o := .lst [.ref l, .int 0, .int 0]) hr
    rw [e3]
    exact q r l H3 (fun b o z => s3 _ _ (s2 _ _ (s1 _ _ z))) ⟨ns', 0, 0, h3, s3 _ _ h2, by omega, Int.le_refl _, Int.le_refl _, Int.le_refl _⟩
abbrev s_draw : Stmt := top 19
theorem sc_draw : FnScope ["_law_pen_here", "_law_many_here", "_law_digit", "_law_at", "_law_cell", "_law_large", "_law_mixed"] ["_law_pen_here", "_law_many_here"] (defScope s_draw) := ⟨rfl, rfl, rfl, by decide +kernel, rfl, by decide +kernel, by decide +kernel⟩
def sp_draw : Sp := fun vs H Q _ => ∃ p L n m, vs = [.ref p, .int m] ∧ Pen H p L n ∧ n ≤ 10000 ∧ 0 < m ∧ m ≤ 1000000000000 ∧ ∀ d H', 0 ≤ d → d < m → Keep H H' → Pen H' p L (n + 1) → Q (.int d) H'
theorem ok_draw {f : Addr} {fd : FuncData} (F : Fun K "_law_draw" "_law_draw" s_draw f fd) (z_int : mg "int" = none) (z_len : mg "len" = none) (z_abs : mg "abs" = none) : FnOk P w K mg base CX0 1 f fd ["_law_pen_here", "_law_many_here"] sp_draw := by
  refine F.ok sc_draw (fun vs H Q E h => ?_) (fun cdv A outer s H vs Q E hr h => ?_)
  · obtain ⟨p, L, n, m, rfl, _⟩ := h
    rfl
  · obtain ⟨p, L, n, m, rfl, ⟨ns, a, l, hp, hL, hz, a0, an, l0⟩, hn, m0, m1, q⟩ := h
    refine ⟨_, (pss_cons (ps_if (pt_cmpR op_gt (pe_ix ix_list (pv 0) pe_int (fun _ _ => rfl)) pe_int (nomark _))
 (pss_cons (ps_set (i := 2) sc_draw.nd rfl (Or.inl rfl) (pe_op op_mod (pe_callTy call_int1 (by rfl) z_int (by decide +kernel) (pa_cons (pe_ix ix_list (pv 0) pe_int (fun _ _ => rfl)) pa_nil)) (pv 1)))
 (pss_cons (ps_asg (pe_op op_fdivW (pe_ix ix_list (pv 0) pe_int (fun _ _ => rfl)) (pv 1)) (pg_sub (pv 0) pe_int set_list))
 (pss_one (ps_ret (pv 2)))))
 pss_nil)
 (pss_cons (ps_set (i := 3) sc_draw.nd rfl (Or.inl rfl) (pe_ix ix_list (pv 0) pe_int (fun _ _ => rfl)))
 (pss_cons (ps_asg (pe_op op_add (pv 3) pe_int) (pg_sub (pv 0) pe_int set_list))
 (pss_cons (ps_set (i := 4) sc_draw.nd rfl (Or.inl rfl) (pe_op op_add (pe_op op_mul pe_int (pv 3)) pe_int))
 (pss_cons (ps_if (pt_cmpR (op_neD hr.units) (pe_ix ix_list (pv 0) pe_int (fun _ _ => rfl)) (pe_lst pa_nil) (nomark _))
 (pss_one (ps_set (i := 4) sc_draw.nd rfl (Or.inl rfl) (pe_ix ix_list (pe_ix ix_list (pv 0) pe_int (fun _ _ => rfl)) (pe_op op_mod (pe_callTy call_int1 (by rfl) z_int (by decide +kernel) (pa_cons (pv 3) pa_nil)) (pe_callB call_len_seq (by rfl) z_len PySem.boot_len (pa_cons (pe_ix ix_list (pv 0) pe_int (fun _ _ => rfl)) pa_nil))) (fun _ _ => rfl))))
 pss_nil)
 (pss_cons (ps_if (PW.pt (pw_and (pt_cmpR op_lt (pv 3) (pe_callB call_len_seq (by rfl) z_len PySem.boot_len (pa_cons (pe_ix ix_list (pv 0) pe_int (fun _ _ => rfl)) pa_nil)) (nomark _)) (pw_and1 (pt_cmpR op_ge (pe_callB call_abs (by rfl) z_abs (by decide +kernel) (pa_cons (pv 4) pa_nil)) (pe_op op_pow pe_int pe_int) (nomark _)))))
 (pss_cons (ps_set (i := 5) sc_draw.nd rfl (Or.inl rfl) (pe_op op_add (pe_op op_mul pe_int (pe_callB call_abs (by rfl) z_abs (by decide +kernel) (pa_cons (pv 4) pa_nil))) (pe_callTy call_int1 (by rfl) z_int (by decide +kernel) (pa_cons (pe_cmpR op_lt (pv 4) pe_int (nomark _)) pa_nil))))
 (pss_cons (ps_asg (pe_op op_fdivW (pv 5) (pv 1)) (pg_sub (pv 0) pe_int set_list))
 (pss_one (ps_ret (pe_op op_mod (pe_callTy call_int1 (by rfl) z_int (by decide +kernel) (pa_cons (pv 5) pa_nil)) (pv 1))))))
 pss_nil)
 (pss_cons (ps_set (i := 6) sc_draw.nd rfl (Or.inl rfl) (pe_op op_mod (pe_op op_pow (pe_callTy call_int1 (by rfl) z_int (by decide +kernel) (pa_cons (pe_op op_add (pe_op op_add (pe_op op_mod (pe_callTy call_int1 (by rfl) z_int (by decide +kernel) (pa_cons (pv 4) pa_nil)) pe_int) (pe_op op_mul pe_int (pv 3))) pe_int) pa_nil)) pe_int) pe_int))
 (pss_cons (ps_set (i := 6) sc_draw.nd rfl (Or.inl rfl) (pe_op op_mod (pe_op op_pow (pe_callTy call_int1 (by rfl) z_int (by decide +kernel) (pa_cons (pe_op op_add (pe_op op_add (pe_op op_mul (pv 6) (pe_op op_add (pe_op op_mul pe_int (pv 3)) pe_int)) (pe_op op_mul (pe_op op_mul pe_int (pv 3)) (pv 3))) pe_int) pa_nil)) pe_int) pe_int))
 (pss_one (ps_ret (pe_op op_mod (pe_callTy call_int1 (by rfl) z_int (by decide +kernel) (pa_cons (pe_op op_fdivW (pv 6) pe_int) pa_nil)) (pv 1)))))))))))), ?_⟩
    have wd : ∀ i : Int, CDivW i m := fun i => wide_div (b := 64) m0 (by omega) (by decide) (by decide)
    walk_at "rd"
    refine ite_d (fun h => ?_) (fun h => ?_)
    · walk_at "rd"
      refine i_rI (wd _) ?_
      walk_at "rd"
      refine i_setL hp (j := 2) rfl ?_
      walk_at "rd"
      obtain ⟨k, pe⟩ := pen_set (a' := a) (l' := l / m) (n := n + 1) hp hL hz a0 (by omega) (Int.ediv_nonneg l0 (by omega))
      exact q _ _ (Int.emod_nonneg _ (by omega)) (Int.emod_lt_of_pos _ m0) k pe
    · walk_at "rd"
      refine i_setL hp (j := 1) rfl ?_
      obtain ⟨H1, e1, k1, hp1, hL1⟩ := pen_put (a' := a + 1) (l' := l) hp hL
      rw [show ([V.ref L, .int a, .int l].set 1 (.int (a + 1))) = [.ref L, .int (a + 1), .int l] from rfl, e1]
      walk_at "rd"
      refine ⟨Nat.zero_le _, fun r hr => ?_⟩
      obtain ⟨H2, e2, s2, h2⟩ := new_heap (o := .lst []) hr
      rw [e2]
      have hp2 := s2 _ _ hp1
      have hL2 := s2 _ _ hL1
      have k2 : Keep H H2 := k1.trans (Same.keep s2)
      refine ⟨.list (ns.map PyData.int), .list (([] : List Int).map PyData.int), .lst (SqL.of hL2) (dps_ints ns), .lst (SqL.of h2) .nil, shaped_ints ns, shaped_ints [], ?_⟩
      rw [show PyData.eqv (.list (ns.map PyData.int)) (.list (([] : List Int).map PyData.int)) = decide (ns = []) from eqv_ints ns []]
      -- the end of the draw, from the cell on
      have fin : ∀ (l' d : Int), 0 ≤ l' → 0 ≤ d → d < m → Q (.int d) (upd H2 p (.lst [.ref L, .int (a + 1), .int l'])) := fun l' d hl' hd0 hd1 => by
        obtain ⟨k, pe⟩ := pen_set (a' := a + 1) (l' := l') (n := n + 1) hp2 hL2 hz (by omega) (by omega) hl'
        exact q _ _ hd0 hd1 (k2.trans k) pe
      have same : upd H2 p (.lst [.ref L, .int (a + 1), .int l]) = H2 := by
        funext b
        unfold upd
        split
        · rename_i e
          rw [e, hp2]
        · rfl
      have fin0 : ∀ d : Int, 0 ≤ d → d < m → Q (.int d) H2 := fun d h0 h1 => by
        rw [← same]
        exact fin l d l0 h0 h1
      walk_at "rd"
      refine ite_nd (fun hne => ?_) (fun he => ?_)
      · walk_at "rd"
        have hpos : (0 : Int) < ((ns.map V.int).length : Int) := by
          cases ns with
          | nil => exact absurd rfl hne
          | cons x xs => simp
        refine i_rI hpos ?_
        have hlen : ((ns.map V.int).length : Int) = (ns.length : Int) := by rw [List.length_map]
        rw [hlen] at hpos ⊢
        have i0 := Int.emod_nonneg a (b := (ns.length : Int)) (by omega)
        have i1 := Int.emod_lt_of_pos a hpos
        obtain ⟨j, hj⟩ : ∃ j : Nat, a % (ns.length : Int) = (j : Int) := ⟨(a % (ns.length : Int)).toNat, by omega⟩
        rw [hj]
        have hjl : j < ns.length := by omega
        refine i_ixL hL2 (atI_nat (by rw [List.getElem?_map, List.getElem?_eq_getElem hjl]; rfl)) ?_
        generalize ns[j] = c
        walk_at "rd"
        have c0 := Int.emod_nonneg c (b := 2147483549) (by decide)
        have c1 := Int.emod_lt_of_pos c (b := 2147483549) (by decide)
        refine ite_d (fun h1 => ?_) (fun h1 => ?_)
        · walk_at "rd"
          refine ite_d (fun h2 => ?_) (fun h2 => ?_)
          · walk_at "rd"
            refine i_rI (wd _) ?_
            walk_at "rd"
            refine i_setL hp2 (j := 2) rfl ?_
            walk_at "rd"
            refine fin _ _ (Int.ediv_nonneg ?_ (by omega)) (Int.emod_nonneg _ (by omega)) (Int.emod_lt_of_pos _ m0)
            split <;> split <;> omega
          · walk_at "rd"
            refine i_rI ⟨by decide, by decide, by omega⟩ ?_
            walk_at "rd"
            generalize hx : (c % 2147483549 + 54323 * a + 25) ^ (5 : Int).toNat % 2147483579 = x
            have x0 : 0 ≤ x := by rw [← hx]; exact Int.emod_nonneg _ (by decide)
            have x1 : x < 2147483579 := by rw [← hx]; exact Int.emod_lt_of_pos _ (by decide)
            refine i_rI (.inl ⟨by omega, by omega⟩) ?_
            walk_at "rd"
            refine i_rI (.inl ⟨by omega, by omega⟩) ?_
            walk_at "rd"
            have b1 := mul_bd x0 (Int.le_of_lt x1) (b := 2 * a + 39) (B := 20100) (by omega) (by omega)
            have b2 := mul_bd (a := 70001 * a) (A := 70001 * 10001) (by omega) (by omega) a0 (B := 10001) (by omega)
            refine i_rI ⟨by decide, by decide, by omega⟩ ?_
            walk_at "rd"
            refine i_rI (wide_div (b := 8) (by decide) (by decide) (by decide) (by decide)) ?_
            walk_at "rd"
            exact fin0 _ (Int.emod_nonneg _ (by omega)) (Int.emod_lt_of_pos _ m0)
        · refine iteF ?_
          walk_at "rd"
          refine i_rI ⟨by decide, by decide, by omega⟩ ?_
          walk_at "rd"
          generalize hx : (c % 2147483549 + 54323 * a + 25) ^ (5 : Int).toNat % 2147483579 = x
          have x0 : 0 ≤ x := by rw [← hx]; exact Int.emod_nonneg _ (by decide)
          have x1 : x < 2147483579 := by rw [← hx]; exact Int.emod_lt_of_pos _ (by decide)
          refine i_rI (.inl ⟨by omega, by omega⟩) ?_
          walk_at "rd"
          refine i_rI (.inl ⟨by omega, by omega⟩) ?_
          walk_at "rd"
          have b1 := mul_bd x0 (Int.le_of_lt x1) (b := 2 * a + 39) (B := 20100) (by omega) (by omega)
          have b2 := mul_bd (a := 70001 * a) (A := 70001 * 10001) (by omega) (by omega) a0 (B := 10001) (by omega)
          refine i_rI ⟨by decide, by decide, by omega⟩ ?_
          walk_at "rd"
          refine i_rI (wide_div (b := 8) (by decide) (by decide) (by decide) (by decide)) ?_
          walk_at "rd"
          exact fin0 _ (Int.emod_nonneg _ (by omega)) (Int.emod_lt_of_pos _ m0)
      · subst he
        walk_at "rd"
        generalize 44123 * a + 11 = c
        have c0 := Int.emod_nonneg c (b := 2147483549) (by decide)
        have c1 := Int.emod_lt_of_pos c (b := 2147483549) (by decide)
        refine ite_d (fun h1 => ?_) (fun h1 => ?_)
        · walk_at "rd"
          refine ite_d (fun h2 => ?_) (fun h2 => ?_)
          · walk_at "rd"
            refine i_rI (wd _) ?_
            walk_at "rd"
            refine i_setL hp2 (j := 2) rfl ?_
            walk_at "rd"
            refine fin _ _ (Int.ediv_nonneg ?_ (by omega)) (Int.emod_nonneg _ (by omega)) (Int.emod_lt_of_pos _ m0)
            split <;> split <;> omega
          · walk_at "rd"
            refine i_rI ⟨by decide, by decide, by omega⟩ ?_
            walk_at "rd"
            generalize hx : (c % 2147483549 + 54323 * a + 25) ^ (5 : Int).toNat % 2147483579 = x
            have x0 : 0 ≤ x := by rw [← hx]; exact Int.emod_nonneg _ (by decide)
            have x1 : x < 2147483579 := by rw [← hx]; exact Int.emod_lt_of_pos _ (by decide)
            refine i_rI (.inl ⟨by omega, by omega⟩) ?_
            walk_at "rd"
            refine i_rI (.inl ⟨by omega, by omega⟩) ?_
            walk_at "rd"
            have b1 := mul_bd x0 (Int.le_of_lt x1) (b := 2 * a + 39) (B := 20100) (by omega) (by omega)
            have b2 := mul_bd (a := 70001 * a) (A := 70001 * 10001) (by omega) (by omega) a0 (B := 10001) (by omega)
            refine i_rI ⟨by decide, by decide, by omega⟩ ?_
            walk_at "rd"
            refine i_rI (wide_div (b := 8) (by decide) (by decide) (by decide) (by decide)) ?_
            walk_at "rd"
            exact fin0 _ (Int.emod_nonneg _ (by omega)) (Int.emod_lt_of_pos _ m0)
        · refine iteF ?_
          walk_at "rd"
          refine i_rI ⟨by decide, by decide, by omega⟩ ?_
          walk_at "rd"
          generalize hx : (c % 2147483549 + 54323 * a + 25) ^ (5 : Int).toNat % 2147483579 = x
          have x0 : 0 ≤ x := by rw [← hx]; exact Int.emod_nonneg _ (by decide)
          have x1 : x < 2147483579 := by rw [← hx]; exact Int.emod_lt_of_pos _ (by decide)
          refine i_rI (.inl ⟨by omega, by omega⟩) ?_
          walk_at "rd"
          refine i_rI (.inl ⟨by omega, by omega⟩) ?_
          walk_at "rd"
          have b1 := mul_bd x0 (Int.le_of_lt x1) (b := 2 * a + 39) (B := 20100) (by omega) (by omega)
          have b2 := mul_bd (a := 70001 * a) (A := 70001 * 10001) (by omega) (by omega) a0 (B := 10001) (by omega)
          refine i_rI ⟨by decide, by decide, by omega⟩ ?_
          walk_at "rd"
          refine i_rI (wide_div (b := 8) (by decide) (by decide) (by decide) (by decide)) ?_
          walk_at "rd"
          exact fin0 _ (Int.emod_nonneg _ (by omega)) (Int.emod_lt_of_pos _ m0)
end
end Spk

set_option Elab.async false
set_option linter.all false
set_option maxRecDepth 100000
set_option maxHeartbeats 2000000
namespace Spk
open PySem PySem.Spec PyProof.Rows L2
open AutoSeq1 (wpAny_loadPart')

/-! ## for i, x in enumerate(t), t a tuple -/
abbrev itO (l : Addr) : Obj := { cls := .type "tuple_iterator", data := .fields #[.ref l, .int 0 0] }
abbrev enO (k : Addr) : Obj := { cls := .type "enumerate", data := .fields #[.none, .bool false, .ref k, rawInt 0, .none, .none] }
set_option maxHeartbeats 4000000 in
theorem enum_newT (l : Addr) (items : Array Value) (n : Nat) (dd : Option Addr) (sl : Array (Option Value)) : Meets (Builtin.«enumerate.__new__» ⟨[.type "enumerate", .ref l], []⟩) (fun _ R s =>
      s.heap.get? l = some { cls := .type "tuple", dict := dd, data := .seq items n, slots := sl } ∧ R (.ok (.ret (.ref (s.heap.push (itO l)).objs.size))) { s with heap := (s.heap.push (itO l)).push (enO s.heap.objs.size) }) :=
  .of_wp fun prog w A R s h => by
    obtain ⟨hp, g, d, tk, os⟩ := s
    obtain ⟨hl, h⟩ := h
    have hT : hp.IsTuple l items := ⟨_, hl, rfl, n, rfl⟩
    have hsub := sub_enumerate
    wp_walk using wpAny_loadPart' hl
    refine wpAny_stack_any fun st => wpAny_pure ?_
    split
    · rename_i c _ _ _ _ _
      cases (c == Value.type "enumerate") <;> (wp_walk using wpAny_loadPart' hl, wpAny_pyIter_tuple hT; exact ⟨_, rfl, h⟩)
    · (wp_walk using wpAny_loadPart' hl, wpAny_pyIter_tuple hT); exact ⟨_, rfl, h⟩

theorem call_enumT {prog : Program} {w : World} {A : Around} {E : Value → Shared → Prop} {s : Shared} {l : Addr} {items : Array Value} {Q : Value → Shared → Prop} (hL : s.heap.IsTuple l items)
    (h : ∀ h', IsEnum h' (s.heap.objs.size + 1) s.heap.objs.size 0 .none → h'.IsTupleIter s.heap.objs.size l 0 → (∀ b o, s.heap.get? b = some o → h'.get? b = some o) → Q (.ref (s.heap.objs.size + 1)) { s with heap := h' }) :
    wpAny (model prog w) A (call (.type "enumerate") [.ref l]) Q E s := by
  obtain ⟨⟨c, dct, dt, sl⟩, hl, hc, n, hd⟩ := hL
  replace hc : c = .type "tuple" := hc
  replace hd : dt = .seq items n := hd
  subst hc hd
  have hz : (s.heap.push (itO l)).objs.size = s.heap.objs.size + 1 := Heap.size_push ..
  have he : IsEnum ((s.heap.push (itO l)).push (enO s.heap.objs.size)) (s.heap.objs.size + 1) s.heap.objs.size 0 .none := by
    have := Heap.get?_push_size (s.heap.push (itO l)) (o := enO s.heap.objs.size) rfl
    rw [hz] at this
    exact this
  have fin := h _ he ⟨_, Heap.get?_push_of_some _ (Heap.get?_push_size _ rfl), rfl, rfl⟩ fun b o x => Heap.get?_push_of_some _ (Heap.get?_push_of_some _ x)
  refine callType_new PySem.F.called_enumerate (by decide) (PySem.F.typeCall_enumerate_1 _) (PySem.F.newCall_enumerate_1 _) (fun obj => PySem.F.args_object_init_2 obj _) PySem.F.entry_enumerate_new (enum_newT l items n dct sl) ⟨hl, ?_⟩
  show _ ∧ _
  rw [hz]
  exact ⟨⟨_, he, rfl⟩, fin⟩
/-- the tuple at a, each item in a new pair -/
def IteT (K : PySem.W.Frag) (a : Addr) : It where
  go := fun i H => ∃ (xs : List V) (x : V), SqT K H a xs ∧ xs[i]? = some x
  yld := fun i H v H' => ∃ T x, v = .ref T ∧ H T = none ∧ H' = upd H T (.tup [.int (i : Nat), x]) ∧ ∀ xs, SqT K H a xs → xs[i]? = some x
  stop := fun i H => ∃ xs : List V, SqT K H a xs ∧ xs.length = i
theorem turn_enumT {P : Program} {w : World} {K : PySem.W.Frag} {elts : List Expr} {kk : Nat} {tpos : Pos} (a e it : Addr) :
    Turn P w K (.Tuple elts kk tpos) (IteT K a) [e, it] e (fun i h => (∃ old, IsEnum h e it ((i : Nat) : Int) old) ∧ h.IsTupleIter it a i ∧ e ≠ it ∧ a ≠ it ∧ a ≠ e) where
  mem := by simp
  obj := fun i h st b hb => by
    obtain ⟨⟨old, he⟩, ⟨o, ho, hc, hd⟩, _⟩ := st
    rcases List.mem_cons.mp hb with rfl | hb
    · exact ⟨_, he, fun v q => nomatch q⟩
    · rw [List.mem_singleton.mp hb]
      exact ⟨o, ho, fun v q => by rw [hd] at q; cases q⟩
  keep := fun i h h' st k => by
    obtain ⟨⟨old, he⟩, hi, hne⟩ := st
    exact ⟨⟨old, k e (by simp) _ he⟩, hi.at fun o q => k it (by simp) o q, hne⟩
  item := by
    intro X hP hw hK hc i pins s σ H E I hf st hg
    subst hP hw hK
    obtain ⟨⟨old, he⟩, hit, hne, hai, hae⟩ := st
    obtain ⟨xs, x, hq, hx⟩ := hg
    obtain ⟨its, rv, p, hz⟩ := I.tuple hq
    obtain ⟨u, hu, ru⟩ := rv.get hx
    have hel : e < s.heap.objs.size := Heap.lt_size he
    have hil : it < s.heap.objs.size := by
      obtain ⟨_, q, _⟩ := hit
      exact Heap.lt_size q
    have hi : i < its.toArray.size := by
      rw [List.size_toArray]
      exact (List.getElem?_eq_some_iff.mp hu).1
    have D := Draws.tuple (prog := X.prog) (w := X.w) (A := X.A.in1) (I.ok.hd hc) it a hai its.toArray
    refine wpAny_pyNext_enum_itemD D he ⟨hit, p⟩ hi hne (by simp [hne, Ne.symm hae]) fun x' h' tk hx' ho hst hT hsz hk => ?_
    have ex : x' = u := by
      have h1 : its.toArray[i]? = some u := by simpa using hu
      rw [h1] at hx'
      exact (Option.some.inj hx').symm
    subst ex
    refine ⟨_, rfl, wpAny_letOwnedTupleGo_enum (s := { s with heap := h', toks := tk + 1 }) ho fun h'' he' sb => ?_⟩
    have hT2 : h''.get? s.heap.objs.size = some { cls := .type "tuple", data := .seq #[.int i tk, x'] } := (sb.2 _ (Nat.ne_of_gt hel)).trans hT
    have new : ObjOk X.prog X.w (upd H s.heap.objs.size (.tup [.int (i : Nat), x])) h'' s.heap.objs.size (.tup [.int (i : Nat), x]) :=
      ⟨size_of (Nat.le_of_ble_eq_true rfl), [.int i tk, x'], .cons ⟨_, rfl⟩ (.cons ru .nil), ⟨_, hT2, rfl, _, rfl⟩⟩
    have keepB : ∀ b ob, b ∉ [e, it] → s.heap.get? b = some ob → h''.get? b = some ob := fun b ob hb q => by
      simp only [List.mem_cons, List.not_mem_nil, or_false, not_or] at hb
      exact (sb.2 b hb.1).trans (hk b ob hb.1 hb.2 q)
    have I1 := I.turnedNew (t' := tk + 1) (ch := [e, it]) keepB hf (Nat.le_refl _) new
    refine ⟨.ref s.heap.objs.size, _, I1, rfl, ⟨_, x, rfl, I.hok.fresh (Nat.le_refl _), rfl, fun ys hy => by rw [I.tuple_inj hy hq]; exact hx⟩, ⟨⟨x', ?_⟩, hst.1.at fun o q => (sb.2 it (Ne.symm hne)).trans q, hne, hai, hae⟩, fun b hb => ?_⟩
    · rw [show ((i + 1 : Nat) : Int) = (i : Int) + 1 from rfl]
      exact he'
    · have hb' : b < s.heap.objs.size := by
        rcases List.mem_cons.mp hb with rfl | hb
        · exact hel
        · rw [List.mem_singleton.mp hb]; exact hil
      rw [upd_ne (Nat.ne_of_lt hb')]
      exact (hf b hb).1
  done := by
    intro X hP hw hK hc i pins s σ H E I hf st hg
    subst hP hw hK
    obtain ⟨⟨old, he⟩, hit, hne, hai, hae⟩ := st
    obtain ⟨xs, hq, hx⟩ := hg
    obtain ⟨its, rv, p, hz⟩ := I.tuple hq
    obtain ⟨f0, f1, f2, f3, f4, f5⟩ := hf it (by simp)
    have D := Draws.tuple (prog := X.prog) (w := X.w) (A := X.A.in1) (I.ok.hd hc) it a hai its.toArray
    have hsz : its.toArray.size = i := by rw [List.size_toArray, ← rv.length]; exact hx
    refine wpAny_pyNext_enum_endD D he ⟨by rw [hsz]; exact hit, p⟩ fun h' eb => ⟨rfl, ?_⟩
    exact I.turned (t' := s.toks) (fun b o hb q => eb b o hb q) f0 f1 f3 f4 f5
  self := fun A i s Q E st h => by
    obtain ⟨⟨_, he⟩, _⟩ := st
    exact wpAny_pyIter_enum he h

def iEnumT (K : PySem.W.Frag) (ta : TA) : TI := fun σ H R => ta σ H fun vs H1 => ∃ a xs, vs = [.ref a] ∧ SqT K H1 a xs ∧ R (IteT K a) H1
theorem i_iET {K : PySem.W.Frag} {σ : L2.St} {H : Hp} {ts : TA} {R : It → Hp → Prop} (h : ts σ H fun vs H1 => ∃ a xs, vs = [.ref a] ∧ SqT K H1 a xs ∧ R (IteT K a) H1) : iEnumT K ts σ H R := h
theorem pi_enumT {X : Cx} {e : Expr} {ta : TA} {p pos tpos : Pos} {elts : List Expr} {kk : Nat} (hg : Gl X "enumerate") (hm : X.mg "enumerate" = none) (ha : PA X [e] ta) (hs : starEach [e] X.env = [(false, eval e X.env)] := by rfl) :
    PI X (.Tuple elts kk tpos) (.Call (.Name "enumerate" p) [e] [] pos) (iEnumT X.K ta) := by
  refine ⟨fun pins s σ H R I h => ?_⟩
  refine Call_ (ld_blt I hg hm boot_enumerate (callWith_type1 (thn (ha.run pos pins s σ H _ I h) fun us s1 ⟨vs, H1, I1, r1, q1⟩ => ?_) hs rfl))
  obtain ⟨a, xs, ex, hq, q⟩ := q1
  subst ex
  obtain ⟨u, rfl, ru⟩ := r1.one
  cases ru
  obtain ⟨its, rv, p', hz⟩ := I1.tuple hq
  have ha' : a < s1.heap.objs.size := by
    obtain ⟨o, ho, _⟩ := p'
    exact Heap.lt_size ho
  refine call_enumT p' fun h' he hit hk => wpAny_pyIter_enum he ?_
  have I2 : Inv X pins σ H1 { s1 with heap := h' } := I1.kept (t' := s1.toks) hk
  have ne1 : a ≠ s1.heap.objs.size := Nat.ne_of_lt ha'
  have ne2 : a ≠ s1.heap.objs.size + 1 := Nat.ne_of_lt (Nat.lt_succ_of_lt ha')
  refine ⟨s1.heap.objs.size + 1, [s1.heap.objs.size + 1, s1.heap.objs.size], _, _, H1, rfl, I2, turn_enumT a (s1.heap.objs.size + 1) s1.heap.objs.size, ⟨⟨.none, he⟩, hit, Nat.succ_ne_self _, ne1, ne2⟩, fun b hb => ?_, q⟩
  have hle : s1.heap.objs.size ≤ b := by
    rcases List.mem_cons.mp hb with rfl | hb
    · exact Nat.le_succ _
    · rw [List.mem_singleton.mp hb]
      exact Nat.le_refl _
  exact I1.fpOk hle (I1.hok.fresh hle)
theorem for_enumT {K : PySem.W.Frag} {a : Addr} {xs : List V} {g : TG} {tb : TS} {D : Ends} {σ : L2.St} {H : Hp} (Pv : Nat → L2.St → Hp → Prop) (h0 : Pv 0 σ H) (hl : ∀ i σ H, i ≤ xs.length → Pv i σ H → SqT K H a xs)
    (hs : ∀ i x T σ H, xs[i]? = some x → Pv i σ H → H T = none → g (.ref T) σ (upd H T (.tup [.int (i : Nat), x])) fun σ2 H2 => tb { D with nx := Pv (i + 1), ct := Pv (i + 1), bk := D.nx } σ2 H2) (hd : ∀ σ H, Pv xs.length σ H → D.nx σ H) :
    forK g tb D σ (IteT K a) H := by
  refine ⟨fun i m σ H => m = xs.length - i ∧ i ≤ xs.length ∧ Pv i σ H, ⟨_, rfl, Nat.zero_le _, h0⟩, ?_⟩
  rintro i m σ H ⟨rfl, hi, p⟩
  by_cases e : i = xs.length
  · subst e
    exact .inl ⟨⟨xs, hl _ _ _ hi p, rfl⟩, hd _ _ p⟩
  · have hlt : i < xs.length := by omega
    refine .inr ⟨⟨xs, xs[i], hl _ _ _ hi p, List.getElem?_eq_getElem hlt⟩, Pv (i + 1), fun σ' H' p' => ⟨_, ?_, rfl, hlt, p'⟩, ?_⟩
    · omega
    · rintro x H' ⟨T, y, rfl, hT, rfl, hy⟩
      exact hs i y T σ H (hy xs (hl _ _ _ hi p)) p hT
end Spk

set_option Elab.async false
set_option linter.all false
set_option maxRecDepth 100000
set_option maxHeartbeats 1000000
namespace Spk
open PySem L2
local macro_rules | `(tactic| walk_at "rd") => `(tactic| repeat (first
  | with_reducible refine i_seq ?_ | with_reducible refine i_asg ?_ | with_reducible refine i_ret ?_ | with_reducible refine i_ifS ?_ | with_reducible refine i_if ?_
  | with_reducible refine i_for ?_ | with_reducible refine i_iL ?_ | with_reducible refine i_iT ?_ | with_reducible refine i_ckw ?_ | with_reducible refine i_cm ?_ | with_reducible refine And.intro (rfl : V.ref _ = V.ref _) ?_ | with_reducible refine i_rng1 ?_ | with_reducible refine i_bm ?_ | with_reducible refine i_bm0 ?_
  | with_reducible refine i_drop ?_ | with_reducible refine i_next ?_
  | with_reducible refine i_var rfl ?_ | with_reducible refine i_c ?_ | with_reducible refine i_op ?_ | with_reducible refine i_un ?_ | with_reducible refine i_name ?_
  | with_reducible refine i_rI0 ?_ | with_reducible refine i_rU ?_ | with_reducible refine i_rEq rfl ?_ | with_reducible refine i_rNe rfl ?_
  | with_reducible refine i_test ?_ | with_reducible refine i_tB ?_ | with_reducible refine i_and ?_ | with_reducible refine i_or ?_ | with_reducible refine i_not ?_
  | with_reducible refine i_andV ?_ | with_reducible refine i_orV ?_ | with_reducible refine i_notV ?_
  | with_reducible refine i_cons ?_ | with_reducible refine i_nil ?_ | with_reducible refine i_cb ?_ | with_reducible refine i_call ?_ | with_reducible refine i_bl ?_
  | with_reducible refine i_tup ?_ | with_reducible refine i_lst ?_ | with_reducible refine i_par ?_ | with_reducible refine i_gcons ?_ | with_reducible refine i_gnil ?_
  | with_reducible refine And.intro (rfl : V.non = V.non) ?_ | with_reducible refine i_ixT (by assumption) rfl ?_ | with_reducible refine i_ixL (by assumption) rfl ?_ | with_reducible refine i_gtup (by assumption) rfl ?_
  | with_reducible refine i_gsub ?_
  | with_reducible refine Or.inl (Exists.intro _ (And.intro (rfl : [V.int _] = [V.int _]) ?_)) | with_reducible refine Exists.intro _ (And.intro (rfl : [V.int _] = [V.int _]) ?_)
  | with_reducible refine Or.inr (Exists.intro _ (And.intro (rfl : [V.bl _] = [V.bl _]) ?_))
  | with_reducible refine Exists.intro _ (Exists.intro _ (And.intro (rfl : [V.int _, V.int _] = [V.int _, V.int _]) ?_))
  | with_reducible refine Exists.intro _ (Exists.intro _ (And.intro (rfl : [V.ref _] = [V.ref _]) (And.intro (Or.inl (SqL.of (by assumption))) ?_)))
  | with_reducible refine i_rI (show (0 : Int) < _ by assumption) ?_ | with_reducible refine i_rI (show (0 : Int) < _ by decide) ?_
  | with_reducible refine i_rI (pow_ok (Nat.le_of_ble_eq_true rfl) (Nat.le_of_ble_eq_true rfl)) ?_
  | with_reducible refine i_rI (cmulL rfl) ?_))
section
variable {P : Program} {w : World} {K : PySem.W.Frag} {mg : Str → Option Value} {base : Heap}
theorem TupS.keep {H H' : Hp} {v : V} {s : Stc} (e : Keep H H') (h : TupS H v s) : TupS H' v s := by
  obtain ⟨a, rfl, h⟩ := h
  exact ⟨a, rfl, e _ _ rfl h⟩
theorem Tups.keep {H H' : Hp} {vs : List V} {ss : List Stc} (e : Keep H H') (h : Tups H vs ss) : Tups H' vs ss := Paired.mapP h fun _ _ z => z.keep e
theorem PartsT.keep {H H' : Hp} {t : Addr} {ps : List Stc} (e : Keep H H') (h : PartsT H t ps) : PartsT H' t ps := by
  obtain ⟨vs, h, z⟩ := h
  exact ⟨vs, e _ _ rfl h, z.keep e⟩
theorem Rng.keep {C : Addr} {H H' : Hp} {r : Addr} {ps : List Stc} (e : Keep H H') (h : Rng C H r ps) : Rng C H' r ps := by
  obtain ⟨dx, t, a, b, c⟩ := h
  exact ⟨dx, t, e _ _ rfl a, b.keep e, c⟩
theorem penny_tups {H : Hp} {vs : List V} {ss : List Stc} (h : Tups H vs ss) : penny (.lst vs) = false := by
  cases h with
  | nil => rfl
  | cons r t =>
    obtain ⟨a, rfl, _⟩ := r
    cases t with
    | nil => rfl
    | cons r t =>
      obtain ⟨b, rfl, _⟩ := r
      cases t <;> rfl
/-- a list of stretches -/
def StrL (H : Hp) (l : Addr) (ss : List Stc) : Prop := ∃ vs, H l = some (.lst vs) ∧ Tups H vs ss
theorem StrL.up {H H' : Hp} {l : Addr} {ss : List Stc} (e : Same H H') (h : StrL H l ss) : StrL H' l ss := by
  obtain ⟨vs, h, z⟩ := h
  exact ⟨vs, e _ _ h, z.up e⟩
theorem StrL.keep {H H' : Hp} {l : Addr} {ss : List Stc} (e : Keep H H') (h : StrL H l ss) : StrL H' l ss := by
  obtain ⟨vs, h, z⟩ := h
  exact ⟨vs, e _ _ (penny_tups z) h, z.keep e⟩
theorem dp_strL {H : Hp} {l : Addr} {ss : List Stc} (h : StrL H l ss) : Dp K H (.ref l) (.list (ss.map stD)) := by
  obtain ⟨vs, h, tu⟩ := h
  exact .lst (SqL.of h) (dps_tups tu)
theorem shaped_strL (ss : List Stc) : SeqAt.shaped (.list (ss.map stD)) = true := by
  have h1 := lay_ps ss
  have h2 := dep_ps ss
  have h3 : (PyData.list (ss.map stD)).depth ≤ 3 := by
    simp only [PyData.depth]
    omega
  unfold SeqAt.shaped
  rw [Bool.and_eq_true, decide_eq_true_eq]
  exact ⟨by simpa only [PyData.canLay0] using h1, by omega⟩
theorem eqv_strL (ss ts : List Stc) : PyData.eqv (.list (ss.map stD)) (.list (ts.map stD)) = decide (ss = ts) := eqvAll_ps ss ts
theorem Keep.mut {H0 H : Hp} {d : Addr} {o : HO} (e : Keep H0 H) (h : H0 d = none) : Keep H0 (upd H d o) := fun b u hu hb => by
  rw [upd_ne (ne_of_none hb h)]
  exact e b u hu hb
/-- a list of ours is changed -/
theorem Pen.mut {H : Hp} {p L d : Addr} {n : Nat} {vs ws : List V} {ss : List Stc} (h : Pen H p L n) (hd : H d = some (.lst vs)) (hv : Tups H vs ss) (hne : L ≠ d) : Pen (upd H d (.lst ws)) p L n := by
  obtain ⟨ns, a, l, h1, h2, r⟩ := h
  have hp : p ≠ d := fun z => by
    subst z
    rw [h1] at hd
    cases hd
    have := penny_tups hv
    simp [penny] at this
  exact ⟨ns, a, l, by rw [upd_ne hp]; exact h1, by rw [upd_ne hne]; exact h2, r⟩
theorem Pen.ne {H : Hp} {p L d : Addr} {n : Nat} (h : Pen H p L n) (hd : H d = none) : L ≠ d := by
  obtain ⟨ns, a, l, h1, h2, r⟩ := h
  exact ne_of_none h2 hd
theorem item_of {H : Hp} {vs : List V} {ss : List Stc} (tu : Tups H vs ss) {i : Nat} {x : V} (hx : vs[i]? = some x) : ∃ (hi : i < ss.length) (c : Addr), x = .ref c ∧ H c = some (.tup [ov ss[i].1, ov ss[i].2]) := by
  have hi : i < ss.length := by
    have := (List.getElem?_eq_some_iff.mp hx).1
    have := tups_len tu
    omega
  obtain ⟨v, hv, c, e, hc⟩ := tups_get tu hi
  rw [hx] at hv
  cases hv
  exact ⟨hi, c, e, hc⟩
end
/-- an operator of two forms -/
theorem op_or2 {X : Cx} {f : Value → Value → Sem Value} {r1 r2 : R2} (h1 : OpR X f r1) (h2 : OpR X f r2) : OpR X f (fun x y H Q => r1 x y H Q ∨ r2 x y H Q) := fun pins s σ H x y v u Q I rx ry h =>
  h.elim (fun z => h1 pins s σ H x y v u Q I rx ry z) fun z => h2 pins s σ H x y v u Q I rx ry z
/-- what the text says of the class's methods as they are called from outside -/
structure ClsM (K : PySem.W.Frag) (C : Addr) (mc : Value) (pe pb po pf ge gb go gf fO : Addr) : Prop where
  rd : ClX.CRead K C mc
  empty : ClX.CMet K C mc "empty" pe ge
  between : ClX.CMet K C mc "between" pb gb
  of : ClX.CMet K C mc "of" po go
  full : ClX.CMet K C mc "full" pf gf
  self : PySem.W.selfFirst K C = true
  orF : PySem.W.findIn K (.ref C) "__or__" = some (some (.ref fO))
  orI : PySem.W.isFn K (.ref fO) = true
/-- what the text says of in and bool -/
structure ClsK (K : PySem.W.Frag) (C fN fB : Addr) : Prop where
  inF : PySem.W.findIn K (.ref C) "__contains__" = some (some (.ref fN))
  inI : PySem.W.isFn K (.ref fN) = true
  boF : PySem.W.findIn K (.ref C) "__bool__" = some (some (.ref fB))
  boI : PySem.W.isFn K (.ref fB) = true
section
variable {P : Program} {w : World} {K : PySem.W.Frag} {mg : Str → Option Value} {base : Heap} {C fI fE : Addr} {mc : Value} {pe pb po pf ge gb go gf fO : Addr}
/-- the promises of the class, as they are called -/
structure ClsR (P : Program) (w : World) (K : PySem.W.Frag) (mg : Str → Option Value) (base : Heap) (C ge gb go gf fO fE : Addr) : Prop where
  empty : FnR P w K mg base CX0 3 ge (fun vs H Q E => sp_empty C (vs ++ []) H Q E)
  between : FnR P w K mg base CX0 3 gb (fun vs H Q E => sp_between C (vs ++ []) H Q E)
  of : FnR P w K mg base CX0 5 go (sp_of C)
  full : FnR P w K mg base CX0 3 gf (fun vs H Q E => sp_full C (vs ++ []) H Q E)
  or : FnR P w K mg base CX0 5 fO (fun vs H Q E => sp_or C (vs ++ []) H Q E)
  eq : FnR P w K mg base CX0 1 fE (fun vs H Q E => sp_eq C (vs ++ []) H Q E)
theorem tups_erase {H : Hp} : ∀ {vs : List V} {ss : List Stc} (k : Nat), Tups H vs ss → Tups H (vs.eraseIdx k) (ss.eraseIdx k)
  | _, _, _, .nil => .nil
  | _, _, 0, .cons _ t => t
  | _, _, k + 1, .cons r t => .cons r (tups_erase k t)
theorem hasL_erase : ∀ {ss : List Stc} {k : Nat} (h : k < ss.length) (n : Int), hasL ss n = (has1 ss[k] n || hasL (ss.eraseIdx k) n)
  | s :: ss, 0, _, n => by simp [hasL_cons]
  | s :: ss, k + 1, h, n => by
    rw [hasL_cons, hasL_erase (ss := ss) (k := k) (by simpa using h) n, List.eraseIdx_cons_succ, hasL_cons, List.getElem_cons_succ]
    cases has1 s n <;> simp
theorem seq_ix {n : Nat} {d : Int} (h0 : 0 ≤ d) (h1 : d < n) : seqIndex? d n = some d.toNat := by
  refine (ixN_seq (j := d.toNat) ?_).1
  unfold ixN
  rw [if_pos h0, if_pos h1]
theorem Rng.mut {H : Hp} {r d : Addr} {vs ws : List V} {ps : List Stc} (h : Rng C H r ps) (hd : H d = some (.lst vs)) : Rng C (upd H d (.lst ws)) r ps := by
  obtain ⟨dx, t, a, ⟨us, b, tu⟩, c⟩ := h
  refine ⟨dx, t, ?_, ⟨us, ?_, tu.mut hd⟩, c⟩
  · rw [upd_ne (ne_of a hd (by intro z; cases z))]
    exact a
  · rw [upd_ne (ne_of b hd (by intro z; cases z))]
    exact b
end
end Spk

set_option linter.all false
namespace Spk
/-! ### the gaps of a set's parts -/
def fromB (low : Option Int) (n : Int) : Bool := match low with
  | none => true
  | some c => decide (c ≤ n)
def gapAt (low first : Option Int) : List Stc := match first with
  | none => []
  | some a => [(low, some (a - 1))]
def gapsF : Option Int → List Stc → List Stc
  | low, [] => [(low, none)]
  | low, (first, last) :: ps => gapAt low first ++ match last with
    | none => []
    | some b => gapsF (some (b + 1)) ps
/-- all parts begin behind low -/
def Behind (low : Option Int) (ps : List Stc) : Prop := ∀ c, low = some c → ∀ s, s ∈ ps → ∃ a, s.1 = some a ∧ c < a
theorem behind_has {c : Int} {ps : List Stc} (h : Behind (some c) ps) {n : Int} (hn : hasL ps n = true) : c < n := by
  unfold hasL at hn
  obtain ⟨s, hs, h1⟩ := List.any_eq_true.mp hn
  obtain ⟨a, e, ca⟩ := h c rfl s hs
  obtain ⟨x, y⟩ := s
  cases e
  cases y <;> simp [has1] at h1 <;> omega
theorem Canon.tail {s : Stc} {ps : List Stc} (h : Canon (s :: ps)) : Canon ps := ⟨fun x hx => h.ne x (by simp [hx]), (List.pairwise_cons.mp h.ap).2⟩
structure GapsOk (low : Option Int) (ps : List Stc) : Prop where
  has : ∀ n, hasL (gapsF low ps) n = (fromB low n && !hasL ps n)
  canon : Canon (gapsF low ps)
  at_ : ∀ c, low = some c → ∀ g, g ∈ gapsF low ps → ∃ a, g.1 = some a ∧ c ≤ a
  len : (gapsF low ps).length ≤ ps.length + 1
theorem canon_single {s : Stc} (h : NE s) : Canon [s] := ⟨fun x hx => by rw [List.mem_singleton.mp hx]; exact h, List.pairwise_singleton ..⟩
theorem gaps_ok : ∀ (ps : List Stc) (low : Option Int), Canon ps → Behind low ps → GapsOk low ps
  | [], low, _, _ => by
    refine ⟨fun n => ?_, canon_single fun l h e1 e2 => ?_, fun c e g hg => ?_, Nat.le_refl _⟩
    · cases low <;> simp [gapsF, hasL, has1, fromB]
    · cases e2
    · rw [gapsF, List.mem_singleton] at hg
      subst hg e
      exact ⟨c, rfl, Int.le_refl _⟩
  | (first, none) :: ps, low, hc, hb => by
    have e : ps = [] := by
      cases ps with
      | nil => rfl
      | cons t ps =>
        obtain ⟨x, y, e1, _⟩ := (List.pairwise_cons.mp hc.ap).1 t (by simp)
        cases e1
    subst e
    cases first with
    | none =>
      refine ⟨fun n => ?_, ⟨fun s hs => ?_, .nil⟩, fun c e g hg => ?_, by simp [gapsF, gapAt]⟩
      · simp [gapsF, gapAt, hasL, has1]
      · simp [gapsF, gapAt] at hs
      · simp [gapsF, gapAt] at hg
    | some a =>
      have hlow : ∀ c, low = some c → c < a := fun c e => by
        obtain ⟨a', e', h⟩ := hb c e (some a, none) (by simp)
        cases e'
        exact h
      refine ⟨fun n => ?_, canon_single fun l h e1 e2 => ?_, fun c e g hg => ?_, by simp [gapsF, gapAt]⟩
      · rw [Bool.eq_iff_iff]
        cases low <;> simp [gapsF, gapAt, hasL, has1, fromB] <;> omega
      · cases e2
        have := hlow l e1
        omega
      · rw [gapsF, gapAt, List.append_nil, List.mem_singleton] at hg
        subst hg e
        exact ⟨c, rfl, Int.le_refl _⟩
  | (first, some b) :: ps, low, hc, hb => by
    have hb' : Behind (some (b + 1)) ps := fun c e s hs => by
      cases e
      obtain ⟨x, y, e1, e2, h⟩ := (List.pairwise_cons.mp hc.ap).1 s hs
      cases e1
      exact ⟨y, e2, h⟩
    have ih := gaps_ok ps (some (b + 1)) hc.tail hb'
    have hz := ih.len
    cases first with
    | none =>
      have el : low = none := by
        cases low with
        | none => rfl
        | some c =>
          obtain ⟨a', e', h⟩ := hb c rfl (none, some b) (by simp)
          cases e'
      subst el
      refine ⟨fun n => ?_, ih.canon, (fun c e => nomatch e), ?_⟩
      · show hasL (gapsF (some (b + 1)) ps) n = _
        rw [ih.has n, hasL_cons, Bool.eq_iff_iff]
        cases q : hasL ps n with
        | true => simp [fromB]
        | false =>
          simp [fromB, has1]
          omega
      · show (gapsF (some (b + 1)) ps).length ≤ _
        simp only [List.length_cons]
        omega
    | some a =>
      have hab : a ≤ b := hc.ne (some a, some b) (by simp) a b rfl rfl
      have hlow : ∀ c, low = some c → c < a := fun c e => by
        obtain ⟨a', e', h⟩ := hb c e (some a, some b) (by simp)
        cases e'
        exact h
      have eg : gapsF low ((some a, some b) :: ps) = (low, some (a - 1)) :: gapsF (some (b + 1)) ps := rfl
      refine ⟨fun n => ?_, ⟨fun s hs => ?_, ?_⟩, fun c e g hg => ?_, ?_⟩
      · rw [eg, hasL_cons, ih.has n, hasL_cons, Bool.eq_iff_iff]
        cases q : hasL ps n with
        | true =>
          have := behind_has hb' q
          cases low <;> simp [fromB, has1] <;> omega
        | false =>
          cases low with
          | none =>
            simp [fromB, has1]
            omega
          | some c =>
            have := hlow c rfl
            simp [fromB, has1]
            omega
      · rw [eg, List.mem_cons] at hs
        rcases hs with rfl | hs
        · intro l h e1 e2
          cases e2
          have := hlow l e1
          omega
        · exact ih.canon.ne s hs
      · rw [eg, List.pairwise_cons]
        refine ⟨fun g hg => ?_, ih.canon.ap⟩
        obtain ⟨x, e, hx⟩ := ih.at_ _ rfl g hg
        exact ⟨a - 1, x, rfl, e, by omega⟩
      · rw [eg, List.mem_cons] at hg
        subst e
        rcases hg with rfl | hg
        · exact ⟨c, rfl, Int.le_refl _⟩
        · obtain ⟨x, e, hx⟩ := ih.at_ _ rfl g hg
          have := hlow c rfl
          exact ⟨x, e, by omega⟩
      · rw [eg]
        simp only [List.length_cons]
        omega
theorem gaps_has {ps : List Stc} (h : Canon ps) (n : Int) : hasL (gapsF none ps) n = !hasL ps n := by
  rw [(gaps_ok ps none h fun _ e => nomatch e).has n]
  rfl
end Spk

set_option Elab.async false
set_option linter.all false
set_option maxRecDepth 100000
set_option maxHeartbeats 1000000
namespace Spk
open PySem PySem.Spec PyProof.Rows PySem.W L2
/-! ## not a, a an instance with its own __bool__ -/
section
variable {X : Cx} {n : Nat} {C f : Addr} {sp : Sp} {a : Expr} {ta : TE} {pos : Pos}
def tNotO (C : Addr) (sp : Sp) (ta : TE) : TE := fun σ H Q => ta σ H fun x H1 => rTruO C sp x H1 fun k H2 => Q (.bl (!k)) H2
theorem pe_notO (F : FnR X.prog X.w X.K X.mg X.base CX0 n f sp) (hr : Room n X.A) (hs : findIn X.K (.ref C) "__bool__" = some (some (.ref f))) (hf : isFn X.K (.ref f) = true) (ha : PE X a ta) : PE X (.UnaryOp .Not a pos) (tNotO C sp ta) := by
  refine ⟨fun pins s σ H Q I h => ?_⟩
  refine UnaryOp_ (thn (ha.run pins s σ H _ I h) fun v s1 ⟨x, H1, I1, r1, q1⟩ => ?_)
  exact not_of (thn (truthy_own F (sub0 hr) hs hf I1 r1 q1) fun c s2 ⟨H2, I2, q2⟩ => ⟨.bl (!c), H2, I2, rfl, q2⟩)
end
end Spk

set_option Elab.async false
set_option linter.all false
set_option maxRecDepth 100000
set_option maxHeartbeats 1000000
namespace Spk
open PySem L2
local macro_rules | `(tactic| walk_at "rd") => `(tactic| repeat (first
  | with_reducible refine i_seq ?_ | with_reducible refine i_asg ?_ | with_reducible refine i_ret ?_ | with_reducible refine i_ifS ?_ | with_reducible refine i_if ?_
  | with_reducible refine i_for ?_ | with_reducible refine i_iL ?_ | with_reducible refine i_iT ?_ | with_reducible refine i_ckw ?_ | with_reducible refine i_cm ?_ | with_reducible refine And.intro (rfl : V.ref _ = V.ref _) ?_ | with_reducible refine i_rng1 ?_ | with_reducible refine i_bm ?_ | with_reducible refine i_bm0 ?_
  | with_reducible refine i_drop ?_ | with_reducible refine i_next ?_
  | with_reducible refine i_var rfl ?_ | with_reducible refine i_c ?_ | with_reducible refine i_op ?_ | with_reducible refine i_un ?_ | with_reducible refine i_name ?_
  | with_reducible refine i_rI0 ?_ | with_reducible refine i_rU ?_ | with_reducible refine i_rEq rfl ?_ | with_reducible refine i_rNe rfl ?_
  | with_reducible refine i_test ?_ | with_reducible refine i_tB ?_ | with_reducible refine i_and ?_ | with_reducible refine i_or ?_ | with_reducible refine i_not ?_
  | with_reducible refine i_andV ?_ | with_reducible refine i_orV ?_ | with_reducible refine i_notV ?_
  | with_reducible refine i_cons ?_ | with_reducible refine i_nil ?_ | with_reducible refine i_cb ?_ | with_reducible refine i_call ?_ | with_reducible refine i_bl ?_
  | with_reducible refine i_tup ?_ | with_reducible refine i_lst ?_ | with_reducible refine i_par ?_ | with_reducible refine i_gcons ?_ | with_reducible refine i_gnil ?_
  | with_reducible refine And.intro (rfl : V.non = V.non) ?_ | with_reducible refine i_ixT (by assumption) rfl ?_ | with_reducible refine i_ixL (by assumption) rfl ?_ | with_reducible refine i_gtup (by assumption) rfl ?_
  | with_reducible refine i_gsub ?_
  | with_reducible refine Or.inl (Exists.intro _ (And.intro (rfl : [V.int _] = [V.int _]) ?_)) | with_reducible refine Exists.intro _ (And.intro (rfl : [V.int _] = [V.int _]) ?_)
  | with_reducible refine Or.inr (Exists.intro _ (And.intro (rfl : [V.bl _] = [V.bl _]) ?_))
  | with_reducible refine Exists.intro _ (Exists.intro _ (And.intro (rfl : [V.int _, V.int _] = [V.int _, V.int _]) ?_))
  | with_reducible refine Exists.intro _ (Exists.intro _ (And.intro (rfl : [V.ref _] = [V.ref _]) (And.intro (Or.inl (SqL.of (by assumption))) ?_)))
  | with_reducible refine i_rI (show (0 : Int) < _ by assumption) ?_ | with_reducible refine i_rI (show (0 : Int) < _ by decide) ?_
  | with_reducible refine i_rI (pow_ok (Nat.le_of_ble_eq_true rfl) (Nat.le_of_ble_eq_true rfl)) ?_
  | with_reducible refine i_rI (cmulL rfl) ?_))
section
variable {P : Program} {w : World} {K : PySem.W.Frag} {mg : Str → Option Value} {base : Heap} {C fI fE : Addr} {mc : Value} {pe pb po pf ge gb go gf fO : Addr}
theorem gapAt_len (low first : Option Int) : (gapAt low first).length ≤ 1 := by
  cases first <;> simp [gapAt]
theorem gapsF_len : ∀ (ps : List Stc) (low : Option Int), (gapsF low ps).length ≤ ps.length + 1
  | [], _ => Nat.le_refl _
  | (first, last) :: ps, low => by
    have h1 := gapAt_len low first
    simp only [gapsF, List.length_append, List.length_cons]
    cases last with
    | none =>
      simp only [List.length_nil]
      omega
    | some b =>
      have h2 := gapsF_len ps (some (b + 1))
      dsimp only
      omega
structure GInv (H0 : Hp) (t d : Addr) (ps : List Stc) (i : Nat) (σ : L2.St) (H : Hp) : Prop where
  ex : ∃ (vs : List V) (G : List Stc) (low : Option Int) (x y : Option V), σ = [some (.ref t), some (.ref d), some (ov low), x, y] ∧ Same H0 H ∧ H d = some (.lst vs) ∧ Tups H vs G ∧ gapsF none ps = G ++ gapsF low (ps.drop i) ∧ G.length ≤ i
abbrev s_gaps : Stmt := top 7
theorem sc_gaps : FnScope ["parts", "found", "low", "first", "last"] ["parts"] (defScope s_gaps) := ⟨rfl, rfl, rfl, by decide +kernel, rfl, by decide +kernel, by decide +kernel⟩
def sp_gaps : Sp := fun vs H Q _ => ∃ t ps, vs = [.ref t] ∧ PartsT H t ps ∧ ps.length ≤ 2000 ∧ ∀ p H', Same H H' → PartsT H' p (gapsF none ps) → Q (.ref p) H'
theorem ok_gaps {f : Addr} {fd : FuncData} (F : Fun K "gaps" "gaps" s_gaps f fd) (z_tuple : mg "tuple" = none) : FnOk P w K mg base CX0 1 f fd ["parts"] sp_gaps := by
  refine F.ok sc_gaps (fun vs H Q E h => ?_) (fun cdv A outer s H vs Q E hr h => ?_)
  · obtain ⟨t, ps, rfl, _⟩ := h
    rfl
  · obtain ⟨t, ps, rfl, ⟨us, ht, tu⟩, hz, q⟩ := h
    refine ⟨_, (pss_cons (ps_set (i := 1) sc_gaps.nd rfl (Or.inl rfl) (pe_lst pa_nil))
 (pss_cons (ps_set (i := 2) sc_gaps.nd rfl (Or.inl rfl) pe_non)
 (pss_cons (ps_for PassesOwn.never rfl (pi_tup (pv 0)) (pg_tup (by rfl) (pgs_cons (pg_name (i := 3) sc_gaps.nd rfl (Or.inl rfl)) (pgs_cons (pg_name (i := 4) sc_gaps.nd rfl (Or.inl rfl)) pgs_nil)))
 (C8.pss_cut (ps_if (pt_cmpR op_notN (pv 3) pe_non (nomark _))
 (pss_one (ps_expr (pe_bm PySem.F.plainAttrs_list PySem.F.slot_list_append PySem.F.type_list_append mt_append (pv 1) (pa_cons (pe_tup (pa_cons (pv 2) (pa_cons (pe_op op_sub (pv 3) pe_int) pa_nil))) pa_nil))))
 pss_nil)
 (pss_cons (ps_if (pt_cmpR op_isN (pv 4) pe_non (nomark _))
 (pss_one (ps_ret (pe_callTy call_tuple_of (by rfl) z_tuple (by decide +kernel) (pa_cons (pv 1) pa_nil))))
 pss_nil)
 (pss_one (ps_set (i := 2) sc_gaps.nd rfl (Or.inl rfl) (pe_op op_add (pv 4) pe_int))))))
 (pss_cons (ps_expr (pe_bm PySem.F.plainAttrs_list PySem.F.slot_list_append PySem.F.type_list_append mt_append (pv 1) (pa_cons (pe_tup (pa_cons (pv 2) (pa_cons pe_non pa_nil))) pa_nil)))
 (pss_one (ps_ret (pe_callTy call_tuple_of (by rfl) z_tuple (by decide +kernel) (pa_cons (pv 1) pa_nil)))))))), ?_⟩
    have hlen := tups_len tu
    walk_at "rd"
    refine ⟨Nat.zero_le _, fun d hd0 => ?_⟩
    obtain ⟨H1, e1, s1, hd⟩ := new_heap (o := .lst []) hd0
    rw [e1]
    walk_at "rd"
    refine ⟨t, rfl, ⟨_, SqT.of (s1 _ _ ht)⟩, for_tup (K := K) (a := t) (xs := us) (GInv H t d ps) ⟨[], [], none, none, none, rfl, s1, hd, .nil, rfl, Nat.le_refl _⟩ ?_ ?_ ?_⟩
    · rintro i σ H' _ ⟨vs, G, low, x, y, _, sm, _⟩
      exact SqT.of (sm _ _ ht)
    · rintro i x σ H' hx ⟨vs, G, low, y, z, rfl, sm, hd2, tg, eg, hG⟩
      obtain ⟨hi, c, rfl, hc⟩ := item_of tu hx
      have hc' := sm _ _ hc
      rw [List.drop_eq_getElem_cons hi] at eg
      generalize hs : ps[i] = sx at *
      obtain ⟨first, last⟩ := sx
      dsimp only at hc'
      have gl := tups_len tg
      have g1 := gapAt_len low first
      walk_at "rd"
      refine ⟨fun σ' H' => ∃ (vs2 : List V), σ' = [some (.ref t), some (.ref d), some (ov low), some (ov first), some (ov last)] ∧ Same H H' ∧ H' d = some (.lst vs2) ∧ Tups H' vs2 (G ++ gapAt low first), ?_, ?_⟩
      · walk_at "rd"
        cases first with
        | none =>
          refine ite_nd (fun h => absurd rfl h) (fun _ => ?_)
          walk_at "rd"
          exact ⟨vs, rfl, sm, hd2, by rw [gapAt, List.append_nil]; exact tg⟩
        | some a =>
          refine ite_nd (fun _ => ?_) (fun h => nomatch h)
          walk_at "rd"
          refine i_tyL hd2 ?_
          walk_at "rd"
          refine ⟨size_of (Nat.le_of_ble_eq_true rfl), fun q2 hq2 => ?_⟩
          obtain ⟨H3, e3, s3, h3⟩ := new_heap (o := .tup [ov low, .int (a - 1)]) hq2
          rw [e3]
          walk_at "rd"
          refine i_app (s3 _ _ hd2) (by omega) ?_
          walk_at "rd"
          exact ⟨vs ++ [.ref q2], rfl, Same.mut (fun b o z => s3 _ _ (sm _ _ z)) hd0, upd_same, Tups.mut (tups_snoc (tg.up s3) ⟨q2, rfl, h3⟩) (s3 _ _ hd2)⟩
      · rintro σ' H2 ⟨vs2, rfl, sm2, hd3, tg2⟩
        walk_at "rd"
        cases last with
        | none =>
          refine ite_d (fun _ => ?_) (fun h => absurd rfl h)
          walk_at "rd"
          refine ⟨d, vs2, rfl, .inl ⟨SqL.of hd3, fun p6 hp6 => ?_⟩⟩
          obtain ⟨H6, e6, s6, h6⟩ := new_heap (o := .tup vs2) hp6
          rw [e6]
          refine q p6 H6 (fun b o z => s6 _ _ (sm2 _ _ z)) ⟨vs2, h6, ?_⟩
          rw [eg]
          simp only [gapsF, List.append_nil]
          exact tg2.up s6
        | some b =>
          refine ite_d (fun h => nomatch h) (fun _ => ?_)
          walk_at "rd"
          refine ⟨vs2, G ++ gapAt low first, some (b + 1), _, _, rfl, sm2, hd3, tg2, ?_, ?_⟩
          · rw [eg, List.append_assoc]
            rfl
          · rw [List.length_append]
            omega
    · rintro σ H' ⟨vs, G, low, y, z, rfl, sm, hd2, tg, eg, hG⟩
      have gl := tups_len tg
      rw [hlen, List.drop_length] at eg
      walk_at "rd"
      refine i_tyL hd2 ?_
      walk_at "rd"
      refine ⟨size_of (Nat.le_of_ble_eq_true rfl), fun q2 hq2 => ?_⟩
      obtain ⟨H3, e3, s3, h3⟩ := new_heap (o := .tup [ov low, .non]) hq2
      rw [e3]
      walk_at "rd"
      refine i_app (s3 _ _ hd2) (by omega) ?_
      walk_at "rd"
      refine ⟨d, vs ++ [.ref q2], rfl, .inl ⟨SqL.of upd_same, fun p6 hp6 => ?_⟩⟩
      obtain ⟨H6, e6, s6, h6⟩ := new_heap (o := .tup (vs ++ [.ref q2])) hp6
      rw [e6]
      have sm4 : Same H (upd H3 d (.lst (vs ++ [.ref q2]))) := Same.mut (fun b o z => s3 _ _ (sm _ _ z)) hd0
      refine q p6 H6 (fun b o z => s6 _ _ (sm4 _ _ z)) ⟨_, h6, ?_⟩
      rw [eg]
      exact (Tups.mut (tups_snoc (tg.up s3) ⟨q2, rfl, h3⟩) (s3 _ _ hd2)).up s6
/-! ### a & b, a - b, a.is_within(b) -/
abbrev s_Ranges__and : Stmt := inClass (top 2) 6
theorem sc_Ranges__and : FnScope ["self", "other"] ["self", "other"] (defScope s_Ranges__and) := ⟨rfl, rfl, rfl, by decide +kernel, rfl, by decide +kernel, by decide +kernel⟩
def sp_and (C : Addr) : Sp := fun vs H Q _ => ∃ a b ps qs, vs = [.ref a, .ref b] ∧ Rng C H a ps ∧ Rng C H b qs ∧ ps.length + qs.length ≤ 900 ∧ NewR C H Q (ps.length + qs.length + 3) fun k => hasL ps k && hasL qs k
theorem gaps_canon {ps : List Stc} (h : Canon ps) : Canon (gapsF none ps) := (gaps_ok ps none h fun _ e => nomatch e).canon
/-- the end of both: gaps of the joined parts -/
theorem cut_fin {H : Hp} {fd fdJ fdI : FuncData} {t u : Addr} {us vs : List V} {ps qs : List Stc} {Q : VK} (ht : H t = some (.tup us)) (hu : H u = some (.tup vs)) (tu : Tups H us ps) (tv : Tups H vs qs) (cp : Canon ps) (cq : Canon qs) (hz : ps.length + qs.length ≤ 1000)
    (q : NewR C H Q (ps.length + qs.length + 1) fun k => !(hasL ps k || hasL qs k)) :
    rCatA K (.ref t) (.ref u) H fun x H1 => sp_joined K [x] H1 (fun y H2 => sp_gaps [y] H2 (fun v H2 => ∀ x dx, H2 x = none → H2 dx = none → dx ≠ x → spI C (V.ref x :: [v]) (upd (upd H2 dx (.own x)) x (.ins C dx [])) (fun v H2 => v = .non ∧ Q (.ref x) H2) E0) E0) E0 := by
  have hne : ∀ s, s ∈ ps ++ qs → NE s := fun s hs => (List.mem_append.mp hs).elim (cp.ne s) (cq.ne s)
  have l1 := tups_len tu
  have l2 := tups_len tv
  have fin : ∀ (p : Addr) (H1 : Hp), Same H H1 → H1 p = some (.tup (us ++ vs)) → sp_joined K [.ref p] H1 (fun y H2 => sp_gaps [y] H2 (fun v H2 => ∀ x dx, H2 x = none → H2 dx = none → dx ≠ x → spI C (V.ref x :: [v]) (upd (upd H2 dx (.own x)) x (.ins C dx [])) (fun v H2 => v = .non ∧ Q (.ref x) H2) E0) E0) E0 := by
    intro p H1 s1 hp
    refine ⟨p, us ++ vs, ps ++ qs, rfl, .inr (SqT.of hp), tups_append (tu.up s1) (tv.up s1), by rw [List.length_append]; omega, hne, fun r H2 rs s2 hr hc hm hl => ?_⟩
    rw [List.length_append] at hl
    refine ⟨r, rs, rfl, hr, by omega, fun p3 H3 s3 hp3 => ?_⟩
    refine mk_rng hp3 (gaps_canon hc) fun x H4 s4 hx => ?_
    refine q x H4 _ (fun b o z => s4 _ _ (s3 _ _ (s2 _ _ (s1 _ _ z)))) hx (fun k => by rw [gaps_has hc, hm k, hasL_append]) ?_
    have := gapsF_len rs none
    omega
  refine ⟨t, u, us, vs, rfl, rfl, SqT.of ht, SqT.of hu, size_of (by omega), fun e => ?_, fun _ e => ?_, fun _ _ p hp => ?_⟩
  · subst e
    exact fin u H (Same.refl H) hu
  · subst e
    exact fin t H (Same.refl H) (by rw [List.append_nil]; exact ht)
  · obtain ⟨H1, e1, s1, h1⟩ := new_heap (o := .tup (us ++ vs)) hp
    rw [e1]
    exact fin p H1 s1 h1
theorem ok_and {f fJ fG : Addr} {fd fdI fdJ fdG : FuncData} (F : Fun K "__and__" "Ranges.__and__" s_Ranges__and f fd) (FI : Fun K "__init__" "Ranges.__init__" s_Ranges__init fI fdI) (B_init : Binds K fdI ["self", "parts"] []) (T : ClsT K mg C fI fE)
    (F_joined : Fun K "joined" "joined" s_joined fJ fdJ) (B_joined : Binds K fdJ ["stretches"] []) (g_joined : mg "joined" = some (.ref fJ)) (G_joined : FnOk P w K mg base CX0 4 fJ fdJ ["stretches"] (sp_joined K))
    (F_gaps : Fun K "gaps" "gaps" s_gaps fG fdG) (B_gaps : Binds K fdG ["parts"] []) (g_gaps : mg "gaps" = some (.ref fG)) (z_tuple : mg "tuple" = none) :
    FnOk P w K mg base CX0 5 f fd ["self", "other"] (sp_and C) := by
  have RI : FnR P w K mg base CX0 1 fI (spI C) := FnOk.raw (ok_init FI T) B_init .nil
  have G_gaps : FnOk P w K mg base CX0 1 fG fdG ["parts"] sp_gaps := ok_gaps F_gaps z_tuple
  have M := T.M
  have g_C := T.g_C
  refine F.ok sc_Ranges__and (fun vs H Q E h => ?_) (fun cdv A outer s H vs Q E hr h => ?_)
  · obtain ⟨a, b, ps, qs, rfl, _⟩ := h
    rfl
  · obtain ⟨a, b, ps, qs, rfl, ⟨dx, t, ha, pa, ca⟩, ⟨dy, u, hb, pb, cb⟩, hz, q⟩ := h
    refine ⟨_, (pss_one (ps_ret (StX.pe_makeR M RI (hr.mono (by decide)) rfl g_C pass0 (pa_cons (pe_call G_gaps (hr.mono (by decide)) rfl g_gaps F_gaps.kp B_gaps .nil pass0 (pa_cons (pe_call G_joined (hr.mono (by decide)) rfl g_joined F_joined.kp B_joined .nil pass0 (pa_cons (pe_op op_catA (pe_call G_gaps (hr.mono (by decide)) rfl g_gaps F_gaps.kp B_gaps .nil pass0 (pa_cons (pe_fld (pv 0) rfl) pa_nil)) (pe_call G_gaps (hr.mono (by decide)) rfl g_gaps F_gaps.kp B_gaps .nil pass0 (pa_cons (pe_fld (pv 1) rfl) pa_nil))) pa_nil)) pa_nil)) pa_nil)))), ?_⟩
    unfold StX.tMakeR
    walk_at "rd"
    refine ⟨_, rfl, a, C, dx, _, _, rfl, ha, T.cl, T.nP, lk_parts, ?_⟩
    walk_at "rd"
    refine ⟨t, ps, rfl, pa, by omega, fun p1 H1 s1 ⟨us, h1, t1⟩ => ?_⟩
    walk_at "rd"
    refine ⟨_, rfl, b, C, dy, _, _, rfl, s1 _ _ hb, T.cl, T.nP, lk_parts, ?_⟩
    walk_at "rd"
    refine ⟨u, qs, rfl, pb.up s1, by omega, fun p2 H2 s2 ⟨vs, h2, t2⟩ => ?_⟩
    have z1 := gapsF_len ps none
    have z2 := gapsF_len qs none
    refine cut_fin (fd := fd) (fdJ := fd) (fdI := fd) (s2 _ _ h1) h2 (t1.up s2) t2 (gaps_canon ca) (gaps_canon cb) (by omega) fun r H' rs s3 hr hm hl => ?_
    exact q r H' rs (fun b o z => s3 _ _ (s2 _ _ (s1 _ _ z))) hr (fun k => by rw [hm k]; simp only [gaps_has ca, gaps_has cb, Bool.not_or, Bool.not_not]) (by omega)
abbrev s_Ranges__sub : Stmt := inClass (top 2) 7
theorem sc_Ranges__sub : FnScope ["self", "other"] ["self", "other"] (defScope s_Ranges__sub) := ⟨rfl, rfl, rfl, by decide +kernel, rfl, by decide +kernel, by decide +kernel⟩
def sp_sub (C : Addr) : Sp := fun vs H Q _ => ∃ a b ps qs, vs = [.ref a, .ref b] ∧ Rng C H a ps ∧ Rng C H b qs ∧ ps.length + qs.length ≤ 900 ∧ NewR C H Q (ps.length + qs.length + 2) fun k => hasL ps k && !hasL qs k
theorem ok_sub {f fJ fG : Addr} {fd fdI fdJ fdG : FuncData} (F : Fun K "__sub__" "Ranges.__sub__" s_Ranges__sub f fd) (FI : Fun K "__init__" "Ranges.__init__" s_Ranges__init fI fdI) (B_init : Binds K fdI ["self", "parts"] []) (T : ClsT K mg C fI fE)
    (F_joined : Fun K "joined" "joined" s_joined fJ fdJ) (B_joined : Binds K fdJ ["stretches"] []) (g_joined : mg "joined" = some (.ref fJ)) (G_joined : FnOk P w K mg base CX0 4 fJ fdJ ["stretches"] (sp_joined K))
    (F_gaps : Fun K "gaps" "gaps" s_gaps fG fdG) (B_gaps : Binds K fdG ["parts"] []) (g_gaps : mg "gaps" = some (.ref fG)) (z_tuple : mg "tuple" = none) :
    FnOk P w K mg base CX0 5 f fd ["self", "other"] (sp_sub C) := by
  have RI : FnR P w K mg base CX0 1 fI (spI C) := FnOk.raw (ok_init FI T) B_init .nil
  have G_gaps : FnOk P w K mg base CX0 1 fG fdG ["parts"] sp_gaps := ok_gaps F_gaps z_tuple
  have M := T.M
  have g_C := T.g_C
  refine F.ok sc_Ranges__sub (fun vs H Q E h => ?_) (fun cdv A outer s H vs Q E hr h => ?_)
  · obtain ⟨a, b, ps, qs, rfl, _⟩ := h
    rfl
  · obtain ⟨a, b, ps, qs, rfl, ⟨dx, t, ha, pa, ca⟩, ⟨dy, u, hb, ⟨vs, hu, tv⟩, cb⟩, hz, q⟩ := h
    refine ⟨_, (pss_one (ps_ret (StX.pe_makeR M RI (hr.mono (by decide)) rfl g_C pass0 (pa_cons (pe_call G_gaps (hr.mono (by decide)) rfl g_gaps F_gaps.kp B_gaps .nil pass0 (pa_cons (pe_call G_joined (hr.mono (by decide)) rfl g_joined F_joined.kp B_joined .nil pass0 (pa_cons (pe_op op_catA (pe_call G_gaps (hr.mono (by decide)) rfl g_gaps F_gaps.kp B_gaps .nil pass0 (pa_cons (pe_fld (pv 0) rfl) pa_nil)) (pe_fld (pv 1) rfl)) pa_nil)) pa_nil)) pa_nil)))), ?_⟩
    unfold StX.tMakeR
    walk_at "rd"
    refine ⟨_, rfl, a, C, dx, _, _, rfl, ha, T.cl, T.nP, lk_parts, ?_⟩
    walk_at "rd"
    refine ⟨t, ps, rfl, pa, by omega, fun p1 H1 s1 ⟨us, h1, t1⟩ => ?_⟩
    refine ⟨_, rfl, b, C, dy, _, _, rfl, s1 _ _ hb, T.cl, T.nP, lk_parts, ?_⟩
    have z1 := gapsF_len ps none
    refine cut_fin (fd := fd) (fdJ := fd) (fdI := fd) h1 (s1 _ _ hu) t1 (tv.up s1) (gaps_canon ca) cb (by omega) fun r H' rs s3 hr hm hl => ?_
    exact q r H' rs (fun b o z => s3 _ _ (s1 _ _ z)) hr (fun k => by rw [hm k]; simp only [gaps_has ca, Bool.not_or, Bool.not_not]) (by omega)
/-- what the text says of the class's other operators -/
structure ClsN (K : PySem.W.Frag) (C fA fS : Addr) : Prop where
  andF : PySem.W.findIn K (.ref C) "__and__" = some (some (.ref fA))
  andI : PySem.W.isFn K (.ref fA) = true
  subF : PySem.W.findIn K (.ref C) "__sub__" = some (some (.ref fS))
  subI : PySem.W.isFn K (.ref fS) = true
end
end Spk

set_option Elab.async false
set_option linter.all false
set_option maxRecDepth 100000
set_option maxHeartbeats 1000000
namespace Spk
open PySem PySem.Spec PyProof.Rows PySem.W L2 HT
open PySem.Froz (SD sObj addTx tailTx TxOk)
/-! ## sets of texts: what tuple(sorted(set(t))) gives -/

/-- the payload may be walked: its places rise, its order is the world's -/
structure Walkable (w : World) (D : SD) : Prop where
  ris : Ris D.2.2.place.toList
  led : w.params.followText "set-order" = true ∨ D.2.2.led = true

theorem walk_tail {w : World} {ep : Nat} {es : Array (Int × Value)} {t : SetTable} {b : Bool} (r : Ris t.place.toList) (l : w.params.followText "set-order" = true ∨ t.led = true) :
    Walkable w (tailTx ep es t b) := by
  unfold tailTx
  split
  · exact ⟨relayAll_ris t es _, l.imp id fun z => (relayAll_led t es _).trans z⟩
  · exact ⟨r, l⟩
theorem walk_add {w : World} {D : SD} (x : Walkable w D) (h : Int) (v : Value) : Walkable w (addTx h v D) := by
  have r := layNew_ris D.2.2 D.1 h v x.ris
  have l : w.params.followText "set-order" = true ∨ (layNew D.2.2 D.1 h v).2.1.led = true := x.led.imp id fun z => (layNew_led D.2.2 D.1 h v).trans z
  unfold addTx
  split
  · exact walk_tail r l
  · exact walk_tail r l

/-- at a stands a set with just the texts l, none twice -/
def TxAt (P : Program) (w : World) (a : Addr) (l : List Str) (h : Heap) : Prop :=
  ∃ D : SD, h.get? a = some (sObj "set" D) ∧ TxOk P w D l ∧ l.Nodup ∧ Walkable w D

theorem TxAt.keep {P : Program} {w : World} {a : Addr} {l : List Str} {h h' : Heap} (x : TxAt P w a l h) (k : ∀ o, h.get? a = some o → h'.get? a = some o) : TxAt P w a l h' := by
  obtain ⟨D, e, r⟩ := x
  exact ⟨D, k _ e, r⟩

section
variable {P : Program} {w : World} {A : Around} {E : Value → Shared → Prop} {s : Shared} {a : Addr} {l : List Str}
/-- a text that is there already changes nothing -/
theorem put_old {D : SD} {k : Str} {u : Tok} {Q : Bool → Shared → Prop} (ho : s.heap.get? a = some (sObj "set" D)) (F : TxOk P w D l) (hk : k ∈ l) (hb : l.length < scanBound) (h : Q false s) :
    wpAny (model P w) A (setAddHashed a (.str k u) (hashStr w k)) Q E s := by
  obtain ⟨es, ep, t⟩ := D
  have hf : t.fits es.size = true := F.fit
  have hel : ElemsOf (strKind P w) es.toList := F.el
  have hsz : es.size = l.length := F.sz
  have hm : ∃ e ∈ es.toList, (strKind P w).is k e.2 = true := (F.mem k).mp hk
  have hn : List.findIdx? (fun e => (strKind P w).is k e.2) es.toList ≠ none := fun c => by
    obtain ⟨e, he, z⟩ := hm
    exact Bool.noConfusion (z.symm.trans (List.findIdx?_eq_none_iff.mp c e he))
  unfold setAddHashed setAddHashedIn
  refine wpAny_holding (wpAny_bind (wpAny_setState_of ho rfl hf ?_))
  dsimp only
  rw [byScan_of rfl (by omega) hel, if_pos rfl]
  unfold setAddByScan
  refine wpAny_bind (wpAny_bind (wpAny_rule (wpAny_bind (wpAny_setScan_of (knd := strKind P w) (k := k) (PySem.Froz.is_str k u) ho rfl hf hel ?_))))
  cases hr : List.findIdx? (fun e => (strKind P w).is k e.2) es.toList with
  | none => exact absurd hr hn
  | some j => exact wpAny_pure (wpAny_pure h)

/-- the texts behind one more -/
def withTx (l : List Str) (k : Str) : List Str := if k ∈ l then l else k :: l
theorem withTx_mem {l : List Str} {k x : Str} : x ∈ withTx l k ↔ x = k ∨ x ∈ l := by
  unfold withTx
  split
  · rename_i h
    exact ⟨.inr, fun z => z.elim (fun e => e ▸ h) id⟩
  · exact List.mem_cons
theorem withTx_len {l : List Str} {k : Str} : (withTx l k).length ≤ l.length + 1 := by
  unfold withTx
  split <;> simp
theorem tx_put {k : Str} {u : Tok} {Q : Bool → Shared → Prop} (x : TxAt P w a l s.heap) (hb : l.length + 1 < scanBound)
    (h : ∀ b h', TxAt P w a (withTx l k) h' → Heap.SameBut a s.heap h' → Q b { s with heap := h' }) :
    wpAny (model P w) A (setAddHashed a (.str k u) (hashStr w k)) Q E s := by
  obtain ⟨D, e, F, nd, wk⟩ := x
  by_cases hk : k ∈ l
  · refine put_old e F hk (by omega) ?_
    refine h false s.heap ?_ (Heap.SameBut.refl a s.heap)
    unfold withTx
    rw [if_pos hk]
    exact ⟨D, e, F, nd, wk⟩
  · refine PySem.Froz.add_x e F hk hb ?_
    refine h true _ ?_ (Heap.SameBut.update s.heap a _)
    unfold withTx
    rw [if_neg hk]
    exact ⟨_, PySem.Froz.get_upd _ e rfl, PySem.Froz.add_ok u F, List.nodup_cons.mpr ⟨hk, nd⟩, walk_add wk _ _⟩
/-- set.add's inner step with a text -/
theorem tx_add {k : Str} {u : Tok} {Q : Bool → Shared → Prop} (x : TxAt P w a l s.heap) (hb : l.length + 1 < scanBound)
    (h : ∀ b h', TxAt P w a (withTx l k) h' → Heap.SameBut a s.heap h' → Q b { s with heap := h', toks := s.toks + 1 }) :
    wpAny (model P w) A (setAdd a (.str k u)) Q E s := by
  unfold setAdd
  refine wpAny_holding (wpAny_bind ((strKind P w).pyHash (k := k) (strKind_is _ _ _ _) ?_))
  refine tx_put (s := { s with toks := s.toks + 1 }) x hb fun b h' y sb => ?_
  exact h b h' y sb
end

/-- the texts of a row, each once -/
def onceTx : List Str → List Str → List Str := fun l xs => xs.foldl withTx l
theorem onceTx_mem : ∀ (xs l : List Str) (x : Str), x ∈ onceTx l xs ↔ x ∈ xs ∨ x ∈ l
  | [], l, x => by simp [onceTx]
  | y :: ys, l, x => by
    show x ∈ onceTx (withTx l y) ys ↔ _
    rw [onceTx_mem ys, withTx_mem, List.mem_cons]
    constructor
    · rintro (z | z | z)
      · exact .inl (.inr z)
      · exact .inl (.inl z)
      · exact .inr z
    · rintro ((z | z) | z)
      · exact .inr (.inl z)
      · exact .inl z
      · exact .inr (.inr z)
theorem onceTx_len : ∀ (xs l : List Str), (onceTx l xs).length ≤ l.length + xs.length
  | [], l => Nat.le_refl _
  | y :: ys, l => by
    have a := onceTx_len ys (withTx l y)
    have b := withTx_len (l := l) (k := y)
    rw [List.length_cons]
    exact Nat.le_trans a (by omega)
theorem onceTx_snoc (l xs : List Str) (k : Str) : onceTx l (xs ++ [k]) = withTx (onceTx l xs) k := by
  unfold onceTx
  rw [List.foldl_append] <;> rfl
theorem onceTx_take (xs : List Str) {i : Nat} {k : Str} (h : xs[i]? = some k) : onceTx [] (xs.take (i + 1)) = withTx (onceTx [] (xs.take i)) k := by
  rw [List.take_add_one, h]
  exact onceTx_snoc [] _ k

section
variable {P : Program} {w : World} {A : Around} {E : Value → Shared → Prop}
/-- set.update's inner loop over a row of texts -/
theorem tx_loop {it S : Addr} {fp wr : List Addr} {G : Array GenState → Array GenState → Prop} {xs : List Str} {Pv : Nat → Value → Prop} {St : Nat → Shared → Prop} {R : Result → Shared → Prop}
    (W : WalksS P w A.in1 it fp wr G xs.length Pv St) (hS : S ∉ fp) (hb : xs.length + 1 < scanBound) (hv : ∀ i v, Pv i v → ∃ k u, xs[i]? = some k ∧ v = .str k u) :
    ∀ (m i : Nat) (s : Shared), m + i = xs.length → St i s → TxAt P w S (onceTx [] (xs.take i)) s.heap →
      (∀ s', Moved (S :: wr) G s s' → TxAt P w S (onceTx [] xs) s'.heap → R (.ok (.ret .none)) s') →
      codeAny (model P w) A (.builtin "set.update.loop" ⟨[.ref S, .ref it], []⟩) R s := by
  have sw : S ∉ wr := fun z => hS (W.sub _ z)
  have up : ∀ b ∈ wr, b ∈ S :: wr := fun b => List.mem_cons_of_mem S
  intro m
  induction m with
  | zero =>
    intro i s e st x k
    obtain rfl : i = xs.length := by omega
    refine codeAny_builtin F.entry_set_update_loop ?_
    rw [Around.under_plainId F.plain_set_update_loop _]
    show wpAny _ A.in1 (pyNext (.ref it) >>= _) _ _ s
    refine wpAny_bind (W.done s _ _ st fun s1 mv => wpAny_pure (k s1 (mv.mono up) ?_))
    rw [List.take_length] at x
    exact x.keep fun o => mv.heap S o sw
  | succ m ih =>
    intro i s e st x k
    refine codeAny_builtin F.entry_set_update_loop ?_
    rw [Around.under_plainId F.plain_set_update_loop _]
    show wpAny _ A.in1 (pyNext (.ref it) >>= _) _ _ s
    refine wpAny_bind (W.item i s _ _ (by omega) st fun v s1 pv st1 mv => ?_)
    obtain ⟨z, u, hz, rfl⟩ := hv i v pv
    have x1 := x.keep (h' := s1.heap) fun o => mv.heap S o sw
    have hl : (onceTx [] (xs.take i)).length + 1 < scanBound := by
      have q := onceTx_len (xs.take i) []
      rw [List.length_take] at q
      have : ([] : List Str).length = 0 := rfl
      omega
    show wpAny _ A.in1 (holding [Value.str z u] (setAdd S (.str z u)) >>= _) _ _ s1
    refine wpAny_bind (wpAny_holding (tx_add x1 hl fun b h' x2 sb => wpAny_pure ⟨plainId_quiet F.plain_set_update_loop _, ?_⟩))
    have old : ∀ c ∈ fp, ∀ o, s1.heap.get? c = some o → h'.get? c = some o := fun c hc o e => (sb.2 c fun z => hS (z ▸ hc)).trans e
    refine ih (i + 1) _ (by omega) (W.frame _ s1 _ _ st1 (Nat.le_succ _) old) (by rw [onceTx_take xs hz]; exact x2) fun s2 mv2 y => k s2 ?_ y
    exact Moved.trans W.gtrans ((mv.mono up).then_heap (Nat.le_succ _) fun c o hc e => (sb.2 c fun z => hc (by rw [z]; exact List.mem_cons_self)).trans e) mv2

/-- the object that set() lays down -/
def bare (w : World) : Obj := { cls := .type "set", dict := none, data := .set #[] 0 (.fresh 0 0 (!w.params.followText "set-order")) }
theorem bare_tx {h : Heap} {S : Addr} (e : h.get? S = some (bare w)) : TxAt P w S [] h :=
  ⟨(#[], 0, .fresh 0 0 (!w.params.followText "set-order")), e, PySem.Froz.TxOk.nil rfl, List.nodup_nil, ⟨List.Pairwise.nil, by
    show _ ∨ (!w.params.followText "set-order") = true
    cases w.params.followText "set-order" <;> simp⟩⟩

/-- what set(t) asks of its answer -/
def Done (P : Program) (w : World) (s : Shared) (xs : List Str) (s' : Shared) : Prop :=
  ∃ h' tk, s' = { s with heap := h', toks := tk } ∧ TxAt P w s.heap.objs.size (onceTx [] xs) h' ∧ ∀ b o, b < s.heap.objs.size → s.heap.get? b = some o → h'.get? b = some o

variable {s : Shared}
theorem tx_item : ∀ {us : List Value} {xs : List Str}, StrsAre us xs → ∀ (i : Nat) (v : Value), us[i]? = some v → ∃ k u, xs[i]? = some k ∧ v = .str k u
  | _, _, .cons y t _, 0, v, e => ⟨y, t, rfl, (Option.some.inj e).symm⟩
  | _, _, .cons y t r, i + 1, v, e => tx_item r i v e
/-- set.__init__ over a tuple of texts -/
theorem tx_init {l : Addr} {items : Array Value} {xs : List Str} (hh : A.handled = none) (hl : s.heap.IsTuple l items) (hi : StrsAre items.toList xs) (hb : xs.length + 1 < scanBound) :
    codeAny (model P w) A (.call (.builtin "set.__init__") ⟨[.ref s.heap.objs.size, .ref l], []⟩) (wants (fun r s' => r = .none ∧ Done P w s xs s') E) { s with heap := s.heap.push (bare w) } := by
  have hS : (s.heap.push (bare w)).get? s.heap.objs.size = some (bare w) := Heap.get?_push_size _ rfl
  have hT : Shared.TypeIs { s with heap := s.heap.push (bare w) } (.ref s.heap.objs.size) "set" := ⟨_, hS, rfl⟩
  obtain ⟨ol, hol, hcl, nl, hdl⟩ := hl
  have hlS : l < s.heap.objs.size := Heap.lt_size hol
  have hol' : (s.heap.push (bare w)).get? l = some ol := Heap.get?_push_of_some _ hol
  have hTl : Shared.TypeIs { s with heap := s.heap.push (bare w) } (.ref l) "tuple" := ⟨_, hol', hcl⟩
  have hl1 : (s.heap.push (bare w)).IsTuple l items := ⟨_, hol', hcl, nl, hdl⟩
  have n1 := F.sub_tuple_set
  have n2 := F.sub_tuple_frozenset
  have n3 : (Value.type "tuple" == Value.type "dict") = false := by decide
  refine codeAny_call_builtin F.called_set.init.plain F.entry_set_init (check_set_init_1 hT ?_)
  unfold Builtin.«set.__init__» noKeywords Builtin.Frozenset.updateFrom
  generalize hPI : pyIter = PI
  wp_walk
  subst hPI
  refine wpAny_pyIter_tuple hl1 (wpAny_bind (wpAny_runValue ?_))
  have sz : (s.heap.push (bare w)).objs.size = s.heap.objs.size + 1 := Heap.size_push ..
  have he : ∀ (i : Nat) (v : Value), items[i]? = some v → ∃ k u, xs[i]? = some k ∧ v = .str k u := fun i v hv => by
    have hv' : items.toList[i]? = some v := by rw [Array.getElem?_toList]; exact hv
    exact tx_item hi i v hv'
  have hn : items.size = xs.length := by rw [← StrsAre.len_eq hi, Array.length_toList]
  have W := (Walks.tuple (prog := P) (w := w) (A := A.in1.in1) (by simp [hh]) (s.heap.push (bare w)).objs.size l (by rw [sz]; exact Nat.ne_of_lt (Nat.lt_succ_of_lt hlS)) items).toS
  rw [hn] at W
  have out : s.heap.objs.size ∉ [(s.heap.push (bare w)).objs.size, l] := by
    rw [sz]
    simp only [List.mem_cons, List.not_mem_nil, or_false, not_or]
    exact ⟨Nat.ne_of_lt (Nat.lt_succ_self _), Nat.ne_of_gt hlS⟩
  refine tx_loop (A := A.in1) W out hb he xs.length 0 _ (by omega) ⟨⟨_, Heap.get?_push_size _ rfl, rfl, rfl⟩, hl1.push _⟩ (bare_tx (Heap.get?_push_of_some _ hS)) fun s' mv y => ?_
  refine wpAny_pure (wpAny_pure ⟨rfl, s'.heap, s'.toks, ?_, y, fun b o hlt e => ?_⟩)
  · obtain ⟨h', g', d', tk', os'⟩ := s'
    obtain rfl : g' = s.gens := mv.gens
    obtain rfl : d' = s.drawn := mv.drawn
    obtain rfl : os' = s.os := mv.os
    rfl
  · refine mv.heap b o (fun z => ?_) (Heap.get?_push_of_some _ (Heap.get?_push_of_some _ e))
    simp only [List.mem_cons, List.not_mem_nil, or_false] at z
    rcases z with z | z
    · exact absurd z (Nat.ne_of_lt hlt)
    · exact absurd (z.trans sz) (Nat.ne_of_lt (Nat.lt_succ_of_lt hlt))
/-- set(t), t a tuple of texts -/
theorem call_tx {l : Addr} {items : Array Value} {xs : List Str} {Q : Value → Shared → Prop} (hh : A.handled = none) (hl : s.heap.IsTuple l items) (hi : StrsAre items.toList xs) (hb : xs.length + 1 < scanBound)
    (h : ∀ s', Done P w s xs s' → Q (.ref s.heap.objs.size) s') : wpAny (model P w) A (call (.type "set") [.ref l]) Q E s := by
  obtain ⟨c, tl, hmro⟩ := F.called_set.mro
  have i1 := F.called_set.made
  have i2 := F.called_set.sub
  have i3 := F.called_set.notType
  have i4 := F.called_set.canCreate
  have i5 := F.typeCall_set_1 (.ref l)
  refine wpAny_call (codeAny_of_tree ?_)
  show wpAny _ _ (callAny (.type "set") _) _ _ _
  refine wpAny_pure ⟨Code.quiet_builtin _ (by decide +kernel), codeAny_builtin F.entry_type_call ?_⟩
  rw [Around.under_plain (weight_type_call_type "set" [.ref l] []) rfl]
  repeat (any_goals (first | assumption | wp_step))
  refine codeAny_mono (code_set_led1 (.ref l) (E := E) (Q₁ := fun v s1 => v = .ref s.heap.objs.size ∧ s1 = { s with heap := s.heap.push (bare w) }) ⟨rfl, rfl⟩) fun r s1 hr => ?_
  match r, hr with
  | .error e, hr => exact hr
  | .ok (.ret v), ⟨e1, e2⟩ =>
    subst e1
    subst e2
    have hT : Shared.TypeIs { s with heap := s.heap.push (bare w) } (.ref s.heap.objs.size) "set" := ⟨_, Heap.get?_push_size _ rfl, rfl⟩
    have j1 := F.called_set.init.lookup
    have j2 := F.called_set.init.bind (.ref s.heap.objs.size)
    repeat (any_goals (first | assumption | wp_step))
    refine codeAny_mono (tx_init (E := E) hh hl hi hb) fun r2 s2 hr2 => ?_
    match r2, hr2 with
    | .error e, hr2 => exact hr2
    | .ok (.ret v), ⟨e3, dn⟩ =>
      subst e3
      repeat (any_goals (first | assumption | wp_step))
      exact h s2 dn
end
/-! ### in the user's terms -/
/-- the set of texts at a -/
def TxO (P : Program) (w : World) (a : Addr) (l : List Str) : HO := .ext fun h => TxAt P w a l h
section
variable {X : Cx}
theorem txO_get {pins : List (Addr × Obj)} {σ : L2.St} {H : Hp} {s : Shared} {a : Addr} {l : List Str} (I : Inv X pins σ H s) (ha : H a = some (TxO X.prog X.w a l)) : TxAt X.prog X.w a l s.heap := (I.hok a _ ha).1
theorem txO_new {P : Program} {w : World} {H : Hp} {h : Heap} {a : Addr} {l : List Str} (R : TxAt P w a l h) : ObjOk P w H h a (TxO P w a l) := by
  obtain ⟨D, e, _⟩ := id R
  exact ⟨R, ⟨_, e⟩, fun h1 h2 p k => p.keep k⟩
/-- set(t) of a tuple of texts -/
def rTxSet (K : PySem.W.Frag) (P : Program) (w : World) : List V → Hp → VK → Prop := fun vs H Q => ∃ (a : Addr) (xs : List Str), vs = [V.ref a] ∧ SqT K H a (xs.map V.str) ∧ xs.length ≤ 1000 ∧
  ∀ p, H p = none → Q (.ref p) (upd H p (TxO P w p (onceTx [] xs)))
theorem cr_txSet (hc : X.calm = true) : CallR X (.type "set") (rTxSet X.K X.prog X.w) := by
  intro pins s σ H vs us Q I r h
  obtain ⟨a, xs, rfl, hs, hl, q⟩ := h
  obtain ⟨its, rv, pt, hz⟩ := I.tuple hs
  rw [Vals.ref1 r]
  refine call_tx (items := its.toArray) (xs := xs) (I.ok.hd hc) (show s.heap.IsTuple a its.toArray from pt) (strsAre_of rv) (by unfold scanBound; omega) fun s' dn => ?_
  obtain ⟨h', tk, rfl, tx, keep⟩ := dn
  exact ⟨.ref _, upd H s.heap.objs.size (TxO X.prog X.w s.heap.objs.size (onceTx [] xs)), I.laid (t' := tk) (fun b u e => keep b u (Heap.lt_size e) e) (Nat.le_refl _) (txO_new tx), rfl, q _ (I.hok.fresh (Nat.le_refl _))⟩
end
/-! ### sorted -/
theorem perm_of_nodup {α : Type} [DecidableEq α] : ∀ (l zs : List α), l.Nodup → (∀ x ∈ l, x ∈ zs) → zs.length ≤ l.length → zs.Perm l
  | [], zs, _, _, h => by
    have e : zs = [] := List.eq_nil_of_length_eq_zero (Nat.le_zero.mp h)
    rw [e]
  | x :: l, zs, nd, hm, h => by
    obtain ⟨hx, nd'⟩ := List.nodup_cons.mp nd
    have mx : x ∈ zs := hm x List.mem_cons_self
    have pe := List.perm_cons_erase mx
    have le : (zs.erase x).length ≤ l.length := by
      have a := pe.length_eq
      rw [List.length_cons] at a h
      omega
    refine pe.trans (List.Perm.cons x (perm_of_nodup l (zs.erase x) nd' (fun y hy => ?_) le))
    have ne : y ≠ x := fun z => hx (by rw [← z]; exact hy)
    exact (List.mem_erase_of_ne ne).mpr (hm y (List.mem_cons_of_mem x hy))
/-- the text that a value is -/
def txOf : Value → Str
  | .str x _ => x
  | _ => Str.empty
theorem strs_txOf : ∀ us : List Value, (∀ u ∈ us, ∃ x t, u = Value.str x t) → StrsAre us (us.map txOf)
  | [], _ => .nil
  | u :: us, h => by
    obtain ⟨x, t, rfl⟩ := h u List.mem_cons_self
    exact .cons x t (strs_txOf us fun v hv => h v (List.mem_cons_of_mem _ hv))
theorem tx_rows {P : Program} {w : World} {es : Array (Int × Value)} {ep : Nat} {t : SetTable} {l : List Str} {us : List Value} (F : TxOk P w (es, ep, t) l) (nd : l.Nodup) (pm : us.Perm (es.toList.map (·.2))) :
    StrsAre us (us.map txOf) ∧ (us.map txOf).Perm l := by
  have all : ∀ u ∈ us, ∃ x t, u = Value.str x t := fun u hu => by
    obtain ⟨e, he, rfl⟩ := List.mem_map.mp (pm.mem_iff.mp hu)
    obtain ⟨⟨k, hk, _⟩, _⟩ := F.el e he
    obtain ⟨t, ev⟩ := Value.isStrOf_shape (x := k) (v := e.2) hk
    exact ⟨k, t, ev⟩
  refine ⟨strs_txOf us all, perm_of_nodup l _ nd (fun x hx => ?_) ?_⟩
  · obtain ⟨e, he, q⟩ := (F.mem x).mp hx
    obtain ⟨t, ev⟩ := Value.isStrOf_shape (x := x) (v := e.2) q
    refine List.mem_map.mpr ⟨e.2, pm.mem_iff.mpr (List.mem_map.mpr ⟨e, he, rfl⟩), ?_⟩
    rw [ev] <;> rfl
  · have z : es.size = l.length := F.sz
    rw [List.length_map, pm.length_eq, List.length_map, Array.length_toList]
    omega
section
variable {X : Cx}
/-- sorted(s) of a set of fewer than 64 texts -/
def rTxSorted (P : Program) (w : World) : List V → Hp → VK → Prop := fun vs H Q => ∃ (a : Addr) (l : List Str), vs = [V.ref a] ∧ H a = some (TxO P w a l) ∧ l.length < 64 ∧
  ∀ ys p, ys.Perm l → sortedS ys = true → H p = none → Q (.ref p) (upd H p (.lst (ys.map V.str)))
theorem cr_txSorted (hc : X.calm = true) : CallR X (.builtin "sorted") (rTxSorted X.prog X.w) := by
  intro pins s σ H vs us Q I r h
  obtain ⟨a, l, rfl, ha, h64, q⟩ := h
  obtain ⟨⟨es, ep, t⟩, ho, F, nd, wk⟩ := txO_get I ha
  have hsz : es.size = l.length := F.sz
  rw [Vals.ref1 r]
  refine Calls.call_function_entry PyProof.Rows.kind_sorted PyProof.Rows.plain_sorted PyProof.Rows.entry_sorted (PyProof.Rows.args_sorted1 _) ?_
  unfold Builtin.«sorted»
  refine wpAny_bind (m := checkCount "sorted" 1 1 _) (wpAny_pure (wpAny_bind (collect_set (A := X.A.in1) (I.ok.hd hc) ⟨_, ho, rfl, rfl⟩ F.fit (by rw [hsz]; unfold scanBound; omega) wk.ris wk.led fun s1 vs k1 hz g1 o1 pm => ?_)))
  obtain ⟨hS, pl⟩ := tx_rows F nd pm
  have hvl : vs.length = l.length := by
    have e := pl.length_eq
    rw [List.length_map] at e
    exact e
  refine wpAny_bind (wpAny_newList ?_ (by rw [hvl, sizeLine_eq]; omega))
  have hoL : (s1.heap.push (seqObj "list" vs.toArray 0)).get? s1.heap.objs.size = some (seqObj "list" vs.toArray 0) := Heap.get?_push_size _ rfl
  refine wpAny_bind (wpAny_holding (wpAny_call_entry PyProof.Rows.slot_list_sort ⟨_, hoL, rfl⟩ PyProof.Rows.entry_list_sort
    (list_sort_treeK strKind_oneLt hoL hS.keysOf (fun v1 v2 rest e => keyKind_strs (by rw [← e]; exact hS)) (by rw [hvl]; exact h64) fun st' hp hs => ⟨_, rfl, ?_⟩) (PyProof.Rows.args_list_sort _)))
  obtain ⟨ys, y1, y2, y3⟩ := sorted_out_str hS hp hs
  obtain ⟨e', he'⟩ := PyProof.Rows.sortedHeap_at (vs := vs) (out := (arrOf st').map (·.2)) hoL
  have yl : ys.Perm l := y2.trans pl
  have len : (ys.map V.str).length ≤ sizeLine := by
    rw [List.length_map, yl.length_eq, sizeLine_eq]
    omega
  have old : ∀ b u, s.heap.get? b = some u → (sortedHeap (s1.heap.push (seqObj "list" vs.toArray 0)) s1.heap.objs.size vs ((arrOf st').map (·.2))).get? b = some u := fun b u e => by
    have lt := Heap.lt_size (k1 b u e)
    rw [PyProof.Rows.sortedHeap_old (Nat.ne_of_lt lt) (by rw [size_push']; exact Nat.lt_succ_of_lt lt)]
    exact Heap.get?_push_of_some _ (k1 b u e)
  have J : Inv X pins σ (upd H s1.heap.objs.size (.lst (ys.map V.str))) { s with heap := sortedHeap (s1.heap.push (seqObj "list" vs.toArray 0)) s1.heap.objs.size vs ((arrOf st').map (·.2)), gens := s1.gens, drawn := s1.drawn, toks := s1.toks } :=
    I.call (ch := []) (Un.laid old hz (I.hok.fresh hz)) (I.hok.laid old hz ⟨len, ((arrOf st').map (·.2)).toList, e', vals_of_strs y1, by rw [Array.toArray_toList]; exact he'⟩) (by rw [g1]; exact I.bare) (fun _ z => nomatch z)
  refine wpAny_pure ⟨_, rfl, .ref s1.heap.objs.size, _, ?_, rfl, q ys _ yl y3 (I.hok.fresh hz)⟩
  obtain ⟨h1, gg1, d1, t1, os1⟩ := s1
  obtain ⟨h0, g0, d0, t0, os0⟩ := s
  cases o1
  exact J
end
end Spk

set_option Elab.async false
set_option linter.all false
set_option maxRecDepth 100000
set_option maxHeartbeats 1000000
namespace Spk
open PySem L2
local macro_rules | `(tactic| walk_at "rd") => `(tactic| repeat (first
  | with_reducible refine i_seq ?_ | with_reducible refine i_asg ?_ | with_reducible refine i_ret ?_ | with_reducible refine i_ifS ?_ | with_reducible refine i_if ?_
  | with_reducible refine i_for ?_ | with_reducible refine i_iL ?_ | with_reducible refine i_iT ?_ | with_reducible refine i_ckw ?_ | with_reducible refine i_cm ?_ | with_reducible refine And.intro (rfl : V.ref _ = V.ref _) ?_ | with_reducible refine i_rng1 ?_ | with_reducible refine i_bm ?_ | with_reducible refine i_bm0 ?_
  | with_reducible refine i_drop ?_ | with_reducible refine i_next ?_
  | with_reducible refine i_var rfl ?_ | with_reducible refine i_c ?_ | with_reducible refine i_op ?_ | with_reducible refine i_un ?_ | with_reducible refine i_name ?_
  | with_reducible refine i_rI0 ?_ | with_reducible refine i_rU ?_ | with_reducible refine i_rEq rfl ?_ | with_reducible refine i_rNe rfl ?_
  | with_reducible refine i_test ?_ | with_reducible refine i_tB ?_ | with_reducible refine i_and ?_ | with_reducible refine i_or ?_ | with_reducible refine i_not ?_
  | with_reducible refine i_andV ?_ | with_reducible refine i_orV ?_ | with_reducible refine i_notV ?_
  | with_reducible refine i_cons ?_ | with_reducible refine i_nil ?_ | with_reducible refine i_cb ?_ | with_reducible refine i_call ?_ | with_reducible refine i_bl ?_
  | with_reducible refine i_tup ?_ | with_reducible refine i_lst ?_ | with_reducible refine i_par ?_ | with_reducible refine i_gcons ?_ | with_reducible refine i_gnil ?_
  | with_reducible refine And.intro (rfl : V.non = V.non) ?_ | with_reducible refine i_ixT (by assumption) rfl ?_ | with_reducible refine i_ixL (by assumption) rfl ?_ | with_reducible refine i_gtup (by assumption) rfl ?_
  | with_reducible refine i_gsub ?_
  | with_reducible refine Or.inl (Exists.intro _ (And.intro (rfl : [V.int _] = [V.int _]) ?_)) | with_reducible refine Exists.intro _ (And.intro (rfl : [V.int _] = [V.int _]) ?_)
  | with_reducible refine Or.inr (Exists.intro _ (And.intro (rfl : [V.bl _] = [V.bl _]) ?_))
  | with_reducible refine Exists.intro _ (Exists.intro _ (And.intro (rfl : [V.int _, V.int _] = [V.int _, V.int _]) ?_))
  | with_reducible refine Exists.intro _ (Exists.intro _ (And.intro (rfl : [V.ref _] = [V.ref _]) (And.intro (Or.inl (SqL.of (by assumption))) ?_)))
  | with_reducible refine i_rI (show (0 : Int) < _ by assumption) ?_ | with_reducible refine i_rI (show (0 : Int) < _ by decide) ?_
  | with_reducible refine i_rI (pow_ok (Nat.le_of_ble_eq_true rfl) (Nat.le_of_ble_eq_true rfl)) ?_
  | with_reducible refine i_rI (cmulL rfl) ?_))
/-! ### three truths -/
/-- a truth as a value -/
def tv : Option Bool → V
  | none => .non
  | some b => .bl b
def and3 (a b : Option Bool) : Option Bool := if a = some false ∨ b = some false then some false else if a = none ∨ b = none then none else some true
def or3 (a b : Option Bool) : Option Bool := if a = some true ∨ b = some true then some true else if a = none ∨ b = none then none else some false
def not3 (a : Option Bool) : Option Bool := a.map fun b => !b
theorem tv_non (a : Option Bool) : decide (tv a = .non) = decide (a = none) := by
  cases a <;> rfl
/-- x is True, x is False of a truth -/
theorem op_isTr {X : Cx} : OpR X (compareOp .Is) (fun x y H Q => ∃ (a : Option Bool) (b : Bool), x = tv a ∧ y = .bl b ∧ Q (.bl (decide (a = some b))) H) := by
  intro pins s σ H x y v u Q I rx ry h
  obtain ⟨a, b, rfl, rfl, q⟩ := h
  cases a with
  | some c =>
    refine op_isBl pins s σ H (.bl c) (.bl b) v u Q I rx ry ⟨c, b, rfl, rfl, ?_⟩
    have e : decide (c = b) = decide (some c = some b) := by cases c <;> cases b <;> rfl
    rw [e]
    exact q
  | none =>
    cases (show v = Value.none from rx)
    cases (show u = Value.bool b from ry)
    exact wpAny_is_other rfl (fun z => nomatch z) ⟨.bl false, H, I, rfl, q⟩
section
variable {P : Program} {w : World} {K : PySem.W.Frag} {mg : Str → Option Value} {base : Heap}
abbrev s_both : Stmt := top 14
theorem sc_both : FnScope ["one", "other"] ["one", "other"] (defScope s_both) := ⟨rfl, rfl, rfl, by decide +kernel, rfl, by decide +kernel, by decide +kernel⟩
def sp_both : Sp := fun vs H Q _ => ∃ a b, vs = [tv a, tv b] ∧ Q (tv (and3 a b)) H
theorem ok_both {f : Addr} {fd : FuncData} (F : Fun K "both" "both" s_both f fd) : FnOk P w K mg base CX0 1 f fd ["one", "other"] sp_both := by
  refine F.ok sc_both (fun vs H Q E h => ?_) (fun cdv A outer s H vs Q E hr h => ?_)
  · obtain ⟨a, b, rfl, _⟩ := h
    rfl
  · obtain ⟨a, b, rfl, q⟩ := h
    refine ⟨_, (pss_cons (ps_if (PW.pt (pw_or (pt_cmpR op_isTr (pv 0) pe_bl (nomark _)) (pw_or1 (pt_cmpR op_isTr (pv 1) pe_bl (nomark _)))))
 (pss_one (ps_ret pe_bl))
 pss_nil)
 (pss_cons (ps_if (PW.pt (pw_or (pt_cmpR op_isN (pv 0) pe_non (nomark _)) (pw_or1 (pt_cmpR op_isN (pv 1) pe_non (nomark _)))))
 (pss_one (ps_ret pe_non))
 pss_nil)
 (pss_one (ps_ret pe_bl)))), ?_⟩
    walk_at "rd"
    have fin : ∀ c, and3 a b = c → Q (tv c) H := fun c e => by rw [← e]; exact q
    refine ⟨a, false, rfl, rfl, _, rfl, ite_d (fun h1 => ?_) (fun h1 => ?_)⟩
    · walk_at "rd"
      exact fin (some false) (by simp [and3, h1])
    · walk_at "rd"
      refine ⟨b, false, rfl, rfl, _, rfl, ite_d (fun h2 => ?_) (fun h2 => ?_)⟩
      · walk_at "rd"
        exact fin (some false) (by simp [and3, h2])
      · walk_at "rd"
        rw [tv_non]
        refine ite_d (fun h3 => ?_) (fun h3 => ?_)
        · walk_at "rd"
          exact fin none (by simp [and3, h1, h2, h3])
        · walk_at "rd"
          rw [tv_non]
          refine ite_d (fun h4 => ?_) (fun h4 => ?_)
          · walk_at "rd"
            exact fin none (by simp [and3, h1, h2, h4])
          · walk_at "rd"
            exact fin (some true) (by simp [and3, h1, h2, h3, h4])
abbrev s_either : Stmt := top 15
theorem sc_either : FnScope ["one", "other"] ["one", "other"] (defScope s_either) := ⟨rfl, rfl, rfl, by decide +kernel, rfl, by decide +kernel, by decide +kernel⟩
def sp_either : Sp := fun vs H Q _ => ∃ a b, vs = [tv a, tv b] ∧ Q (tv (or3 a b)) H
theorem ok_either {f : Addr} {fd : FuncData} (F : Fun K "either" "either" s_either f fd) : FnOk P w K mg base CX0 1 f fd ["one", "other"] sp_either := by
  refine F.ok sc_either (fun vs H Q E h => ?_) (fun cdv A outer s H vs Q E hr h => ?_)
  · obtain ⟨a, b, rfl, _⟩ := h
    rfl
  · obtain ⟨a, b, rfl, q⟩ := h
    refine ⟨_, (pss_cons (ps_if (PW.pt (pw_or (pt_cmpR op_isTr (pv 0) pe_bl (nomark _)) (pw_or1 (pt_cmpR op_isTr (pv 1) pe_bl (nomark _)))))
 (pss_one (ps_ret pe_bl))
 pss_nil)
 (pss_cons (ps_if (PW.pt (pw_or (pt_cmpR op_isN (pv 0) pe_non (nomark _)) (pw_or1 (pt_cmpR op_isN (pv 1) pe_non (nomark _)))))
 (pss_one (ps_ret pe_non))
 pss_nil)
 (pss_one (ps_ret pe_bl)))), ?_⟩
    walk_at "rd"
    have fin : ∀ c, or3 a b = c → Q (tv c) H := fun c e => by rw [← e]; exact q
    refine ⟨a, true, rfl, rfl, _, rfl, ite_d (fun h1 => ?_) (fun h1 => ?_)⟩
    · walk_at "rd"
      exact fin (some true) (by simp [or3, h1])
    · walk_at "rd"
      refine ⟨b, true, rfl, rfl, _, rfl, ite_d (fun h2 => ?_) (fun h2 => ?_)⟩
      · walk_at "rd"
        exact fin (some true) (by simp [or3, h2])
      · walk_at "rd"
        rw [tv_non]
        refine ite_d (fun h3 => ?_) (fun h3 => ?_)
        · walk_at "rd"
          exact fin none (by simp [or3, h1, h2, h3])
        · walk_at "rd"
          rw [tv_non]
          refine ite_d (fun h4 => ?_) (fun h4 => ?_)
          · walk_at "rd"
            exact fin none (by simp [or3, h1, h2, h4])
          · walk_at "rd"
            exact fin (some false) (by simp [or3, h1, h2, h3, h4])
abbrev s_negated : Stmt := top 16
theorem sc_negated : FnScope ["truth"] ["truth"] (defScope s_negated) := ⟨rfl, rfl, rfl, by decide +kernel, rfl, by decide +kernel, by decide +kernel⟩
def sp_negated : Sp := fun vs H Q _ => ∃ a, vs = [tv a] ∧ Q (tv (not3 a)) H
theorem ok_negated {f : Addr} {fd : FuncData} (F : Fun K "negated" "negated" s_negated f fd) : FnOk P w K mg base CX0 1 f fd ["truth"] sp_negated := by
  refine F.ok sc_negated (fun vs H Q E h => ?_) (fun cdv A outer s H vs Q E hr h => ?_)
  · obtain ⟨a, rfl, _⟩ := h
    rfl
  · obtain ⟨a, rfl, q⟩ := h
    refine ⟨_, (pss_one (ps_ret (pe_ifExp (pt_cmpR op_isN (pv 0) pe_non (nomark _)) pe_non (pe_not (pv 0))))), ?_⟩
    cases a with
    | none =>
      walk_at "rd"
      refine ite_d (fun _ => ?_) (fun h => absurd rfl h)
      walk_at "rd"
      exact q
    | some b =>
      walk_at "rd"
      refine ite_d (fun h => nomatch h) (fun _ => ?_)
      walk_at "rd"
      exact ⟨b, rfl, q⟩
abbrev s_truth_within : Stmt := top 13
theorem sc_truth_within : FnScope ["value", "parts"] ["value", "parts"] (defScope s_truth_within) := ⟨rfl, rfl, rfl, by decide +kernel, rfl, by decide +kernel, by decide +kernel⟩
/-- what a condition says of a value -/
def wi3 (ps : List Stc) : Option Int → Option Bool
  | none => none
  | some n => some (hasL ps n)
def sp_truth_within : Sp := fun vs H Q _ => ∃ (o : Option Int) (t : Addr) (ps : List Stc), vs = [ov o, .ref t] ∧ PartsT H t ps ∧ Canon ps ∧ Q (tv (wi3 ps o)) H
theorem ok_truth_within {f fP : Addr} {fd fdP : FuncData} (F : Fun K "truth_within" "truth_within" s_truth_within f fd) (F_in_parts : Fun K "in_parts" "in_parts" s_in_parts fP fdP) (B_in_parts : Binds K fdP ["parts", "number"] []) (g_in_parts : mg "in_parts" = some (.ref fP))
    (G_in_parts : FnOk P w K mg base CX0 1 fP fdP ["parts", "number"] sp_in_parts) : FnOk P w K mg base CX0 2 f fd ["value", "parts"] sp_truth_within := by
  refine F.ok sc_truth_within (fun vs H Q E h => ?_) (fun cdv A outer s H vs Q E hr h => ?_)
  · obtain ⟨o, t, ps, rfl, _⟩ := h
    rfl
  · obtain ⟨o, t, ps, rfl, pt, ca, q⟩ := h
    refine ⟨_, (pss_one (ps_ret (pe_ifExp (pt_cmpR op_isN (pv 0) pe_non (nomark _)) pe_non (pe_call G_in_parts (hr.mono (by decide)) rfl g_in_parts F_in_parts.kp B_in_parts .nil pass0 (pa_cons (pv 1) (pa_cons (pv 0) pa_nil)))))), ?_⟩
    cases o with
    | none =>
      walk_at "rd"
      refine ite_d (fun _ => ?_) (fun h => absurd rfl h)
      walk_at "rd"
      exact q
    | some n =>
      walk_at "rd"
      refine ite_d (fun h => nomatch h) (fun _ => ?_)
      walk_at "rd"
      exact ⟨t, ps, n, rfl, pt, ca, q⟩
end
end Spk

set_option Elab.async false
set_option linter.all false
set_option maxRecDepth 100000
set_option maxHeartbeats 1000000
namespace Spk
open PySem L2
local macro_rules | `(tactic| walk_at "rd") => `(tactic| repeat (first
  | with_reducible refine i_seq ?_ | with_reducible refine i_asg ?_ | with_reducible refine i_ret ?_ | with_reducible refine i_ifS ?_ | with_reducible refine i_if ?_
  | with_reducible refine i_for ?_ | with_reducible refine i_iL ?_ | with_reducible refine i_iT ?_ | with_reducible refine i_ckw ?_ | with_reducible refine i_cm ?_ | with_reducible refine And.intro (rfl : V.ref _ = V.ref _) ?_ | with_reducible refine i_rng1 ?_ | with_reducible refine i_bm ?_ | with_reducible refine i_bm0 ?_
  | with_reducible refine i_drop ?_ | with_reducible refine i_next ?_
  | with_reducible refine i_var rfl ?_ | with_reducible refine i_c ?_ | with_reducible refine i_op ?_ | with_reducible refine i_un ?_ | with_reducible refine i_name ?_
  | with_reducible refine i_rI0 ?_ | with_reducible refine i_rU ?_ | with_reducible refine i_rEq rfl ?_ | with_reducible refine i_rNe rfl ?_
  | with_reducible refine i_test ?_ | with_reducible refine i_tB ?_ | with_reducible refine i_and ?_ | with_reducible refine i_or ?_ | with_reducible refine i_not ?_
  | with_reducible refine i_andV ?_ | with_reducible refine i_orV ?_ | with_reducible refine i_notV ?_
  | with_reducible refine i_cons ?_ | with_reducible refine i_nil ?_ | with_reducible refine i_cb ?_ | with_reducible refine i_call ?_ | with_reducible refine i_bl ?_
  | with_reducible refine i_tup ?_ | with_reducible refine i_lst ?_ | with_reducible refine i_par ?_ | with_reducible refine i_gcons ?_ | with_reducible refine i_gnil ?_
  | with_reducible refine And.intro (rfl : V.non = V.non) ?_ | with_reducible refine i_ixT (by assumption) rfl ?_ | with_reducible refine i_ixL (by assumption) rfl ?_ | with_reducible refine i_gtup (by assumption) rfl ?_
  | with_reducible refine i_gsub ?_
  | with_reducible refine Or.inl (Exists.intro _ (And.intro (rfl : [V.int _] = [V.int _]) ?_)) | with_reducible refine Exists.intro _ (And.intro (rfl : [V.int _] = [V.int _]) ?_)
  | with_reducible refine Or.inr (Exists.intro _ (And.intro (rfl : [V.bl _] = [V.bl _]) ?_))
  | with_reducible refine Exists.intro _ (Exists.intro _ (And.intro (rfl : [V.int _, V.int _] = [V.int _, V.int _]) ?_))
  | with_reducible refine Exists.intro _ (Exists.intro _ (And.intro (rfl : [V.ref _] = [V.ref _]) (And.intro (Or.inl (SqL.of (by assumption))) ?_)))
  | with_reducible refine i_rI (show (0 : Int) < _ by assumption) ?_ | with_reducible refine i_rI (show (0 : Int) < _ by decide) ?_
  | with_reducible refine i_rI (pow_ok (Nat.le_of_ble_eq_true rfl) (Nat.le_of_ble_eq_true rfl)) ?_
  | with_reducible refine i_rI (cmulL rfl) ?_))
/-! ### trees of filters -/
inductive Tr where
  | wi (c : Str) (ps : List Stc)
  | mi (c : Str)
  | al
  | ne
  | an (l r : Tr)
  | ou (l r : Tr)
  | no (t : Tr)
  deriving DecidableEq
namespace Tr
/-- what the tree says of values by columns -/
def sem (ρ : Str → Option Int) : Tr → Option Bool
  | wi c ps => wi3 ps (ρ c)
  | mi c => some (ρ c).isNone
  | al => some true
  | ne => some false
  | an l r => and3 (sem ρ l) (sem ρ r)
  | ou l r => or3 (sem ρ l) (sem ρ r)
  | no t => not3 (sem ρ t)
/-- its columns, some several times -/
def cols : Tr → List Str
  | wi c _ => [c]
  | mi c => [c]
  | al => []
  | ne => []
  | an l r => cols l ++ cols r
  | ou l r => cols l ++ cols r
  | no t => cols t
def deep : Tr → Nat
  | wi _ _ => 1
  | mi _ => 1
  | al => 1
  | ne => 1
  | an l r => max (deep l) (deep r) + 1
  | ou l r => max (deep l) (deep r) + 1
  | no t => deep t + 1
/-- its conditions -/
def many : Tr → Nat
  | wi _ _ => 1
  | mi _ => 1
  | al => 1
  | ne => 1
  | an l r => many l + many r
  | ou l r => many l + many r
  | no t => many t
end Tr
/-- the value is the tree's tuple -/
def TreeAt (H : Hp) : Tr → V → Prop
  | .wi c ps, v => ∃ a p, v = .ref a ∧ H a = some (.tup [.str "within", .str c, .ref p]) ∧ PartsT H p ps ∧ Canon ps
  | .mi c, v => ∃ a, v = .ref a ∧ H a = some (.tup [.str "missing", .str c])
  | .al, v => ∃ a, v = .ref a ∧ H a = some (.tup [.str "always"])
  | .ne, v => ∃ a, v = .ref a ∧ H a = some (.tup [.str "never"])
  | .an l r, v => ∃ a x y, v = .ref a ∧ H a = some (.tup [.str "and", x, y]) ∧ TreeAt H l x ∧ TreeAt H r y
  | .ou l r, v => ∃ a x y, v = .ref a ∧ H a = some (.tup [.str "or", x, y]) ∧ TreeAt H l x ∧ TreeAt H r y
  | .no t, v => ∃ a x, v = .ref a ∧ H a = some (.tup [.str "not", x]) ∧ TreeAt H t x
/-- from one heap into another one -/
theorem TreeAt.via {H H' : Hp} (e1 : ∀ a xs, H a = some (.tup xs) → H' a = some (.tup xs)) (e2 : ∀ a ps, PartsT H a ps → PartsT H' a ps) : ∀ {t : Tr} {v : V}, TreeAt H t v → TreeAt H' t v
  | .wi c ps, v, h => by
    obtain ⟨a, p, e, h1, h2, h3⟩ := h
    exact ⟨a, p, e, e1 _ _ h1, e2 _ _ h2, h3⟩
  | .mi c, v, h => by
    obtain ⟨a, e, h1⟩ := h
    exact ⟨a, e, e1 _ _ h1⟩
  | .al, v, h => by
    obtain ⟨a, e, h1⟩ := h
    exact ⟨a, e, e1 _ _ h1⟩
  | .ne, v, h => by
    obtain ⟨a, e, h1⟩ := h
    exact ⟨a, e, e1 _ _ h1⟩
  | .an l r, v, h => by
    obtain ⟨a, x, y, e, h1, h2, h3⟩ := h
    exact ⟨a, x, y, e, e1 _ _ h1, TreeAt.via e1 e2 h2, TreeAt.via e1 e2 h3⟩
  | .ou l r, v, h => by
    obtain ⟨a, x, y, e, h1, h2, h3⟩ := h
    exact ⟨a, x, y, e, e1 _ _ h1, TreeAt.via e1 e2 h2, TreeAt.via e1 e2 h3⟩
  | .no t, v, h => by
    obtain ⟨a, x, e, h1, h2⟩ := h
    exact ⟨a, x, e, e1 _ _ h1, TreeAt.via e1 e2 h2⟩
theorem TreeAt.up {H H' : Hp} (e : Same H H') {t : Tr} {v : V} (h : TreeAt H t v) : TreeAt H' t v := h.via (fun _ _ z => e _ _ z) fun _ _ z => z.up e
theorem TreeAt.keep {H H' : Hp} (e : Keep H H') {t : Tr} {v : V} (h : TreeAt H t v) : TreeAt H' t v := h.via (fun _ _ z => e _ _ rfl z) fun _ _ z => z.keep e
/-- a dict of values by columns -/
def ValsAt (H : Hp) (m : Addr) (ρ : Str → Option Int) (cs : List Str) : Prop := ∃ kvs, H m = some (.dK kvs) ∧ ∀ c, c ∈ cs → valV kvs (Sum.inr c) = some (ov (ρ c))
theorem ValsAt.up {H H' : Hp} {m : Addr} {ρ : Str → Option Int} {cs : List Str} (e : Same H H') (h : ValsAt H m ρ cs) : ValsAt H' m ρ cs := by
  obtain ⟨kvs, h1, h2⟩ := h
  exact ⟨kvs, e _ _ h1, h2⟩
theorem ValsAt.sub {H : Hp} {m : Addr} {ρ : Str → Option Int} {cs ds : List Str} (h : ValsAt H m ρ cs) (s : ∀ c, c ∈ ds → c ∈ cs) : ValsAt H m ρ ds := by
  obtain ⟨kvs, h1, h2⟩ := h
  exact ⟨kvs, h1, fun c hc => h2 c (s c hc)⟩
theorem s_yes {a : Str} {A B : Prop} (h : A) : if decide (V.str a = V.str a) = true then A else B := by
  rw [decide_eq_true rfl]
  exact iteT h
theorem s_no {a b : Str} {A B : Prop} (hn : (a == b) = false) (h : B) : if decide (V.str a = V.str b) = true then A else B := by
  rw [decide_eq_false fun z => by rw [V.str.inj z, beq_self_eq_true] at hn; cases hn]
  exact iteF h
theorem ValsAt.get {H : Hp} {m : Addr} {ρ : Str → Option Int} {cs : List Str} {c : Str} (h : ValsAt H m ρ cs) (hc : c ∈ cs) : DGet H m (.str c) (some (ov (ρ c))) := by
  obtain ⟨kvs, h1, h2⟩ := h
  have z := DGet.k (k := Sum.inr c) h1
  rw [h2 c hc] at z
  exact z
section
variable {P : Program} {w : World} {K : PySem.W.Frag} {mg : Str → Option Value} {base : Heap}
abbrev s_truth_of : Stmt := top 12
theorem sc_truth_of : FnScope ["tree", "values", "word"] ["tree", "values"] (defScope s_truth_of) := ⟨rfl, rfl, rfl, by decide +kernel, rfl, by decide +kernel, by decide +kernel⟩
/-- truth_of of trees of this depth -/
def sp_truth (d : Nat) : Sp := fun vs H Q _ => ∃ t v m ρ, vs = [v, .ref m] ∧ TreeAt H t v ∧ t.deep ≤ d ∧ ValsAt H m ρ t.cols ∧ ∀ H', Same H H' → Q (tv (t.sem ρ)) H'
theorem ok_truth {f fW fB fE fN : Addr} {fd fdW fdB fdE fdN : FuncData} (F : Fun K "truth_of" "truth_of" s_truth_of f fd) (B_truth_of : Binds K fd ["tree", "values"] []) (g_truth_of : mg "truth_of" = some (.ref f))
    (F_truth_within : Fun K "truth_within" "truth_within" s_truth_within fW fdW) (B_truth_within : Binds K fdW ["value", "parts"] []) (g_truth_within : mg "truth_within" = some (.ref fW)) (G_truth_within : FnOk P w K mg base CX0 2 fW fdW ["value", "parts"] sp_truth_within)
    (F_both : Fun K "both" "both" s_both fB fdB) (B_both : Binds K fdB ["one", "other"] []) (g_both : mg "both" = some (.ref fB)) (G_both : FnOk P w K mg base CX0 1 fB fdB ["one", "other"] sp_both)
    (F_either : Fun K "either" "either" s_either fE fdE) (B_either : Binds K fdE ["one", "other"] []) (g_either : mg "either" = some (.ref fE)) (G_either : FnOk P w K mg base CX0 1 fE fdE ["one", "other"] sp_either)
    (F_negated : Fun K "negated" "negated" s_negated fN fdN) (B_negated : Binds K fdN ["truth"] []) (g_negated : mg "negated" = some (.ref fN)) (G_negated : FnOk P w K mg base CX0 1 fN fdN ["truth"] sp_negated) :
    ∀ d, FnOk P w K mg base CX0 (d + 3) f fd ["tree", "values"] (sp_truth d) := by
  intro d
  induction d with
  | zero =>
    refine F.ok sc_truth_of (fun vs H Q E h => ?_) (fun cdv A outer s H vs Q E hr h => ?_)
    · obtain ⟨t, v, m, ρ, rfl, _⟩ := h
      rfl
    · obtain ⟨t, v, m, ρ, rfl, ht, hd, _⟩ := h
      cases t <;> exact absurd hd (by simp [Tr.deep])
  | succ d G_truth_of =>
    have F_truth_of := F
    refine F.ok sc_truth_of (fun vs H Q E h => ?_) (fun cdv A outer s H vs Q E hr h => ?_)
    · obtain ⟨t, v, m, ρ, rfl, _⟩ := h
      rfl
    · obtain ⟨t, v, m, ρ, rfl, ht, hd, hv, q⟩ := h
      refine ⟨_, (pss_cons (ps_set (i := 2) sc_truth_of.nd rfl (Or.inl rfl) (pe_ix ix_tup (pv 0) pe_int (fun _ _ => rfl)))
 (pss_cons (ps_if (pt_cmpR op_eq (pv 2) pe_str (nomark _))
 (pss_one (ps_ret (pe_call G_truth_within (hr.mono (by omega)) rfl g_truth_within F_truth_within.kp B_truth_within .nil pass0 (pa_cons (pe_dget (Nat.lt_of_le_of_lt (Nat.add_le_add_left (by decide : 1 ≤ 64) _) hr.units) (pv 1) (pe_ix ix_tup (pv 0) pe_int (fun _ _ => rfl)) (fun _ _ => rfl)) (pa_cons (pe_ix ix_tup (pv 0) pe_int (fun _ _ => rfl)) pa_nil)))))
 pss_nil)
 (pss_cons (ps_if (pt_cmpR op_eq (pv 2) pe_str (nomark _))
 (pss_one (ps_ret (pe_cmpR op_isN (pe_dget (Nat.lt_of_le_of_lt (Nat.add_le_add_left (by decide : 1 ≤ 64) _) hr.units) (pv 1) (pe_ix ix_tup (pv 0) pe_int (fun _ _ => rfl)) (fun _ _ => rfl)) pe_non (nomark _))))
 pss_nil)
 (pss_cons (ps_if (pt_cmpR op_eq (pv 2) pe_str (nomark _))
 (pss_one (ps_ret (pe_call G_both (hr.mono (by omega)) rfl g_both F_both.kp B_both .nil pass0 (pa_cons (pe_call G_truth_of (hr.mono (by omega)) rfl g_truth_of F_truth_of.kp B_truth_of .nil pass0 (pa_cons (pe_ix ix_tup (pv 0) pe_int (fun _ _ => rfl)) (pa_cons (pv 1) pa_nil))) (pa_cons (pe_call G_truth_of (hr.mono (by omega)) rfl g_truth_of F_truth_of.kp B_truth_of .nil pass0 (pa_cons (pe_ix ix_tup (pv 0) pe_int (fun _ _ => rfl)) (pa_cons (pv 1) pa_nil))) pa_nil)))))
 pss_nil)
 (pss_cons (ps_if (pt_cmpR op_eq (pv 2) pe_str (nomark _))
 (pss_one (ps_ret (pe_call G_either (hr.mono (by omega)) rfl g_either F_either.kp B_either .nil pass0 (pa_cons (pe_call G_truth_of (hr.mono (by omega)) rfl g_truth_of F_truth_of.kp B_truth_of .nil pass0 (pa_cons (pe_ix ix_tup (pv 0) pe_int (fun _ _ => rfl)) (pa_cons (pv 1) pa_nil))) (pa_cons (pe_call G_truth_of (hr.mono (by omega)) rfl g_truth_of F_truth_of.kp B_truth_of .nil pass0 (pa_cons (pe_ix ix_tup (pv 0) pe_int (fun _ _ => rfl)) (pa_cons (pv 1) pa_nil))) pa_nil)))))
 pss_nil)
 (pss_cons (ps_if (pt_cmpR op_eq (pv 2) pe_str (nomark _))
 (pss_one (ps_ret (pe_call G_negated (hr.mono (by omega)) rfl g_negated F_negated.kp B_negated .nil pass0 (pa_cons (pe_call G_truth_of (hr.mono (by omega)) rfl g_truth_of F_truth_of.kp B_truth_of .nil pass0 (pa_cons (pe_ix ix_tup (pv 0) pe_int (fun _ _ => rfl)) (pa_cons (pv 1) pa_nil))) pa_nil))))
 pss_nil)
 (pss_one (ps_ret (pe_cmpR op_eq (pv 2) pe_str (nomark _)))))))))), ?_⟩
      cases t with
      | wi c ps =>
        obtain ⟨a, p, rfl, h1, h2, h3⟩ := ht
        walk_at "rd"
        refine s_yes ?_
        walk_at "rd"
        unfold tDGet
        walk_at "rd"
        refine ⟨m, ov (ρ c), rfl, hv.get (List.mem_singleton.mpr rfl), ?_⟩
        walk_at "rd"
        exact ⟨ρ c, p, ps, rfl, h2, h3, q H (Same.refl H)⟩
      | mi c =>
        obtain ⟨a, rfl, h1⟩ := ht
        walk_at "rd"
        refine s_no rfl ?_
        walk_at "rd"
        refine s_yes ?_
        walk_at "rd"
        unfold tDGet
        walk_at "rd"
        refine ⟨m, ov (ρ c), rfl, hv.get (List.mem_singleton.mpr rfl), ?_⟩
        walk_at "rd"
        have z := q H (Same.refl H)
        cases e : ρ c with
        | none =>
          simp only [Tr.sem, e] at z
          exact z
        | some n =>
          simp only [Tr.sem, e] at z
          exact z
      | al =>
        obtain ⟨a, rfl, h1⟩ := ht
        walk_at "rd"
        refine s_no rfl ?_
        walk_at "rd"
        refine s_no rfl ?_
        walk_at "rd"
        refine s_no rfl ?_
        walk_at "rd"
        refine s_no rfl ?_
        walk_at "rd"
        refine s_no rfl ?_
        walk_at "rd"
        exact q H (Same.refl H)
      | ne =>
        obtain ⟨a, rfl, h1⟩ := ht
        walk_at "rd"
        refine s_no rfl ?_
        walk_at "rd"
        refine s_no rfl ?_
        walk_at "rd"
        refine s_no rfl ?_
        walk_at "rd"
        refine s_no rfl ?_
        walk_at "rd"
        refine s_no rfl ?_
        walk_at "rd"
        exact q H (Same.refl H)
      | an l r =>
        obtain ⟨a, x, y, rfl, h1, h2, h3⟩ := ht
        have d1 : l.deep ≤ d ∧ r.deep ≤ d := by
          simp only [Tr.deep] at hd
          omega
        walk_at "rd"
        refine s_no rfl ?_
        walk_at "rd"
        refine s_no rfl ?_
        walk_at "rd"
        refine s_yes ?_
        walk_at "rd"
        refine ⟨l, x, m, ρ, rfl, h2, d1.1, hv.sub fun c hc => List.mem_append_left _ hc, fun H1 s1 => ?_⟩
        have h1' := s1 _ _ h1
        walk_at "rd"
        refine ⟨r, y, m, ρ, rfl, h3.up s1, d1.2, (hv.up s1).sub fun c hc => List.mem_append_right _ hc, fun H2 s2 => ?_⟩
        walk_at "rd"
        exact ⟨_, _, rfl, q H2 (fun b o z => s2 _ _ (s1 _ _ z))⟩
      | ou l r =>
        obtain ⟨a, x, y, rfl, h1, h2, h3⟩ := ht
        have d1 : l.deep ≤ d ∧ r.deep ≤ d := by
          simp only [Tr.deep] at hd
          omega
        walk_at "rd"
        refine s_no rfl ?_
        walk_at "rd"
        refine s_no rfl ?_
        walk_at "rd"
        refine s_no rfl ?_
        walk_at "rd"
        refine s_yes ?_
        walk_at "rd"
        refine ⟨l, x, m, ρ, rfl, h2, d1.1, hv.sub fun c hc => List.mem_append_left _ hc, fun H1 s1 => ?_⟩
        have h1' := s1 _ _ h1
        walk_at "rd"
        refine ⟨r, y, m, ρ, rfl, h3.up s1, d1.2, (hv.up s1).sub fun c hc => List.mem_append_right _ hc, fun H2 s2 => ?_⟩
        walk_at "rd"
        exact ⟨_, _, rfl, q H2 (fun b o z => s2 _ _ (s1 _ _ z))⟩
      | no t =>
        obtain ⟨a, x, rfl, h1, h2⟩ := ht
        have d1 : t.deep ≤ d := by
          simp only [Tr.deep] at hd
          omega
        walk_at "rd"
        refine s_no rfl ?_
        walk_at "rd"
        refine s_no rfl ?_
        walk_at "rd"
        refine s_no rfl ?_
        walk_at "rd"
        refine s_no rfl ?_
        walk_at "rd"
        refine s_yes ?_
        walk_at "rd"
        refine ⟨t, x, m, ρ, rfl, h2, d1, hv, fun H1 s1 => ?_⟩
        walk_at "rd"
        exact ⟨_, rfl, q H1 s1⟩
end
end Spk

set_option Elab.async false
set_option linter.all false
set_option maxRecDepth 100000
set_option maxHeartbeats 1000000
namespace Spk
open PySem L2
local macro_rules | `(tactic| walk_at "rd") => `(tactic| repeat (first
  | with_reducible refine i_seq ?_ | with_reducible refine i_asg ?_ | with_reducible refine i_ret ?_ | with_reducible refine i_ifS ?_ | with_reducible refine i_if ?_
  | with_reducible refine i_for ?_ | with_reducible refine i_iL ?_ | with_reducible refine i_iT ?_ | with_reducible refine i_ckw ?_ | with_reducible refine i_cm ?_ | with_reducible refine And.intro (rfl : V.ref _ = V.ref _) ?_ | with_reducible refine i_rng1 ?_ | with_reducible refine i_bm ?_ | with_reducible refine i_bm0 ?_
  | with_reducible refine i_drop ?_ | with_reducible refine i_next ?_
  | with_reducible refine i_var rfl ?_ | with_reducible refine i_c ?_ | with_reducible refine i_op ?_ | with_reducible refine i_un ?_ | with_reducible refine i_name ?_
  | with_reducible refine i_rI0 ?_ | with_reducible refine i_rU ?_ | with_reducible refine i_rEq rfl ?_ | with_reducible refine i_rNe rfl ?_
  | with_reducible refine i_test ?_ | with_reducible refine i_tB ?_ | with_reducible refine i_and ?_ | with_reducible refine i_or ?_ | with_reducible refine i_not ?_
  | with_reducible refine i_andV ?_ | with_reducible refine i_orV ?_ | with_reducible refine i_notV ?_
  | with_reducible refine i_cons ?_ | with_reducible refine i_nil ?_ | with_reducible refine i_cb ?_ | with_reducible refine i_call ?_ | with_reducible refine i_bl ?_
  | with_reducible refine i_tup ?_ | with_reducible refine i_lst ?_ | with_reducible refine i_par ?_ | with_reducible refine i_gcons ?_ | with_reducible refine i_gnil ?_
  | with_reducible refine And.intro (rfl : V.non = V.non) ?_ | with_reducible refine i_ixT (by assumption) rfl ?_ | with_reducible refine i_ixL (by assumption) rfl ?_ | with_reducible refine i_gtup (by assumption) rfl ?_
  | with_reducible refine i_gsub ?_
  | with_reducible refine Or.inl (Exists.intro _ (And.intro (rfl : [V.int _] = [V.int _]) ?_)) | with_reducible refine Exists.intro _ (And.intro (rfl : [V.int _] = [V.int _]) ?_)
  | with_reducible refine Or.inr (Exists.intro _ (And.intro (rfl : [V.bl _] = [V.bl _]) ?_))
  | with_reducible refine Exists.intro _ (Exists.intro _ (And.intro (rfl : [V.int _, V.int _] = [V.int _, V.int _]) ?_))
  | with_reducible refine Exists.intro _ (Exists.intro _ (And.intro (rfl : [V.ref _] = [V.ref _]) (And.intro (Or.inl (SqL.of (by assumption))) ?_)))
  | with_reducible refine i_rI (show (0 : Int) < _ by assumption) ?_ | with_reducible refine i_rI (show (0 : Int) < _ by decide) ?_
  | with_reducible refine i_rI (pow_ok (Nat.le_of_ble_eq_true rfl) (Nat.le_of_ble_eq_true rfl)) ?_
  | with_reducible refine i_rI (cmulL rfl) ?_))
/-! ### the columns of two filters -/
theorem withTx_nodup {l : List Str} {k : Str} (h : l.Nodup) : (withTx l k).Nodup := by
  unfold withTx
  split
  · exact h
  · rename_i z
    exact List.nodup_cons.mpr ⟨z, h⟩
theorem onceTx_nodup : ∀ (xs l : List Str), l.Nodup → (onceTx l xs).Nodup
  | [], _, h => h
  | _ :: ys, _, h => onceTx_nodup ys _ (withTx_nodup h)
/-- a tuple of texts, ascending, each once: these -/
structure ColsOk (cs : List Str) (m : Str → Prop) (n : Nat) : Prop where
  up : PyProof.Rows.sortedS cs = true
  nd : cs.Nodup
  mem : ∀ c, c ∈ cs ↔ m c
  len : cs.length ≤ n
theorem i_txSet {K : PySem.W.Frag} {P : Program} {w : World} {H : Hp} {u : Addr} {xs : List Str} {R : VK} (hu : H u = some (.tup (xs.map V.str))) (hz : xs.length ≤ 1000) (k : ∀ b H2, Same H H2 → H2 b = some (TxO P w b (onceTx [] xs)) → R (.ref b) H2) : rTxSet K P w [.ref u] H R := by
  refine ⟨u, xs, rfl, SqT.of hu, hz, fun b hb => ?_⟩
  obtain ⟨H2, e2, s2, h2⟩ := new_heap (o := TxO P w b (onceTx [] xs)) hb
  rw [e2]
  exact k b H2 s2 h2
theorem i_txSort {P : Program} {w : World} {H : Hp} {b : Addr} {xs : List Str} {R : VK} (hb : H b = some (TxO P w b (onceTx [] xs))) (hz : xs.length < 64)
    (k : ∀ l H2, ∀ zs : List Str, Same H H2 → H2 l = some (.lst (zs.map V.str)) → ColsOk zs (fun c => c ∈ xs) xs.length → R (.ref l) H2) : rTxSorted P w [.ref b] H R := by
  have le := onceTx_len xs []
  have z0 : ([] : List Str).length = 0 := rfl
  refine ⟨b, onceTx [] xs, rfl, hb, by omega, fun zs l pe so hl => ?_⟩
  obtain ⟨H3, e3, s3, h3⟩ := new_heap (o := .lst (zs.map V.str)) hl
  rw [e3]
  refine k l H3 zs s3 h3 ⟨so, pe.nodup_iff.mpr (onceTx_nodup _ _ List.nodup_nil), fun c => ?_, by rw [pe.length_eq]; omega⟩
  rw [pe.mem_iff, onceTx_mem]
  simp
section
variable {P : Program} {w : World} {K : PySem.W.Frag} {mg : Str → Option Value} {base : Heap}
abbrev s_all_columns : Stmt := top 11
theorem sc_all_columns : FnScope ["one", "other"] ["one", "other"] (defScope s_all_columns) := ⟨rfl, rfl, rfl, by decide +kernel, rfl, by decide +kernel, by decide +kernel⟩
def sp_all_columns : Sp := fun vs H Q _ => ∃ (p q : Addr) (xs ys : List Str), vs = [.ref p, .ref q] ∧ H p = some (.tup (xs.map V.str)) ∧ H q = some (.tup (ys.map V.str)) ∧ xs.length + ys.length < 64 ∧
  ∀ (r : Addr) (H' : Hp) (zs : List Str), Same H H' → H' r = some (.tup (zs.map V.str)) → ColsOk zs (fun c => c ∈ xs ∨ c ∈ ys) (xs.length + ys.length) → Q (.ref r) H'
theorem ok_all_columns {f : Addr} {fd : FuncData} (F : Fun K "all_columns" "all_columns" s_all_columns f fd) (z_tuple : mg "tuple" = none) (z_sorted : mg "sorted" = none) (z_set : mg "set" = none) : FnOk P w K mg base CX0 1 f fd ["one", "other"] sp_all_columns := by
  refine F.ok sc_all_columns (fun vs H Q E h => ?_) (fun cdv A outer s H vs Q E hr h => ?_)
  · obtain ⟨p, q, xs, ys, rfl, _⟩ := h
    rfl
  · obtain ⟨p, q, xs, ys, rfl, hp, hq, hz, k⟩ := h
    refine ⟨_, (pss_one (ps_ret (pe_callTy call_tuple_of (by rfl) z_tuple (by decide +kernel) (pa_cons (pe_callB (cr_txSorted rfl) (by rfl) z_sorted (by decide +kernel) (pa_cons (pe_callTy (cr_txSet rfl) (by rfl) z_set (by decide +kernel) (pa_cons (pe_op op_catA (pv 0) (pv 1)) pa_nil)) pa_nil)) pa_nil)))), ?_⟩
    have fin : ∀ (l : Addr) (H3 : Hp) (zs : List Str), Same H H3 → H3 l = some (.lst (zs.map V.str)) → ColsOk zs (fun c => c ∈ xs ++ ys) (xs ++ ys).length → ∀ r, H3 r = none → Q (.ref r) (upd H3 r (.tup (zs.map V.str))) := by
      intro l H3 zs s3 h3 ok r hr
      obtain ⟨H4, e4, s4, h4⟩ := new_heap (o := .tup (zs.map V.str)) hr
      rw [e4]
      exact k r H4 zs (fun a o e => s4 _ _ (s3 _ _ e)) h4 ⟨ok.up, ok.nd, fun c => (ok.mem c).trans List.mem_append, by have := ok.len; rw [List.length_append] at this; exact this⟩
    have hz2 : (xs ++ ys).length < 64 := by rw [List.length_append]; exact hz
    walk_at "rd"
    refine ⟨p, q, xs.map V.str, ys.map V.str, rfl, rfl, SqT.of hp, SqT.of hq, size_of (by simp; omega), fun e => ?_, fun _ e => ?_, fun _ _ u hu => ?_⟩
    · have hx : xs = [] := List.map_eq_nil_iff.mp e
      subst hx
      walk_at "rd"
      refine i_txSet hq (by simp at hz; omega) fun b H2 s2 h2 => ?_
      walk_at "rd"
      refine i_txSort h2 (by simpa using hz) fun l H3 zs s3 h3 ok => ?_
      walk_at "rd"
      exact ⟨l, _, rfl, .inl ⟨SqL.of h3, fin l H3 zs (fun a o e => s3 _ _ (s2 _ _ e)) h3 ok⟩⟩
    · have hy : ys = [] := List.map_eq_nil_iff.mp e
      subst hy
      walk_at "rd"
      refine i_txSet hp (by simp at hz; omega) fun b H2 s2 h2 => ?_
      walk_at "rd"
      refine i_txSort h2 (by simpa using hz) fun l H3 zs s3 h3 ok => ?_
      walk_at "rd"
      rw [List.append_nil] at fin
      exact ⟨l, _, rfl, .inl ⟨SqL.of h3, fin l H3 zs (fun a o e => s3 _ _ (s2 _ _ e)) h3 ok⟩⟩
    · rw [← List.map_append]
      obtain ⟨H1, e1, s1, h1⟩ := new_heap (o := .tup ((xs ++ ys).map V.str)) hu
      rw [e1]
      walk_at "rd"
      refine i_txSet h1 (by omega) fun b H2 s2 h2 => ?_
      walk_at "rd"
      refine i_txSort h2 hz2 fun l H3 zs s3 h3 ok => ?_
      walk_at "rd"
      exact ⟨l, _, rfl, .inl ⟨SqL.of h3, fin l H3 zs (fun a o e => s3 _ _ (s2 _ _ (s1 _ _ e))) h3 ok⟩⟩
end
end Spk

set_option Elab.async false
set_option linter.all false
set_option maxRecDepth 100000
set_option maxHeartbeats 1000000
namespace Spk
open PySem L2
local macro_rules | `(tactic| walk_at "rd") => `(tactic| repeat (first
  | with_reducible refine i_seq ?_ | with_reducible refine i_asg ?_ | with_reducible refine i_ret ?_ | with_reducible refine i_ifS ?_ | with_reducible refine i_if ?_
  | with_reducible refine i_for ?_ | with_reducible refine i_iL ?_ | with_reducible refine i_iT ?_ | with_reducible refine i_ckw ?_ | with_reducible refine i_cm ?_ | with_reducible refine And.intro (rfl : V.ref _ = V.ref _) ?_ | with_reducible refine i_rng1 ?_ | with_reducible refine i_bm ?_ | with_reducible refine i_bm0 ?_
  | with_reducible refine i_drop ?_ | with_reducible refine i_next ?_
  | with_reducible refine i_var rfl ?_ | with_reducible refine i_c ?_ | with_reducible refine i_op ?_ | with_reducible refine i_un ?_ | with_reducible refine i_name ?_
  | with_reducible refine i_rI0 ?_ | with_reducible refine i_rU ?_ | with_reducible refine i_rEq rfl ?_ | with_reducible refine i_rNe rfl ?_
  | with_reducible refine i_test ?_ | with_reducible refine i_tB ?_ | with_reducible refine i_and ?_ | with_reducible refine i_or ?_ | with_reducible refine i_not ?_
  | with_reducible refine i_andV ?_ | with_reducible refine i_orV ?_ | with_reducible refine i_notV ?_
  | with_reducible refine i_cons ?_ | with_reducible refine i_nil ?_ | with_reducible refine i_cb ?_ | with_reducible refine i_call ?_ | with_reducible refine i_bl ?_
  | with_reducible refine i_tup ?_ | with_reducible refine i_lst ?_ | with_reducible refine i_par ?_ | with_reducible refine i_gcons ?_ | with_reducible refine i_gnil ?_
  | with_reducible refine And.intro (rfl : V.non = V.non) ?_ | with_reducible refine i_ixT (by assumption) rfl ?_ | with_reducible refine i_ixL (by assumption) rfl ?_ | with_reducible refine i_gtup (by assumption) rfl ?_
  | with_reducible refine i_gsub ?_
  | with_reducible refine Or.inl (Exists.intro _ (And.intro (rfl : [V.int _] = [V.int _]) ?_)) | with_reducible refine Exists.intro _ (And.intro (rfl : [V.int _] = [V.int _]) ?_)
  | with_reducible refine Or.inr (Exists.intro _ (And.intro (rfl : [V.bl _] = [V.bl _]) ?_))
  | with_reducible refine Exists.intro _ (Exists.intro _ (And.intro (rfl : [V.int _, V.int _] = [V.int _, V.int _]) ?_))
  | with_reducible refine Exists.intro _ (Exists.intro _ (And.intro (rfl : [V.ref _] = [V.ref _]) (And.intro (Or.inl (SqL.of (by assumption))) ?_)))
  | with_reducible refine i_rI (show (0 : Int) < _ by assumption) ?_ | with_reducible refine i_rI (show (0 : Int) < _ by decide) ?_
  | with_reducible refine i_rI (pow_ok (Nat.le_of_ble_eq_true rfl) (Nat.le_of_ble_eq_true rfl)) ?_
  | with_reducible refine i_rI (cmulL rfl) ?_))
/-! ### the class Filter -/
/-- what the text says of the class -/
structure ClsF (K : PySem.W.Frag) (mg : Str → Option Value) (D fI : Addr) : Prop where
  cl : Cls K D
  nT : NoAttr K D "tree"
  nC : NoAttr K D "columns"
  M : Mk K D fI
  g_CF : mg "Filter" = some (.ref D)
/-- a filter with this tree -/
def Fil (D : Addr) (H : Hp) (x : Addr) (t : Tr) : Prop := ∃ dx v q cs, H x = some (.ins D dx [("tree", v), ("columns", .ref q)]) ∧ TreeAt H t v ∧ H q = some (.tup (cs.map V.str)) ∧ ColsOk cs (fun c => c ∈ t.cols) t.many
theorem Fil.up {D : Addr} {H H' : Hp} {x : Addr} {t : Tr} (e : Same H H') (h : Fil D H x t) : Fil D H' x t := by
  obtain ⟨dx, v, q, cs, h1, h2, h3, h4⟩ := h
  exact ⟨dx, v, q, cs, e _ _ h1, h2.up e, e _ _ h3, h4⟩
theorem Fil.keep {D : Addr} {H H' : Hp} {x : Addr} {t : Tr} (e : Keep H H') (h : Fil D H x t) : Fil D H' x t := by
  obtain ⟨dx, v, q, cs, h1, h2, h3, h4⟩ := h
  exact ⟨dx, v, q, cs, e _ _ rfl h1, h2.keep e, e _ _ rfl h3, h4⟩
theorem lk_tree {v u : V} : ([("tree", v), ("columns", u)] : List (Str × V)).lookup ("tree" : Str) = some v := by
  show (match (("tree" : Str) == "tree") with | true => some v | false => List.lookup ("tree" : Str) [(("columns" : Str), u)]) = some v
  rw [beq_self_eq_true]
theorem lk_columns {v u : V} : ([("tree", v), ("columns", u)] : List (Str × V)).lookup ("columns" : Str) = some u := by
  show (match (("columns" : Str) == "tree") with | true => some v | false => (match (("columns" : Str) == "columns") with | true => some u | false => none)) = some u
  rw [show (("columns" : Str) == "tree") = false from rfl, beq_self_eq_true]
section
variable {P : Program} {w : World} {K : PySem.W.Frag} {mg : Str → Option Value} {base : Heap} {C fI fE D fJ : Addr}
abbrev s_Filter__init : Stmt := inClass (top 10) 0
theorem sc_Filter__init : FnScope ["self", "tree", "columns"] ["self", "tree", "columns"] (defScope s_Filter__init) := ⟨rfl, rfl, rfl, by decide +kernel, rfl, by decide +kernel, by decide +kernel⟩
def sp_finit (D : Addr) : Sp := fun vs H Q _ => ∃ x dx v q, vs = [.ref x, v, q] ∧ H x = some (.ins D dx []) ∧ Q .non (upd H x (.ins D dx [("tree", v), ("columns", q)]))
theorem ok_finit {fd : FuncData} (F : Fun K "__init__" "Filter.__init__" s_Filter__init fJ fd) (T : ClsF K mg D fJ) : FnOk P w K mg base CX0 1 fJ fd ["self", "tree", "columns"] (sp_finit D) := by
  refine F.ok sc_Filter__init (fun vs H Q E h => ?_) (fun cdv A outer s H vs Q E hr h => ?_)
  · obtain ⟨x, dx, v, q, rfl, _⟩ := h
    rfl
  · obtain ⟨x, dx, v, q, rfl, hx, k⟩ := h
    refine ⟨_, (pss_cons (ps_fld (pv 0) (pv 1) rfl)
 (pss_one (ps_fld (pv 0) (pv 2) rfl))), ?_⟩
    refine ⟨_, rfl, _, rfl, x, D, dx, [], rfl, hx, T.cl, T.nT, (by show 0 < 1000; decide), ?_⟩
    have h1 : upd H x (.ins D dx [("tree", v)]) x = some (.ins D dx [("tree", v)]) := upd_same
    refine ⟨_, rfl, _, rfl, x, D, dx, [("tree", v)], rfl, h1, T.cl, T.nC, (by show 1 < 1000; decide), ?_⟩
    have e : upd (upd H x (.ins D dx [("tree", v)])) x (.ins D dx [("tree", v), ("columns", q)]) = upd H x (.ins D dx [("tree", v), ("columns", q)]) := L2.upd_upd
    rw [← e] at k
    exact k
/-- the promise of __init__ where a filter is made -/
abbrev spJ (D : Addr) : Sp := fun vs H Q E => sp_finit D (vs ++ []) H Q E
/-- «a new filter with this tree» -/
abbrev NewF (D : Addr) (H : Hp) (Q : VK) (t : Tr) : Prop := ∀ x H', Same H H' → Fil D H' x t → Q (.ref x) H'
theorem mk_fil {H : Hp} {v : V} {q : Addr} {t : Tr} {cs : List Str} {Q : VK} (ht : TreeAt H t v) (hq : H q = some (.tup (cs.map V.str))) (ok : ColsOk cs (fun c => c ∈ t.cols) t.many) (k : NewF D H Q t) :
    ∀ x dx, H x = none → H dx = none → dx ≠ x → spJ D (V.ref x :: [v, .ref q]) (upd (upd H dx (.own x)) x (.ins D dx [])) (fun u H2 => u = .non ∧ Q (.ref x) H2) E0 := by
  intro x dx hx hdx hne
  refine ⟨x, dx, v, .ref q, rfl, upd_same, rfl, ?_⟩
  have sm : Same H (upd (upd (upd H dx (.own x)) x (.ins D dx [])) x (.ins D dx [("tree", v), ("columns", .ref q)])) := fun b o e => by
    rw [upd_ne (ne_of_none e hx), upd_ne (ne_of_none e hx), upd_ne (ne_of_none e hdx)]
    exact e
  exact k x _ sm ⟨dx, v, q, cs, upd_same, ht.up sm, sm _ _ hq, ok⟩
theorem cols_nil (n : Nat) : ColsOk [] (fun c => c ∈ ([] : List Str)) n := ⟨rfl, List.nodup_nil, fun c => Iff.rfl, Nat.zero_le _⟩
theorem cols_one (x : Str) : ColsOk [x] (fun c => c ∈ [x]) 1 := ⟨rfl, List.nodup_cons.mpr ⟨List.not_mem_nil, List.nodup_nil⟩, fun c => Iff.rfl, Nat.le_refl _⟩
abbrev s_Filter_within : Stmt := inClass (top 10) 1
theorem sc_Filter_within : FnScope ["cls", "column", "ranges"] ["cls", "column", "ranges"] (defScope s_Filter_within) := ⟨rfl, rfl, rfl, by decide +kernel, rfl, by decide +kernel, by decide +kernel⟩
def sp_fwithin (C D : Addr) : Sp := fun vs H Q _ => ∃ c r ps, vs = [.ref D, .str c, .ref r] ∧ Rng C H r ps ∧ NewF D H Q (.wi c ps)
theorem ok_fwithin {f : Addr} {fd fdI : FuncData} (F : Fun K "within" "Filter.within" s_Filter_within f fd) (FI : Fun K "__init__" "Filter.__init__" s_Filter__init fJ fdI) (B_init : Binds K fdI ["self", "tree", "columns"] []) (T : ClsF K mg D fJ) (TC : ClsT K mg C fI fE) :
    FnOk P w K mg base CX0 3 f fd ["cls", "column", "ranges"] (sp_fwithin C D) := by
  have RI : FnR P w K mg base CX0 1 fJ (spJ D) := FnOk.raw (ok_finit FI T) B_init .nil
  have M := T.M
  refine F.ok sc_Filter_within (fun vs H Q E h => ?_) (fun cdv A outer s H vs Q E hr h => ?_)
  · obtain ⟨c, r, ps, rfl, _⟩ := h
    rfl
  · obtain ⟨c, r, ps, rfl, ⟨dx, t, hx, hp, ca⟩, k⟩ := h
    refine ⟨_, (pss_one (ps_ret (pe_makeL (i := 0) M RI (hr.mono (by decide)) rfl (Or.inl rfl) pass0 (pa_cons (pe_tup (pa_cons pe_str (pa_cons (pv 1) (pa_cons (pe_fld (pv 2) rfl) pa_nil)))) (pa_cons (pe_tup (pa_cons (pv 1) pa_nil)) pa_nil))))), ?_⟩
    walk_at "rd"
    refine ⟨rfl, ?_⟩
    unfold StX.tMakeR
    walk_at "rd"
    refine ⟨_, rfl, r, C, dx, _, _, rfl, hx, TC.cl, TC.nP, lk_parts, ?_⟩
    walk_at "rd"
    refine ⟨size_of (Nat.le_of_ble_eq_true rfl), fun p h0 => ?_⟩
    obtain ⟨H1, e1, s1, h1⟩ := new_heap (o := .tup [.str "within", .str c, .ref t]) h0
    rw [e1]
    walk_at "rd"
    refine ⟨size_of (Nat.le_of_ble_eq_true rfl), fun p' hp' => ?_⟩
    obtain ⟨H2, e2, s2, h2⟩ := new_heap (o := .tup [.str c]) hp'
    rw [e2]
    walk_at "rd"
    have tr : TreeAt H2 (.wi c ps) (.ref p) := ⟨p, t, rfl, s2 _ _ h1, (hp.up s1).up s2, ca⟩
    exact mk_fil (cs := [c]) tr h2 (cols_one c) fun x H' s3 hf => k x H' (fun b o z => s3 _ _ (s2 _ _ (s1 _ _ z))) hf
abbrev s_Filter_missing : Stmt := inClass (top 10) 2
theorem sc_Filter_missing : FnScope ["cls", "column"] ["cls", "column"] (defScope s_Filter_missing) := ⟨rfl, rfl, rfl, by decide +kernel, rfl, by decide +kernel, by decide +kernel⟩
def sp_fmissing (D : Addr) : Sp := fun vs H Q _ => ∃ c, vs = [.ref D, .str c] ∧ NewF D H Q (.mi c)
theorem ok_fmissing {f : Addr} {fd fdI : FuncData} (F : Fun K "missing" "Filter.missing" s_Filter_missing f fd) (FI : Fun K "__init__" "Filter.__init__" s_Filter__init fJ fdI) (B_init : Binds K fdI ["self", "tree", "columns"] []) (T : ClsF K mg D fJ) :
    FnOk P w K mg base CX0 3 f fd ["cls", "column"] (sp_fmissing D) := by
  have RI : FnR P w K mg base CX0 1 fJ (spJ D) := FnOk.raw (ok_finit FI T) B_init .nil
  have M := T.M
  refine F.ok sc_Filter_missing (fun vs H Q E h => ?_) (fun cdv A outer s H vs Q E hr h => ?_)
  · obtain ⟨c, rfl, _⟩ := h
    rfl
  · obtain ⟨c, rfl, k⟩ := h
    refine ⟨_, (pss_one (ps_ret (pe_makeL (i := 0) M RI (hr.mono (by decide)) rfl (Or.inl rfl) pass0 (pa_cons (pe_tup (pa_cons pe_str (pa_cons (pv 1) pa_nil))) (pa_cons (pe_tup (pa_cons (pv 1) pa_nil)) pa_nil))))), ?_⟩
    walk_at "rd"
    refine ⟨rfl, ?_⟩
    unfold StX.tMakeR
    walk_at "rd"
    refine ⟨size_of (Nat.le_of_ble_eq_true rfl), fun p h0 => ?_⟩
    obtain ⟨H1, e1, s1, h1⟩ := new_heap (o := .tup [.str "missing", .str c]) h0
    rw [e1]
    walk_at "rd"
    refine ⟨size_of (Nat.le_of_ble_eq_true rfl), fun p' hp' => ?_⟩
    obtain ⟨H2, e2, s2, h2⟩ := new_heap (o := .tup [.str c]) hp'
    rw [e2]
    walk_at "rd"
    have tr : TreeAt H2 (.mi c) (.ref p) := ⟨p, rfl, s2 _ _ h1⟩
    exact mk_fil (cs := [c]) tr h2 (cols_one c) fun x H' s3 hf => k x H' (fun b o z => s3 _ _ (s2 _ _ (s1 _ _ z))) hf
abbrev s_Filter_always : Stmt := inClass (top 10) 3
theorem sc_Filter_always : FnScope ["cls"] ["cls"] (defScope s_Filter_always) := ⟨rfl, rfl, rfl, by decide +kernel, rfl, by decide +kernel, by decide +kernel⟩
def sp_falways (D : Addr) : Sp := fun vs H Q _ => vs = [.ref D] ∧ NewF D H Q .al
theorem ok_falways {f : Addr} {fd fdI : FuncData} (F : Fun K "always" "Filter.always" s_Filter_always f fd) (FI : Fun K "__init__" "Filter.__init__" s_Filter__init fJ fdI) (B_init : Binds K fdI ["self", "tree", "columns"] []) (T : ClsF K mg D fJ) :
    FnOk P w K mg base CX0 3 f fd ["cls"] (sp_falways D) := by
  have RI : FnR P w K mg base CX0 1 fJ (spJ D) := FnOk.raw (ok_finit FI T) B_init .nil
  have M := T.M
  refine F.ok sc_Filter_always (fun vs H Q E h => ?_) (fun cdv A outer s H vs Q E hr h => ?_)
  · obtain ⟨rfl, _⟩ := h
    rfl
  · obtain ⟨rfl, k⟩ := h
    refine ⟨_, (pss_one (ps_ret (pe_makeL (i := 0) M RI (hr.mono (by decide)) rfl (Or.inl rfl) pass0 (pa_cons (pe_tup (pa_cons pe_str pa_nil)) (pa_cons (pe_tup pa_nil) pa_nil))))), ?_⟩
    walk_at "rd"
    refine ⟨rfl, ?_⟩
    unfold StX.tMakeR
    walk_at "rd"
    refine ⟨size_of (Nat.le_of_ble_eq_true rfl), fun p h0 => ?_⟩
    obtain ⟨H1, e1, s1, h1⟩ := new_heap (o := .tup [.str "always"]) h0
    rw [e1]
    walk_at "rd"
    refine ⟨Nat.zero_le _, fun p' hp' => ?_⟩
    obtain ⟨H2, e2, s2, h2⟩ := new_heap (o := .tup []) hp'
    rw [e2]
    walk_at "rd"
    have tr : TreeAt H2 .al (.ref p) := ⟨p, rfl, s2 _ _ h1⟩
    exact mk_fil (cs := []) tr h2 (cols_nil 1) fun x H' s3 hf => k x H' (fun b o z => s3 _ _ (s2 _ _ (s1 _ _ z))) hf
abbrev s_Filter_never : Stmt := inClass (top 10) 4
theorem sc_Filter_never : FnScope ["cls"] ["cls"] (defScope s_Filter_never) := ⟨rfl, rfl, rfl, by decide +kernel, rfl, by decide +kernel, by decide +kernel⟩
def sp_fnever (D : Addr) : Sp := fun vs H Q _ => vs = [.ref D] ∧ NewF D H Q .ne
theorem ok_fnever {f : Addr} {fd fdI : FuncData} (F : Fun K "never" "Filter.never" s_Filter_never f fd) (FI : Fun K "__init__" "Filter.__init__" s_Filter__init fJ fdI) (B_init : Binds K fdI ["self", "tree", "columns"] []) (T : ClsF K mg D fJ) :
    FnOk P w K mg base CX0 3 f fd ["cls"] (sp_fnever D) := by
  have RI : FnR P w K mg base CX0 1 fJ (spJ D) := FnOk.raw (ok_finit FI T) B_init .nil
  have M := T.M
  refine F.ok sc_Filter_never (fun vs H Q E h => ?_) (fun cdv A outer s H vs Q E hr h => ?_)
  · obtain ⟨rfl, _⟩ := h
    rfl
  · obtain ⟨rfl, k⟩ := h
    refine ⟨_, (pss_one (ps_ret (pe_makeL (i := 0) M RI (hr.mono (by decide)) rfl (Or.inl rfl) pass0 (pa_cons (pe_tup (pa_cons pe_str pa_nil)) (pa_cons (pe_tup pa_nil) pa_nil))))), ?_⟩
    walk_at "rd"
    refine ⟨rfl, ?_⟩
    unfold StX.tMakeR
    walk_at "rd"
    refine ⟨size_of (Nat.le_of_ble_eq_true rfl), fun p h0 => ?_⟩
    obtain ⟨H1, e1, s1, h1⟩ := new_heap (o := .tup [.str "never"]) h0
    rw [e1]
    walk_at "rd"
    refine ⟨Nat.zero_le _, fun p' hp' => ?_⟩
    obtain ⟨H2, e2, s2, h2⟩ := new_heap (o := .tup []) hp'
    rw [e2]
    walk_at "rd"
    have tr : TreeAt H2 .ne (.ref p) := ⟨p, rfl, s2 _ _ h1⟩
    exact mk_fil (cs := []) tr h2 (cols_nil 1) fun x H' s3 hf => k x H' (fun b o z => s3 _ _ (s2 _ _ (s1 _ _ z))) hf
abbrev s_Filter__and : Stmt := inClass (top 10) 5
theorem sc_Filter__and : FnScope ["self", "other"] ["self", "other"] (defScope s_Filter__and) := ⟨rfl, rfl, rfl, by decide +kernel, rfl, by decide +kernel, by decide +kernel⟩
def sp_fand (D : Addr) : Sp := fun vs H Q _ => ∃ a b l r, vs = [.ref a, .ref b] ∧ Fil D H a l ∧ Fil D H b r ∧ l.many + r.many < 64 ∧ NewF D H Q (.an l r)
theorem ok_fand {f fA : Addr} {fd fdI fdA : FuncData} (F : Fun K "__and__" "Filter.__and__" s_Filter__and f fd) (FI : Fun K "__init__" "Filter.__init__" s_Filter__init fJ fdI) (B_init : Binds K fdI ["self", "tree", "columns"] []) (T : ClsF K mg D fJ)
    (F_all_columns : Fun K "all_columns" "all_columns" s_all_columns fA fdA) (B_all_columns : Binds K fdA ["one", "other"] []) (g_all_columns : mg "all_columns" = some (.ref fA)) (G_all_columns : FnOk P w K mg base CX0 1 fA fdA ["one", "other"] sp_all_columns) :
    FnOk P w K mg base CX0 3 f fd ["self", "other"] (sp_fand D) := by
  have RI : FnR P w K mg base CX0 1 fJ (spJ D) := FnOk.raw (ok_finit FI T) B_init .nil
  have M := T.M
  have g_CF := T.g_CF
  refine F.ok sc_Filter__and (fun vs H Q E h => ?_) (fun cdv A outer s H vs Q E hr h => ?_)
  · obtain ⟨a, b, l, r, rfl, _⟩ := h
    rfl
  · obtain ⟨a, b, l, r, rfl, ⟨dx, v, p, cs, ha, ta, hp, oa⟩, ⟨dy, u, q, ds, hb, tb, hq, ob⟩, hz, k⟩ := h
    refine ⟨_, (pss_one (ps_ret (StX.pe_makeR M RI (hr.mono (by decide)) rfl g_CF pass0 (pa_cons (pe_tup (pa_cons pe_str (pa_cons (pe_fld (pv 0) rfl) (pa_cons (pe_fld (pv 1) rfl) pa_nil)))) (pa_cons (pe_call G_all_columns (hr.mono (by decide)) rfl g_all_columns F_all_columns.kp B_all_columns .nil pass0 (pa_cons (pe_fld (pv 0) rfl) (pa_cons (pe_fld (pv 1) rfl) pa_nil))) pa_nil))))), ?_⟩
    unfold StX.tMakeR
    walk_at "rd"
    refine ⟨_, rfl, a, D, dx, _, _, rfl, ha, T.cl, T.nT, lk_tree, ?_⟩
    walk_at "rd"
    refine ⟨_, rfl, b, D, dy, _, _, rfl, hb, T.cl, T.nT, lk_tree, ?_⟩
    walk_at "rd"
    refine ⟨size_of (Nat.le_of_ble_eq_true rfl), fun t h0 => ?_⟩
    obtain ⟨H1, e1, s1, h1⟩ := new_heap (o := .tup [.str "and", v, u]) h0
    rw [e1]
    walk_at "rd"
    refine ⟨_, rfl, a, D, dx, _, _, rfl, s1 _ _ ha, T.cl, T.nC, lk_columns, ?_⟩
    walk_at "rd"
    refine ⟨_, rfl, b, D, dy, _, _, rfl, s1 _ _ hb, T.cl, T.nC, lk_columns, ?_⟩
    walk_at "rd"
    refine ⟨p, q, cs, ds, rfl, s1 _ _ hp, s1 _ _ hq, by have := oa.len; have := ob.len; omega, fun m H2 es s2 h2 oe => ?_⟩
    walk_at "rd"
    have tr : TreeAt H2 (.an l r) (.ref t) := ⟨t, v, u, rfl, s2 _ _ h1, (ta.up s1).up s2, (tb.up s1).up s2⟩
    refine mk_fil (cs := es) tr h2 ⟨oe.up, oe.nd, fun c => ?_, ?_⟩ fun x H' s3 hf => k x H' (fun b o z => s3 _ _ (s2 _ _ (s1 _ _ z))) hf
    · rw [oe.mem, oa.mem, ob.mem]
      exact List.mem_append.symm
    · have := oe.len
      have := oa.len
      have := ob.len
      simp only [Tr.many]
      omega
abbrev s_Filter__or : Stmt := inClass (top 10) 6
theorem sc_Filter__or : FnScope ["self", "other"] ["self", "other"] (defScope s_Filter__or) := ⟨rfl, rfl, rfl, by decide +kernel, rfl, by decide +kernel, by decide +kernel⟩
def sp_for (D : Addr) : Sp := fun vs H Q _ => ∃ a b l r, vs = [.ref a, .ref b] ∧ Fil D H a l ∧ Fil D H b r ∧ l.many + r.many < 64 ∧ NewF D H Q (.ou l r)
theorem ok_for {f fA : Addr} {fd fdI fdA : FuncData} (F : Fun K "__or__" "Filter.__or__" s_Filter__or f fd) (FI : Fun K "__init__" "Filter.__init__" s_Filter__init fJ fdI) (B_init : Binds K fdI ["self", "tree", "columns"] []) (T : ClsF K mg D fJ)
    (F_all_columns : Fun K "all_columns" "all_columns" s_all_columns fA fdA) (B_all_columns : Binds K fdA ["one", "other"] []) (g_all_columns : mg "all_columns" = some (.ref fA)) (G_all_columns : FnOk P w K mg base CX0 1 fA fdA ["one", "other"] sp_all_columns) :
    FnOk P w K mg base CX0 3 f fd ["self", "other"] (sp_for D) := by
  have RI : FnR P w K mg base CX0 1 fJ (spJ D) := FnOk.raw (ok_finit FI T) B_init .nil
  have M := T.M
  have g_CF := T.g_CF
  refine F.ok sc_Filter__or (fun vs H Q E h => ?_) (fun cdv A outer s H vs Q E hr h => ?_)
  · obtain ⟨a, b, l, r, rfl, _⟩ := h
    rfl
  · obtain ⟨a, b, l, r, rfl, ⟨dx, v, p, cs, ha, ta, hp, oa⟩, ⟨dy, u, q, ds, hb, tb, hq, ob⟩, hz, k⟩ := h
    refine ⟨_, (pss_one (ps_ret (StX.pe_makeR M RI (hr.mono (by decide)) rfl g_CF pass0 (pa_cons (pe_tup (pa_cons pe_str (pa_cons (pe_fld (pv 0) rfl) (pa_cons (pe_fld (pv 1) rfl) pa_nil)))) (pa_cons (pe_call G_all_columns (hr.mono (by decide)) rfl g_all_columns F_all_columns.kp B_all_columns .nil pass0 (pa_cons (pe_fld (pv 0) rfl) (pa_cons (pe_fld (pv 1) rfl) pa_nil))) pa_nil))))), ?_⟩
    unfold StX.tMakeR
    walk_at "rd"
    refine ⟨_, rfl, a, D, dx, _, _, rfl, ha, T.cl, T.nT, lk_tree, ?_⟩
    walk_at "rd"
    refine ⟨_, rfl, b, D, dy, _, _, rfl, hb, T.cl, T.nT, lk_tree, ?_⟩
    walk_at "rd"
    refine ⟨size_of (Nat.le_of_ble_eq_true rfl), fun t h0 => ?_⟩
    obtain ⟨H1, e1, s1, h1⟩ := new_heap (o := .tup [.str "or", v, u]) h0
    rw [e1]
    walk_at "rd"
    refine ⟨_, rfl, a, D, dx, _, _, rfl, s1 _ _ ha, T.cl, T.nC, lk_columns, ?_⟩
    walk_at "rd"
    refine ⟨_, rfl, b, D, dy, _, _, rfl, s1 _ _ hb, T.cl, T.nC, lk_columns, ?_⟩
    walk_at "rd"
    refine ⟨p, q, cs, ds, rfl, s1 _ _ hp, s1 _ _ hq, by have := oa.len; have := ob.len; omega, fun m H2 es s2 h2 oe => ?_⟩
    walk_at "rd"
    have tr : TreeAt H2 (.ou l r) (.ref t) := ⟨t, v, u, rfl, s2 _ _ h1, (ta.up s1).up s2, (tb.up s1).up s2⟩
    refine mk_fil (cs := es) tr h2 ⟨oe.up, oe.nd, fun c => ?_, ?_⟩ fun x H' s3 hf => k x H' (fun b o z => s3 _ _ (s2 _ _ (s1 _ _ z))) hf
    · rw [oe.mem, oa.mem, ob.mem]
      exact List.mem_append.symm
    · have := oe.len
      have := oa.len
      have := ob.len
      simp only [Tr.many]
      omega
abbrev s_Filter__invert : Stmt := inClass (top 10) 7
theorem sc_Filter__invert : FnScope ["self"] ["self"] (defScope s_Filter__invert) := ⟨rfl, rfl, rfl, by decide +kernel, rfl, by decide +kernel, by decide +kernel⟩
def sp_finv (D : Addr) : Sp := fun vs H Q _ => ∃ a t, vs = [.ref a] ∧ Fil D H a t ∧ NewF D H Q (.no t)
theorem ok_finv {f : Addr} {fd fdI : FuncData} (F : Fun K "__invert__" "Filter.__invert__" s_Filter__invert f fd) (FI : Fun K "__init__" "Filter.__init__" s_Filter__init fJ fdI) (B_init : Binds K fdI ["self", "tree", "columns"] []) (T : ClsF K mg D fJ) :
    FnOk P w K mg base CX0 3 f fd ["self"] (sp_finv D) := by
  have RI : FnR P w K mg base CX0 1 fJ (spJ D) := FnOk.raw (ok_finit FI T) B_init .nil
  have M := T.M
  have g_CF := T.g_CF
  refine F.ok sc_Filter__invert (fun vs H Q E h => ?_) (fun cdv A outer s H vs Q E hr h => ?_)
  · obtain ⟨a, t, rfl, _⟩ := h
    rfl
  · obtain ⟨a, t, rfl, ⟨dx, v, p, cs, ha, ta, hp, oa⟩, k⟩ := h
    refine ⟨_, (pss_one (ps_ret (StX.pe_makeR M RI (hr.mono (by decide)) rfl g_CF pass0 (pa_cons (pe_tup (pa_cons pe_str (pa_cons (pe_fld (pv 0) rfl) pa_nil))) (pa_cons (pe_fld (pv 0) rfl) pa_nil))))), ?_⟩
    unfold StX.tMakeR
    walk_at "rd"
    refine ⟨_, rfl, a, D, dx, _, _, rfl, ha, T.cl, T.nT, lk_tree, ?_⟩
    walk_at "rd"
    refine ⟨size_of (Nat.le_of_ble_eq_true rfl), fun q h0 => ?_⟩
    obtain ⟨H1, e1, s1, h1⟩ := new_heap (o := .tup [.str "not", v]) h0
    rw [e1]
    walk_at "rd"
    refine ⟨_, rfl, a, D, dx, _, _, rfl, s1 _ _ ha, T.cl, T.nC, lk_columns, ?_⟩
    walk_at "rd"
    have tr : TreeAt H1 (.no t) (.ref q) := ⟨q, v, rfl, h1, ta.up s1⟩
    exact mk_fil (cs := cs) tr (s1 _ _ hp) oa fun x H' s3 hf => k x H' (fun b o z => s3 _ _ (s1 _ _ z)) hf
abbrev s_Filter__call : Stmt := inClass (top 10) 9
theorem sc_Filter__call : FnScope ["self", "values"] ["self", "values"] (defScope s_Filter__call) := ⟨rfl, rfl, rfl, by decide +kernel, rfl, by decide +kernel, by decide +kernel⟩
/-- a filter of at most this depth, called -/
def sp_fcall (D : Addr) (d : Nat) : Sp := fun vs H Q _ => ∃ a t m ρ, vs = [.ref a, .ref m] ∧ Fil D H a t ∧ t.deep ≤ d ∧ ValsAt H m ρ t.cols ∧ ∀ H', Same H H' → Q (tv (t.sem ρ)) H'
theorem ok_fcall {d : Nat} {f fA : Addr} {fd fdA : FuncData} (F : Fun K "__call__" "Filter.__call__" s_Filter__call f fd) (T : ClsF K mg D fJ)
    (F_truth_of : Fun K "truth_of" "truth_of" s_truth_of fA fdA) (B_truth_of : Binds K fdA ["tree", "values"] []) (g_truth_of : mg "truth_of" = some (.ref fA)) (G_truth_of : FnOk P w K mg base CX0 (d + 3) fA fdA ["tree", "values"] (sp_truth d)) :
    FnOk P w K mg base CX0 (d + 4) f fd ["self", "values"] (sp_fcall D d) := by
  refine F.ok sc_Filter__call (fun vs H Q E h => ?_) (fun cdv A outer s H vs Q E hr h => ?_)
  · obtain ⟨a, t, m, ρ, rfl, _⟩ := h
    rfl
  · obtain ⟨a, t, m, ρ, rfl, ⟨dx, v, p, cs, ha, ta, hp, oa⟩, hd, hv, k⟩ := h
    refine ⟨_, (pss_one (ps_ret (pe_call G_truth_of (hr.mono (by omega)) rfl g_truth_of F_truth_of.kp B_truth_of .nil pass0 (pa_cons (pe_fld (pv 0) rfl) (pa_cons (pv 1) pa_nil))))), ?_⟩
    walk_at "rd"
    refine ⟨_, rfl, a, D, dx, _, _, rfl, ha, T.cl, T.nT, lk_tree, ?_⟩
    walk_at "rd"
    exact ⟨t, v, m, ρ, rfl, ta, hd, hv, k⟩
end
end Spk

set_option Elab.async false
set_option linter.all false
set_option maxRecDepth 100000
set_option maxHeartbeats 1000000
namespace Spk
open PySem L2
local macro_rules | `(tactic| walk_at "rd") => `(tactic| repeat (first
  | with_reducible refine i_seq ?_ | with_reducible refine i_asg ?_ | with_reducible refine i_ret ?_ | with_reducible refine i_ifS ?_ | with_reducible refine i_if ?_
  | with_reducible refine i_for ?_ | with_reducible refine i_iL ?_ | with_reducible refine i_iT ?_ | with_reducible refine i_ckw ?_ | with_reducible refine i_cm ?_ | with_reducible refine And.intro (rfl : V.ref _ = V.ref _) ?_ | with_reducible refine i_rng1 ?_ | with_reducible refine i_bm ?_ | with_reducible refine i_bm0 ?_
  | with_reducible refine i_drop ?_ | with_reducible refine i_next ?_
  | with_reducible refine i_var rfl ?_ | with_reducible refine i_c ?_ | with_reducible refine i_op ?_ | with_reducible refine i_un ?_ | with_reducible refine i_name ?_
  | with_reducible refine i_rI0 ?_ | with_reducible refine i_rU ?_ | with_reducible refine i_rEq rfl ?_ | with_reducible refine i_rNe rfl ?_
  | with_reducible refine i_test ?_ | with_reducible refine i_tB ?_ | with_reducible refine i_and ?_ | with_reducible refine i_or ?_ | with_reducible refine i_not ?_
  | with_reducible refine i_andV ?_ | with_reducible refine i_orV ?_ | with_reducible refine i_notV ?_
  | with_reducible refine i_cons ?_ | with_reducible refine i_nil ?_ | with_reducible refine i_cb ?_ | with_reducible refine i_call ?_ | with_reducible refine i_bl ?_
  | with_reducible refine i_tup ?_ | with_reducible refine i_lst ?_ | with_reducible refine i_par ?_ | with_reducible refine i_gcons ?_ | with_reducible refine i_gnil ?_
  | with_reducible refine And.intro (rfl : V.non = V.non) ?_ | with_reducible refine i_ixT (by assumption) rfl ?_ | with_reducible refine i_ixL (by assumption) rfl ?_ | with_reducible refine i_gtup (by assumption) rfl ?_
  | with_reducible refine i_gsub ?_
  | with_reducible refine Or.inl (Exists.intro _ (And.intro (rfl : [V.int _] = [V.int _]) ?_)) | with_reducible refine Exists.intro _ (And.intro (rfl : [V.int _] = [V.int _]) ?_)
  | with_reducible refine Or.inr (Exists.intro _ (And.intro (rfl : [V.bl _] = [V.bl _]) ?_))
  | with_reducible refine Exists.intro _ (Exists.intro _ (And.intro (rfl : [V.int _, V.int _] = [V.int _, V.int _]) ?_))
  | with_reducible refine Exists.intro _ (Exists.intro _ (And.intro (rfl : [V.ref _] = [V.ref _]) (And.intro (Or.inl (SqL.of (by assumption))) ?_)))
  | with_reducible refine i_rI (show (0 : Int) < _ by assumption) ?_ | with_reducible refine i_rI (show (0 : Int) < _ by decide) ?_
  | with_reducible refine i_rI (pow_ok (Nat.le_of_ble_eq_true rfl) (Nat.le_of_ble_eq_true rfl)) ?_
  | with_reducible refine i_rI (cmulL rfl) ?_))
/-! ### drawn sets -/
section
variable {P : Program} {w : World} {K : PySem.W.Frag} {mg : Str → Option Value} {base : Heap} {C fI fE : Addr} {mc : Value} {pe pb po pf ge gb go gf fO : Addr}
abbrev mSub (C : Addr) : Sp := fun vs H Q E => sp_sub C (vs ++ []) H Q E
abbrev mAnd (C : Addr) : Sp := fun vs H Q E => sp_and C (vs ++ []) H Q E
theorem i_ownB {H : Hp} {a b : Addr} {ps qs : List Stc} {sp : Sp} {Q : VK} (ha : Rng C H a ps) (hb : Rng C H b qs) (h : sp [.ref a, .ref b] H Q E0) : rBin C sp (.ref a) (.ref b) H Q := by
  obtain ⟨dx, t, ia, _⟩ := ha
  obtain ⟨dy, u, ib, _⟩ := hb
  exact ⟨a, b, dx, dy, _, _, rfl, rfl, ia, ib, h⟩
abbrev s_ranges : Stmt := top 20
theorem sc_ranges : FnScope ["_law_pen_here", "_law_low", "_law_pick"] ["_law_pen_here"] (defScope s_ranges) := ⟨rfl, rfl, rfl, by decide +kernel, rfl, by decide +kernel, by decide +kernel⟩
def sp_ranges (C : Addr) : Sp := fun vs H Q _ => ∃ p L n, vs = [.ref p] ∧ Pen H p L n ∧ n ≤ 9000 ∧ ∀ r H' ps, Keep H H' → Pen H' p L (n + 3) → Rng C H' r ps → ps.length ≤ 4 → Q (.ref r) H'
theorem ok_ranges {f fA fS fD : Addr} {fd fdD : FuncData} (F : Fun K "_law_ranges" "_law_ranges" s_ranges f fd) (F_draw : Fun K "_law_draw" "_law_draw" s_draw fD fdD) (B_draw : Binds K fdD ["_law_pen_here", "_law_many_here"] []) (g_draw : mg "_law_draw" = some (.ref fD))
    (G_draw : FnOk P w K mg base CX0 1 fD fdD ["_law_pen_here", "_law_many_here"] sp_draw) (CM : ClsM K C mc pe pb po pf ge gb go gf fO) (CN : ClsN K C fA fS) (R : ClsR P w K mg base C ge gb go gf fO fE) (R_sub : FnR P w K mg base CX0 5 fS (mSub C)) (g_C : mg "Ranges" = some (.ref C)) :
    FnOk P w K mg base CX0 6 f fd ["_law_pen_here"] (sp_ranges C) := by
  have R_of := R.of
  have R_between := R.between
  have R_full := R.full
  have R_empty := R.empty
  have R_or := R.or
  refine F.ok sc_ranges (fun vs H Q E h => ?_) (fun cdv A outer s H vs Q E hr h => ?_)
  · obtain ⟨p, L, n, rfl, _⟩ := h
    rfl
  · obtain ⟨p, L, n, rfl, hp, hn, k⟩ := h
    refine ⟨_, (pss_cons (ps_set (i := 1) sc_ranges.nd rfl (Or.inl rfl) (pe_op op_sub (pe_call G_draw (hr.mono (by decide)) rfl g_draw F_draw.kp B_draw .nil pass0 (pa_cons (pv 0) (pa_cons pe_int pa_nil))) pe_int))
 (pss_cons (ps_set (i := 2) sc_ranges.nd rfl (Or.inl rfl) (pe_call G_draw (hr.mono (by decide)) rfl g_draw F_draw.kp B_draw .nil pass0 (pa_cons (pv 0) (pa_cons pe_int pa_nil))))
 (pss_cons (ps_if (pt_cmpR op_eq (pv 2) pe_int (nomark _))
 (pss_one (ps_ret (ClX.pe_cmeth (pe_glob rfl g_C (relR _)) CM.rd CM.of R_of (hr.mono (by decide)) pass0 (pa_cons (pv 1) (pa_cons (pe_op op_add (pe_op op_add (pv 1) pe_int) (pe_call G_draw (hr.mono (by decide)) rfl g_draw F_draw.kp B_draw .nil pass0 (pa_cons (pv 0) (pa_cons pe_int pa_nil)))) (pa_cons (pe_op op_add (pv 1) pe_int) pa_nil))))))
 pss_nil)
 (pss_cons (ps_if (pt_cmpR op_eq (pv 2) pe_int (nomark _))
 (pss_one (ps_ret (ClX.pe_cmeth (pe_glob rfl g_C (relR _)) CM.rd CM.between R_between (hr.mono (by decide)) pass0 (pa_cons pe_non (pa_cons (pv 1) pa_nil)))))
 pss_nil)
 (pss_cons (ps_if (pt_cmpR op_eq (pv 2) pe_int (nomark _))
 (pss_one (ps_ret (ClX.pe_cmeth (pe_glob rfl g_C (relR _)) CM.rd CM.between R_between (hr.mono (by decide)) pass0 (pa_cons (pv 1) (pa_cons pe_non pa_nil)))))
 pss_nil)
 (pss_cons (ps_if (pt_cmpR op_eq (pv 2) pe_int (nomark _))
 (pss_one (ps_ret (pe_op (op_own (op := .Sub) R_sub (hr.mono (by decide)) CM.self CN.subF CN.subI) (pe_cmeth0 (pe_glob rfl g_C (relR _)) CM.rd CM.full R_full (hr.mono (by decide)) pass0) (ClX.pe_cmeth (pe_glob rfl g_C (relR _)) CM.rd CM.of R_of (hr.mono (by decide)) pass0 (pa_cons (pv 1) pa_nil)))))
 pss_nil)
 (pss_cons (ps_if (pt_cmpR op_eq (pv 2) pe_int (nomark _))
 (pss_one (ps_ret (pe_ix ix_list (pe_lst (pa_cons (pe_cmeth0 (pe_glob rfl g_C (relR _)) CM.rd CM.empty R_empty (hr.mono (by decide)) pass0) (pa_cons (pe_cmeth0 (pe_glob rfl g_C (relR _)) CM.rd CM.full R_full (hr.mono (by decide)) pass0) pa_nil))) (pe_call G_draw (hr.mono (by decide)) rfl g_draw F_draw.kp B_draw .nil pass0 (pa_cons (pv 0) (pa_cons pe_int pa_nil))) (fun _ _ => rfl))))
 pss_nil)
 (pss_cons (ps_if (pt_cmpR op_eq (pv 2) pe_int (nomark _))
 (pss_one (ps_ret (pe_op (op_own (op := .BitOr) R_or (hr.mono (by decide)) CM.self CM.orF CM.orI) (ClX.pe_cmeth (pe_glob rfl g_C (relR _)) CM.rd CM.between R_between (hr.mono (by decide)) pass0 (pa_cons (pv 1) (pa_cons (pe_op op_add (pv 1) (pe_call G_draw (hr.mono (by decide)) rfl g_draw F_draw.kp B_draw .nil pass0 (pa_cons (pv 0) (pa_cons pe_int pa_nil)))) pa_nil))) (ClX.pe_cmeth (pe_glob rfl g_C (relR _)) CM.rd CM.of R_of (hr.mono (by decide)) pass0 (pa_cons (pe_op op_sub (pe_op op_pow pe_int pe_int) pe_int) pa_nil)))))
 pss_nil)
 (pss_one (ps_ret (ClX.pe_cmeth (pe_glob rfl g_C (relR _)) CM.rd CM.between R_between (hr.mono (by decide)) pass0 (pa_cons (pv 1) (pa_cons (pe_op op_add (pv 1) (pe_call G_draw (hr.mono (by decide)) rfl g_draw F_draw.kp B_draw .nil pass0 (pa_cons (pv 0) (pa_cons pe_int pa_nil)))) pa_nil))))))))))))), ?_⟩
    walk_at "rd"
    refine ⟨p, L, n, 9, rfl, hp, by omega, by decide, by decide, fun d1 H1 _ _ k1 p1 => ?_⟩
    walk_at "rd"
    refine ⟨p, L, n + 1, 7, rfl, p1, by omega, by decide, by decide, fun d2 H2 _ _ k2 p2 => ?_⟩
    walk_at "rd"
    have fin : ∀ r H3 ps, Keep H2 H3 → Pen H3 p L (n + 3) → Rng C H3 r ps → ps.length ≤ 4 → Q (.ref r) H3 := fun r H3 ps kk => k r H3 ps ((k1.trans k2).trans kk)
    refine ite_d (fun _ => ?_) (fun _ => ?_)
    · walk_at "rd"
      refine ⟨p, L, n + 2, 3, rfl, p2, by omega, by decide, by decide, fun d3 H3 _ _ k3 p3 => ?_⟩
      walk_at "rd"
      refine ⟨[d1 - 4, d1 - 4 + 1 + d3, d1 - 4 + 5], rfl, by simp, fun r H4 ps s4 hr4 _ hz => ?_⟩
      exact fin r H4 ps (k3.trans (Same.keep s4)) (p3.up s4) hr4 (by simp at hz; omega)
    walk_at "rd"
    refine ite_d (fun _ => ?_) (fun _ => ?_)
    · walk_at "rd"
      refine ⟨none, some (d1 - 4), rfl, fun r H4 ps s4 hr4 _ hz => ?_⟩
      exact fin r H4 ps (Same.keep s4) ((p2.up s4).mono (by omega)) hr4 (by omega)
    walk_at "rd"
    refine ite_d (fun _ => ?_) (fun _ => ?_)
    · walk_at "rd"
      refine ⟨some (d1 - 4), none, rfl, fun r H4 ps s4 hr4 _ hz => ?_⟩
      exact fin r H4 ps (Same.keep s4) ((p2.up s4).mono (by omega)) hr4 (by omega)
    walk_at "rd"
    refine ite_d (fun _ => ?_) (fun _ => ?_)
    · walk_at "rd"
      refine ⟨rfl, fun r3 H3 s3 hr3 => ?_⟩
      walk_at "rd"
      refine ⟨[d1 - 4], rfl, by simp, fun r H4 ps s4 hr4 _ hz => ?_⟩
      walk_at "rd"
      refine i_ownB (hr3.up s4) hr4 ⟨r3, r, _, _, rfl, hr3.up s4, hr4, by simp at hz ⊢; omega, fun r5 H5 qs s5 hr5 _ hz5 => ?_⟩
      exact fin r5 H5 qs (((Same.keep s3).trans (Same.keep s4)).trans (Same.keep s5)) (((p2.up s3).up s4).up s5 |>.mono (by omega)) hr5 (by simp at hz hz5; omega)
    walk_at "rd"
    refine ite_d (fun _ => ?_) (fun _ => ?_)
    · walk_at "rd"
      refine ⟨rfl, fun r3 H3 s3 hr3 => ?_⟩
      walk_at "rd"
      refine ⟨rfl, fun r4 H4 s4 hr4 => ?_⟩
      walk_at "rd"
      refine ⟨size_of (Nat.le_of_ble_eq_true rfl), fun l hl => ?_⟩
      obtain ⟨H5, e5, s5, h5⟩ := new_heap (o := .lst [.ref r3, .ref r4]) hl
      rw [e5]
      walk_at "rd"
      refine ⟨p, L, n + 2, 2, rfl, ((p2.up s3).up s4).up s5, by omega, by decide, by decide, fun d6 H6 g0 g1 k6 p6 => ?_⟩
      walk_at "rd"
      have kk : Keep H2 H6 := (((Same.keep s3).trans (Same.keep s4)).trans (Same.keep s5)).trans k6
      have c : d6 = 0 ∨ d6 = 1 := by omega
      have h6 := k6 _ _ rfl h5
      rcases c with rfl | rfl
      · refine i_ixL h6 rfl ?_
        walk_at "rd"
        exact fin r3 H6 [] kk p6 (((hr3.up s4).up s5).keep k6) (Nat.zero_le _)
      · refine i_ixL h6 rfl ?_
        walk_at "rd"
        exact fin r4 H6 [(none, none)] kk p6 ((hr4.up s5).keep k6) (by simp)
    walk_at "rd"
    refine ite_d (fun _ => ?_) (fun _ => ?_)
    · walk_at "rd"
      refine ⟨p, L, n + 2, 4, rfl, p2, by omega, by decide, by decide, fun d3 H3 _ _ k3 p3 => ?_⟩
      walk_at "rd"
      refine ⟨some (d1 - 4), some (d1 - 4 + d3), rfl, fun r4 H4 ps s4 hr4 _ hz => ?_⟩
      walk_at "rd"
      refine ⟨[10 ^ 12 - 1], rfl, by simp, fun r5 H5 qs s5 hr5 _ hz5 => ?_⟩
      walk_at "rd"
      refine i_ownB (hr4.up s5) hr5 ⟨r4, r5, _, _, rfl, hr4.up s5, hr5, by simp at hz5; omega, fun r6 H6 rs s6 hr6 _ hz6 => ?_⟩
      exact fin r6 H6 rs (((k3.trans (Same.keep s4)).trans (Same.keep s5)).trans (Same.keep s6)) (((p3.up s4).up s5).up s6) hr6 (by simp at hz5; omega)
    walk_at "rd"
    refine ⟨p, L, n + 2, 4, rfl, p2, by omega, by decide, by decide, fun d3 H3 _ _ k3 p3 => ?_⟩
    walk_at "rd"
    refine ⟨some (d1 - 4), some (d1 - 4 + d3), rfl, fun r4 H4 ps s4 hr4 _ hz => ?_⟩
    exact fin r4 H4 ps (k3.trans (Same.keep s4)) (p3.up s4) hr4 (by omega)
end
end Spk

set_option Elab.async false
set_option linter.all false
set_option maxRecDepth 100000
set_option maxHeartbeats 1000000
namespace Spk
open PySem PySem.Spec PyProof.Rows
/-! ## ascending texts, none twice, are known by what they hold -/
def notAhead (a b : Str) : Prop := ¬ b.cps.toList < a.cps.toList
theorem notAhead_trans {a b c : Str} (h1 : notAhead a b) (h2 : notAhead b c) : notAhead a c := by
  unfold notAhead at *
  rw [List.not_lt] at *
  exact List.le_trans h1 h2
theorem notAhead_anti {a b : Str} (h1 : notAhead a b) (h2 : notAhead b a) : a = b := by
  unfold notAhead at *
  rw [List.not_lt] at *
  have e : a.cps.toList = b.cps.toList := List.le_antisymm h1 h2
  obtain ⟨⟨x⟩⟩ := a
  obtain ⟨⟨y⟩⟩ := b
  simp only at e
  rw [e]
theorem rising_all : ∀ {r : List Str} {p : Str}, risingS p r = true → ∀ y, y ∈ r → notAhead p y
  | [], _, _, _, h => nomatch h
  | x :: r, p, h, y, hy => by
    have h' : (!ltCps x.cps.toList p.cps.toList && risingS x r) = true := h
    rw [Bool.and_eq_true, ltCps_eq] at h'
    have a1 : notAhead p x := by
      unfold notAhead
      simpa using h'.1
    rcases List.mem_cons.mp hy with rfl | hy
    · exact a1
    · exact notAhead_trans a1 (rising_all h'.2 y hy)
theorem rising_tail : ∀ {r : List Str} {p : Str}, risingS p r = true → sortedS r = true
  | [], _, _ => rfl
  | x :: r, p, h => by
    have h' : (!ltCps x.cps.toList p.cps.toList && risingS x r) = true := h
    rw [Bool.and_eq_true] at h'
    exact h'.2
theorem sorted_one : ∀ {xs ys : List Str}, sortedS xs = true → sortedS ys = true → xs.Nodup → ys.Nodup → (∀ c, c ∈ xs ↔ c ∈ ys) → xs = ys
  | [], [], _, _, _, _, _ => rfl
  | [], y :: ys, _, _, _, _, e => absurd ((e y).mpr List.mem_cons_self) List.not_mem_nil
  | x :: xs, [], _, _, _, _, e => absurd ((e x).mp List.mem_cons_self) List.not_mem_nil
  | x :: xs, y :: ys, h1, h2, n1, n2, e => by
    obtain ⟨nx, m1⟩ := List.nodup_cons.mp n1
    obtain ⟨ny, m2⟩ := List.nodup_cons.mp n2
    have exy : x = y := by
      rcases List.mem_cons.mp ((e x).mp List.mem_cons_self) with z | z
      · exact z
      · rcases List.mem_cons.mp ((e y).mpr List.mem_cons_self) with z2 | z2
        · exact z2.symm
        · exact notAhead_anti (rising_all h1 y z2) (rising_all h2 x z)
    subst exy
    have t : xs = ys := sorted_one (rising_tail h1) (rising_tail h2) m1 m2 fun c => by
      have ec := e c
      rw [List.mem_cons, List.mem_cons] at ec
      constructor
      · intro hc
        exact (ec.mp (.inr hc)).resolve_left fun z => nx (z ▸ hc)
      · intro hc
        exact (ec.mpr (.inr hc)).resolve_left fun z => ny (z ▸ hc)
    rw [t]
end Spk

set_option Elab.async false
set_option linter.all false
set_option maxRecDepth 100000
set_option maxHeartbeats 1000000
namespace Spk
open PySem L2
local macro_rules | `(tactic| walk_at "rd") => `(tactic| repeat (first
  | with_reducible refine i_seq ?_ | with_reducible refine i_asg ?_ | with_reducible refine i_ret ?_ | with_reducible refine i_ifS ?_ | with_reducible refine i_if ?_
  | with_reducible refine i_for ?_ | with_reducible refine i_iL ?_ | with_reducible refine i_iT ?_ | with_reducible refine i_ckw ?_ | with_reducible refine i_cm ?_ | with_reducible refine And.intro (rfl : V.ref _ = V.ref _) ?_ | with_reducible refine i_rng1 ?_ | with_reducible refine i_bm ?_ | with_reducible refine i_bm0 ?_
  | with_reducible refine i_drop ?_ | with_reducible refine i_next ?_
  | with_reducible refine i_var rfl ?_ | with_reducible refine i_c ?_ | with_reducible refine i_op ?_ | with_reducible refine i_un ?_ | with_reducible refine i_name ?_
  | with_reducible refine i_rI0 ?_ | with_reducible refine i_rU ?_ | with_reducible refine i_rEq rfl ?_ | with_reducible refine i_rNe rfl ?_
  | with_reducible refine i_test ?_ | with_reducible refine i_tB ?_ | with_reducible refine i_and ?_ | with_reducible refine i_or ?_ | with_reducible refine i_not ?_
  | with_reducible refine i_andV ?_ | with_reducible refine i_orV ?_ | with_reducible refine i_notV ?_
  | with_reducible refine i_cons ?_ | with_reducible refine i_nil ?_ | with_reducible refine i_cb ?_ | with_reducible refine i_call ?_ | with_reducible refine i_bl ?_
  | with_reducible refine i_tup ?_ | with_reducible refine i_lst ?_ | with_reducible refine i_par ?_ | with_reducible refine i_gcons ?_ | with_reducible refine i_gnil ?_
  | with_reducible refine And.intro (rfl : V.non = V.non) ?_ | with_reducible refine i_ixT (by assumption) rfl ?_ | with_reducible refine i_ixL (by assumption) rfl ?_ | with_reducible refine i_gtup (by assumption) rfl ?_
  | with_reducible refine i_gsub ?_
  | with_reducible refine Or.inl (Exists.intro _ (And.intro (rfl : [V.int _] = [V.int _]) ?_)) | with_reducible refine Exists.intro _ (And.intro (rfl : [V.int _] = [V.int _]) ?_)
  | with_reducible refine Or.inr (Exists.intro _ (And.intro (rfl : [V.bl _] = [V.bl _]) ?_))
  | with_reducible refine Exists.intro _ (Exists.intro _ (And.intro (rfl : [V.int _, V.int _] = [V.int _, V.int _]) ?_))
  | with_reducible refine Exists.intro _ (Exists.intro _ (And.intro (rfl : [V.ref _] = [V.ref _]) (And.intro (Or.inl (SqL.of (by assumption))) ?_)))
  | with_reducible refine i_rI (show (0 : Int) < _ by assumption) ?_ | with_reducible refine i_rI (show (0 : Int) < _ by decide) ?_
  | with_reducible refine i_rI (pow_ok (Nat.le_of_ble_eq_true rfl) (Nat.le_of_ble_eq_true rfl)) ?_
  | with_reducible refine i_rI (cmulL rfl) ?_))
/-! ### drawn trees -/
/-- its conditions have few parts -/
def Tr.Few : Tr → Prop
  | .wi _ ps => ps.length ≤ 4
  | .mi _ => True
  | .al => True
  | .ne => True
  | .an l r => l.Few ∧ r.Few
  | .ou l r => l.Few ∧ r.Few
  | .no t => t.Few
theorem penny_strs (cs : List Str) : penny (.lst (cs.map V.str)) = false := by
  cases cs <;> rfl
/-- all its columns are of these -/
def Of (cs : List Str) (t : Tr) : Prop := ∀ c, c ∈ t.cols → c ∈ cs
/-- what the text says of Filter's methods as they are called from outside -/
structure ClsG (K : PySem.W.Frag) (D : Addr) (mc : Value) (pw pm pa pn gw gm ga gn fA fO fV fCl : Addr) : Prop where
  rd : ClX.CRead K D mc
  within : ClX.CMet K D mc "within" pw gw
  missing : ClX.CMet K D mc "missing" pm gm
  always : ClX.CMet K D mc "always" pa ga
  never : ClX.CMet K D mc "never" pn gn
  self : PySem.W.selfFirst K D = true
  andF : PySem.W.findIn K (.ref D) "__and__" = some (some (.ref fA))
  andI : PySem.W.isFn K (.ref fA) = true
  orF : PySem.W.findIn K (.ref D) "__or__" = some (some (.ref fO))
  orI : PySem.W.isFn K (.ref fO) = true
  invF : PySem.W.findIn K (.ref D) "__invert__" = some (some (.ref fV))
  invI : PySem.W.isFn K (.ref fV) = true
  call : StX.CallO K D fCl
section
variable {P : Program} {w : World} {K : PySem.W.Frag} {mg : Str → Option Value} {base : Heap} {C fI fE : Addr} {mc : Value} {pe pb po pf ge gb go gf fO : Addr} {D : Addr} {md : Value} {pw pm pa pn gw gm ga gn hA hO hV hC : Addr}
/-- the promises of Filter, as they are called -/
structure ClsH (P : Program) (w : World) (K : PySem.W.Frag) (mg : Str → Option Value) (base : Heap) (C D gw gm ga gn hA hO hV hC : Addr) : Prop where
  within : FnR P w K mg base CX0 3 gw (fun vs H Q E => sp_fwithin C D (vs ++ []) H Q E)
  missing : FnR P w K mg base CX0 3 gm (fun vs H Q E => sp_fmissing D (vs ++ []) H Q E)
  always : FnR P w K mg base CX0 3 ga (fun vs H Q E => sp_falways D (vs ++ []) H Q E)
  never : FnR P w K mg base CX0 3 gn (fun vs H Q E => sp_fnever D (vs ++ []) H Q E)
  and : FnR P w K mg base CX0 3 hA (fun vs H Q E => sp_fand D (vs ++ []) H Q E)
  or : FnR P w K mg base CX0 3 hO (fun vs H Q E => sp_for D (vs ++ []) H Q E)
  inv : FnR P w K mg base CX0 3 hV (fun vs H Q E => sp_finv D (vs ++ []) H Q E)
  call : FnR P w K mg base CX0 24 hC (fun vs H Q E => sp_fcall D 20 (vs ++ []) H Q E)
theorem i_fU {H : Hp} {a : Addr} {t : Tr} {sp : Sp} {Q : VK} (h : Fil D H a t) (q : sp [.ref a] H Q E0) : rUno D sp (.ref a) H Q := by
  obtain ⟨dx, v, q', cs, h1, _⟩ := h
  exact ⟨a, dx, _, rfl, h1, q⟩
theorem i_fB {H : Hp} {a b : Addr} {t u : Tr} {sp : Sp} {Q : VK} (h : Fil D H a t) (h' : Fil D H b u) (q : sp [.ref a, .ref b] H Q E0) : rBin D sp (.ref a) (.ref b) H Q := by
  obtain ⟨dx, v, q', cs, h1, _⟩ := h
  obtain ⟨dy, v', q2, ds, h2, _⟩ := h'
  exact ⟨a, b, dx, dy, _, _, rfl, rfl, h1, h2, q⟩
theorem at_strs {cs : List Str} {d : Int} (h0 : 0 ≤ d) (h1 : d < cs.length) : ∃ c, c ∈ cs ∧ atI (cs.map V.str) d = some (.str c) := by
  obtain ⟨k, rfl⟩ : ∃ k : Nat, d = (k : Int) := ⟨d.toNat, by omega⟩
  have hk : k < cs.length := by omega
  refine ⟨cs[k], List.getElem_mem hk, ?_⟩
  refine atI_nat ?_
  rw [List.getElem?_map, List.getElem?_eq_getElem hk] <;> rfl
abbrev s_leaf : Stmt := top 21
theorem sc_leaf : FnScope ["_law_pen_here", "_law_columns", "_law_column", "_law_pick"] ["_law_pen_here", "_law_columns"] (defScope s_leaf) := ⟨rfl, rfl, rfl, by decide +kernel, rfl, by decide +kernel, by decide +kernel⟩
def sp_leaf : Sp := fun vs H Q _ => ∃ p L n l cs, vs = [.ref p, .ref l] ∧ Pen H p L n ∧ n ≤ 8900 ∧ H l = some (.lst (cs.map V.str)) ∧ 1 ≤ cs.length ∧ cs.length ≤ 10 ∧
  ∀ v H' t, Keep H H' → Pen H' p L (n + 5) → TreeAt H' t v → t.many = 1 → t.deep = 1 → t.Few → Of cs t → Q v H'
theorem ok_leaf {f fD fR : Addr} {fd fdD fdR : FuncData} (F : Fun K "_law_leaf" "_law_leaf" s_leaf f fd) (T : ClsT K mg C fI fE) (F_draw : Fun K "_law_draw" "_law_draw" s_draw fD fdD) (B_draw : Binds K fdD ["_law_pen_here", "_law_many_here"] []) (g_draw : mg "_law_draw" = some (.ref fD))
    (G_draw : FnOk P w K mg base CX0 1 fD fdD ["_law_pen_here", "_law_many_here"] sp_draw) (F_ranges : Fun K "_law_ranges" "_law_ranges" s_ranges fR fdR) (B_ranges : Binds K fdR ["_law_pen_here"] []) (g_ranges : mg "_law_ranges" = some (.ref fR))
    (G_ranges : FnOk P w K mg base CX0 6 fR fdR ["_law_pen_here"] (sp_ranges C)) (z_len : mg "len" = none) : FnOk P w K mg base CX0 7 f fd ["_law_pen_here", "_law_columns"] sp_leaf := by
  refine F.ok sc_leaf (fun vs H Q E h => ?_) (fun cdv A outer s H vs Q E hr h => ?_)
  · obtain ⟨p, L, n, l, cs, rfl, _⟩ := h
    rfl
  · obtain ⟨p, L, n, l, cs, rfl, hp, hn, hl, z1, z2, k⟩ := h
    refine ⟨_, (pss_cons (ps_set (i := 2) sc_leaf.nd rfl (Or.inl rfl) (pe_ix ix_list (pv 1) (pe_call G_draw (hr.mono (by decide)) rfl g_draw F_draw.kp B_draw .nil pass0 (pa_cons (pv 0) (pa_cons (pe_callB call_len_seq (by rfl) z_len PySem.boot_len (pa_cons (pv 1) pa_nil)) pa_nil))) (fun _ _ => rfl)))
 (pss_cons (ps_set (i := 3) sc_leaf.nd rfl (Or.inl rfl) (pe_call G_draw (hr.mono (by decide)) rfl g_draw F_draw.kp B_draw .nil pass0 (pa_cons (pv 0) (pa_cons pe_int pa_nil))))
 (pss_cons (ps_if (pt_cmpR op_eq (pv 3) pe_int (nomark _))
 (pss_one (ps_ret (pe_tup (pa_cons pe_str (pa_cons (pv 2) pa_nil)))))
 pss_nil)
 (pss_cons (ps_if (pt_cmpR op_eq (pv 3) pe_int (nomark _))
 (pss_one (ps_ret (pe_ix ix_list (pe_lst (pa_cons (pe_tup (pa_cons pe_str pa_nil)) (pa_cons (pe_tup (pa_cons pe_str pa_nil)) pa_nil))) (pe_call G_draw (hr.mono (by decide)) rfl g_draw F_draw.kp B_draw .nil pass0 (pa_cons (pv 0) (pa_cons pe_int pa_nil))) (fun _ _ => rfl))))
 pss_nil)
 (pss_one (ps_ret (pe_tup (pa_cons pe_str (pa_cons (pv 2) (pa_cons (pe_fld (pe_call G_ranges (hr.mono (by decide)) rfl g_ranges F_ranges.kp B_ranges .nil pass0 (pa_cons (pv 0) pa_nil)) rfl) pa_nil)))))))))), ?_⟩
    walk_at "rd"
    rw [List.length_map]
    refine ⟨p, L, n, _, rfl, hp, by omega, by omega, by omega, fun d1 H1 g0 g1 k1 p1 => ?_⟩
    obtain ⟨c, hc, ec⟩ := at_strs g0 g1
    have hl1 := k1 _ _ (penny_strs cs) hl
    refine i_ixL hl1 ec ?_
    walk_at "rd"
    refine ⟨p, L, n + 1, 8, rfl, p1, by omega, by decide, by decide, fun d2 H2 _ _ k2 p2 => ?_⟩
    walk_at "rd"
    have one : ∀ {t : Tr}, t.cols = [c] → Of cs t := fun e b hb => by
      rw [e] at hb
      rw [List.mem_singleton.mp hb]
      exact hc
    have k12 := k1.trans k2
    refine ite_d (fun _ => ?_) (fun _ => ?_)
    · walk_at "rd"
      refine ⟨size_of (Nat.le_of_ble_eq_true rfl), fun a ha => ?_⟩
      obtain ⟨H3, e3, s3, h3⟩ := new_heap (o := .tup [.str "missing", .str c]) ha
      rw [e3]
      exact k (.ref a) H3 (.mi c) (k12.trans (Same.keep s3)) ((p2.up s3).mono (by omega)) ⟨a, rfl, h3⟩ rfl rfl trivial (one rfl)
    walk_at "rd"
    refine ite_d (fun _ => ?_) (fun _ => ?_)
    · walk_at "rd"
      refine ⟨size_of (Nat.le_of_ble_eq_true rfl), fun a ha => ?_⟩
      obtain ⟨H3, e3, s3, h3⟩ := new_heap (o := .tup [.str "always"]) ha
      rw [e3]
      walk_at "rd"
      refine ⟨size_of (Nat.le_of_ble_eq_true rfl), fun b hb => ?_⟩
      obtain ⟨H4, e4, s4, h4⟩ := new_heap (o := .tup [.str "never"]) hb
      rw [e4]
      walk_at "rd"
      refine ⟨size_of (Nat.le_of_ble_eq_true rfl), fun m hm => ?_⟩
      obtain ⟨H5, e5, s5, h5⟩ := new_heap (o := .lst [.ref a, .ref b]) hm
      rw [e5]
      walk_at "rd"
      refine ⟨p, L, n + 2, 2, rfl, ((p2.up s3).up s4).up s5, by omega, by decide, by decide, fun d6 H6 g0 g1 k6 p6 => ?_⟩
      walk_at "rd"
      have kk : Keep H H6 := (((k12.trans (Same.keep s3)).trans (Same.keep s4)).trans (Same.keep s5)).trans k6
      have h6 := k6 _ _ rfl h5
      have cc : d6 = 0 ∨ d6 = 1 := by omega
      rcases cc with rfl | rfl
      · refine i_ixL h6 rfl ?_
        exact k (.ref a) H6 .al kk (p6.mono (by omega)) ⟨a, rfl, k6 _ _ rfl (s5 _ _ (s4 _ _ h3))⟩ rfl rfl trivial (fun c hc => by cases hc)
      · refine i_ixL h6 rfl ?_
        exact k (.ref b) H6 .ne kk (p6.mono (by omega)) ⟨b, rfl, k6 _ _ rfl (s5 _ _ h4)⟩ rfl rfl trivial (fun c hc => by cases hc)
    walk_at "rd"
    refine ⟨_, rfl, p, L, n + 2, rfl, p2, by omega, fun r H3 ps k3 p3 hr3 hz3 => ?_⟩
    obtain ⟨dx, t, hx, pt, ca⟩ := hr3
    refine ⟨r, C, dx, _, _, rfl, hx, T.cl, T.nP, lk_parts, ?_⟩
    walk_at "rd"
    refine ⟨size_of (Nat.le_of_ble_eq_true rfl), fun a ha => ?_⟩
    obtain ⟨H4, e4, s4, h4⟩ := new_heap (o := .tup [.str "within", .str c, .ref t]) ha
    rw [e4]
    exact k (.ref a) H4 (.wi c ps) ((k12.trans k3).trans (Same.keep s4)) (p3.up s4) ⟨a, t, rfl, h4, pt.up s4, ca⟩ rfl rfl hz3 (one rfl)
abbrev s_set_of : Stmt := top 22
theorem sc_set_of : FnScope ["_law_parts", "_law_found", "_law_low", "_law_high"] ["_law_parts"] (defScope s_set_of) := ⟨rfl, rfl, rfl, by decide +kernel, rfl, by decide +kernel, by decide +kernel⟩
def sp_set_of (C : Addr) : Sp := fun vs H Q _ => ∃ t ps, vs = [.ref t] ∧ PartsT H t ps ∧ Canon ps ∧ ps.length ≤ 4 ∧ ∀ r H', Same H H' → Rng C H' r ps → Q (.ref r) H'
structure OfInv (C : Addr) (H0 : Hp) (t : Addr) (ps : List Stc) (i : Nat) (σ : L2.St) (H : Hp) : Prop where
  ex : ∃ (r : Addr) (qs : List Stc) (x y : Option V), σ = [some (.ref t), some (.ref r), x, y] ∧ Same H0 H ∧ Rng C H r qs ∧ (∀ n, hasL qs n = hasL (ps.take i) n) ∧ qs.length ≤ i
theorem ok_set_of {f : Addr} {fd : FuncData} (F : Fun K "_law_set_of" "_law_set_of" s_set_of f fd) (CM : ClsM K C mc pe pb po pf ge gb go gf fO) (R : ClsR P w K mg base C ge gb go gf fO fE) (g_C : mg "Ranges" = some (.ref C)) :
    FnOk P w K mg base CX0 6 f fd ["_law_parts"] (sp_set_of C) := by
  have R_between := R.between
  have R_empty := R.empty
  have R_or := R.or
  refine F.ok sc_set_of (fun vs H Q E h => ?_) (fun cdv A outer s H vs Q E hr h => ?_)
  · obtain ⟨t, ps, rfl, _⟩ := h
    rfl
  · obtain ⟨t, ps, rfl, ⟨vs, ht, tu⟩, ca, hz, k⟩ := h
    refine ⟨_, (pss_cons (ps_set (i := 1) sc_set_of.nd rfl (Or.inl rfl) (pe_cmeth0 (pe_glob rfl g_C (relR _)) CM.rd CM.empty R_empty (hr.mono (by decide)) pass0))
 (pss_cons (ps_for PassesOwn.never rfl (pi_tup (pv 0)) (pg_tup (by rfl) (pgs_cons (pg_name (i := 2) sc_set_of.nd rfl (Or.inl rfl)) (pgs_cons (pg_name (i := 3) sc_set_of.nd rfl (Or.inl rfl)) pgs_nil)))
 (pss_one (ps_set (i := 1) sc_set_of.nd rfl (Or.inl rfl) (pe_op (op_own (op := .BitOr) R_or (hr.mono (by decide)) CM.self CM.orF CM.orI) (pv 1) (ClX.pe_cmeth (pe_glob rfl g_C (relR _)) CM.rd CM.between R_between (hr.mono (by decide)) pass0 (pa_cons (pv 2) (pa_cons (pv 3) pa_nil)))))))
 (pss_one (ps_ret (pv 1))))), ?_⟩
    walk_at "rd"
    refine ⟨rfl, fun r0 H1 s1 hr1 => ?_⟩
    walk_at "rd"
    refine ⟨t, rfl, ⟨_, SqT.of (s1 _ _ ht)⟩, for_tup (K := K) (a := t) (xs := vs) (OfInv C H t ps) ⟨r0, [], none, none, rfl, s1, hr1, fun _ => rfl, Nat.zero_le _⟩ ?_ ?_ ?_⟩
    · rintro i σ H' _ ⟨r, qs, x, y, _, sm, _⟩
      exact SqT.of (sm _ _ ht)
    · rintro i x σ H' hx ⟨r, qs, y, z, rfl, sm, hq, hm, hl⟩
      obtain ⟨hi, c, rfl, hc⟩ := item_of tu hx
      have hc' := sm _ _ hc
      have step : ∀ n, hasL (ps.take (i + 1)) n = (hasL (ps.take i) n || has1 ps[i] n) := fun n => by
        rw [List.take_succ_eq_append_getElem hi, hasL_append, hasL_one]
      generalize ps[i] = s at *
      obtain ⟨lo, hi'⟩ := s
      dsimp only at hc'
      walk_at "rd"
      refine ⟨lo, hi', rfl, fun b H2 qb s2 hb hmb hzb => ?_⟩
      walk_at "rd"
      refine i_ownB (hq.up s2) hb ⟨r, b, qs, qb, rfl, hq.up s2, hb, by omega, fun u H3 qu s3 hu hmu hzu => ?_⟩
      walk_at "rd"
      exact ⟨u, qu, _, _, rfl, fun b o z => s3 _ _ (s2 _ _ (sm _ _ z)), hu, fun n => (hmu n).trans (by show (hasL qs n || hasL qb n) = _; rw [step, hm, hmb]), by omega⟩
    · rintro σ H' ⟨r, qs, y, z, rfl, sm, hq, hm, hl⟩
      walk_at "rd"
      rw [tups_len tu, List.take_length] at hm
      have e : qs = ps := canon_unique hq.canon ca hm
      rw [e] at hq
      exact k r H' sm hq
end
end Spk

set_option Elab.async false
set_option linter.all false
set_option maxRecDepth 100000
set_option maxHeartbeats 1000000
namespace Spk
open PySem L2
local macro_rules | `(tactic| walk_at "rd") => `(tactic| repeat (first
  | with_reducible refine i_seq ?_ | with_reducible refine i_asg ?_ | with_reducible refine i_ret ?_ | with_reducible refine i_ifS ?_ | with_reducible refine i_if ?_
  | with_reducible refine i_for ?_ | with_reducible refine i_iL ?_ | with_reducible refine i_iT ?_ | with_reducible refine i_ckw ?_ | with_reducible refine i_cm ?_ | with_reducible refine And.intro (rfl : V.ref _ = V.ref _) ?_ | with_reducible refine i_rng1 ?_ | with_reducible refine i_bm ?_ | with_reducible refine i_bm0 ?_
  | with_reducible refine i_drop ?_ | with_reducible refine i_next ?_
  | with_reducible refine i_var rfl ?_ | with_reducible refine i_c ?_ | with_reducible refine i_op ?_ | with_reducible refine i_un ?_ | with_reducible refine i_name ?_
  | with_reducible refine i_rI0 ?_ | with_reducible refine i_rU ?_ | with_reducible refine i_rEq rfl ?_ | with_reducible refine i_rNe rfl ?_
  | with_reducible refine i_test ?_ | with_reducible refine i_tB ?_ | with_reducible refine i_and ?_ | with_reducible refine i_or ?_ | with_reducible refine i_not ?_
  | with_reducible refine i_andV ?_ | with_reducible refine i_orV ?_ | with_reducible refine i_notV ?_
  | with_reducible refine i_cons ?_ | with_reducible refine i_nil ?_ | with_reducible refine i_cb ?_ | with_reducible refine i_call ?_ | with_reducible refine i_bl ?_
  | with_reducible refine i_tup ?_ | with_reducible refine i_lst ?_ | with_reducible refine i_par ?_ | with_reducible refine i_gcons ?_ | with_reducible refine i_gnil ?_
  | with_reducible refine And.intro (rfl : V.non = V.non) ?_ | with_reducible refine i_ixT (by assumption) rfl ?_ | with_reducible refine i_ixL (by assumption) rfl ?_ | with_reducible refine i_gtup (by assumption) rfl ?_
  | with_reducible refine i_gsub ?_
  | with_reducible refine Or.inl (Exists.intro _ (And.intro (rfl : [V.int _] = [V.int _]) ?_)) | with_reducible refine Exists.intro _ (And.intro (rfl : [V.int _] = [V.int _]) ?_)
  | with_reducible refine Or.inr (Exists.intro _ (And.intro (rfl : [V.bl _] = [V.bl _]) ?_))
  | with_reducible refine Exists.intro _ (Exists.intro _ (And.intro (rfl : [V.int _, V.int _] = [V.int _, V.int _]) ?_))
  | with_reducible refine Exists.intro _ (Exists.intro _ (And.intro (rfl : [V.ref _] = [V.ref _]) (And.intro (Or.inl (SqL.of (by assumption))) ?_)))
  | with_reducible refine i_rI (show (0 : Int) < _ by assumption) ?_ | with_reducible refine i_rI (show (0 : Int) < _ by decide) ?_
  | with_reducible refine i_rI (pow_ok (Nat.le_of_ble_eq_true rfl) (Nat.le_of_ble_eq_true rfl)) ?_
  | with_reducible refine i_rI (cmulL rfl) ?_))
/-! ### what is done with trees -/
/-- a truth as 0, 1, 2 -/
def lev : Option Bool → Int
  | some false => 0
  | none => 1
  | some true => 2
theorem lev_b (b : Bool) : lev (some b) = 2 * (if b then 1 else 0) := by
  cases b <;> rfl
theorem lev_not (a : Option Bool) : lev (not3 a) = 2 - lev a := by
  rcases a with _ | ⟨_ | _⟩ <;> rfl
theorem lev_and (a b : Option Bool) : lev (and3 a b) = if lev b < lev a then lev b else lev a := by
  rcases a with _ | ⟨_ | _⟩ <;> rcases b with _ | ⟨_ | _⟩ <;> decide
theorem lev_or (a b : Option Bool) : lev (or3 a b) = if lev b > lev a then lev b else lev a := by
  rcases a with _ | ⟨_ | _⟩ <;> rcases b with _ | ⟨_ | _⟩ <;> decide
theorem i_bi {P : VK} {c : Bool} {H : Hp} (q : P (.int (if c then 1 else 0)) H) : (∃ i, [V.bl c] = [V.int i] ∧ P (.int i) H) ∨ ∃ k, [V.bl c] = [V.bl k] ∧ P (.int (if k then 1 else 0)) H := .inr ⟨c, rfl, q⟩
theorem dec_b {c : Prop} [Decidable c] {b : Bool} (h : c ↔ b = true) : decide c = b := by
  cases b with
  | true => exact decide_eq_true (h.mpr rfl)
  | false => exact decide_eq_false fun z => by have := h.mp z; cases this
section
variable {P : Program} {w : World} {K : PySem.W.Frag} {mg : Str → Option Value} {base : Heap}
abbrev s_numbered : Stmt := top 23
theorem sc_numbered : FnScope ["_law_tree", "_law_values", "_law_value", "_law_low", "_law_high"] ["_law_tree", "_law_values"] (defScope s_numbered) := ⟨rfl, rfl, rfl, by decide +kernel, rfl, by decide +kernel, by decide +kernel⟩
def sp_numbered (d : Nat) : Sp := fun vs H Q _ => ∃ t v m ρ, vs = [v, .ref m] ∧ TreeAt H t v ∧ t.deep ≤ d ∧ ValsAt H m ρ t.cols ∧ ∀ H', Same H H' → Q (.int (lev (t.sem ρ))) H'
structure NuInv (H0 : Hp) (t : V) (m : Addr) (ps : List Stc) (n : Int) (i : Nat) (σ : L2.St) (H : Hp) : Prop where
  ex : ∃ (x y : Option V), σ = [some t, some (.ref m), some (.int n), x, y] ∧ H = H0 ∧ hasL (ps.take i) n = false
theorem ok_numbered {f : Addr} {fd : FuncData} (F : Fun K "_law_numbered" "_law_numbered" s_numbered f fd) (B_numbered : Binds K fd ["_law_tree", "_law_values"] []) (g_numbered : mg "_law_numbered" = some (.ref f))
    (z_int : mg "int" = none) (z_min : mg "min" = none) (z_max : mg "max" = none) : ∀ d, FnOk P w K mg base CX0 (d + 1) f fd ["_law_tree", "_law_values"] (sp_numbered d) := by
  intro d
  induction d with
  | zero =>
    refine F.ok sc_numbered (fun vs H Q E h => ?_) (fun cdv A outer s H vs Q E hr h => ?_)
    · obtain ⟨t, v, m, ρ, rfl, _⟩ := h
      rfl
    · obtain ⟨t, v, m, ρ, rfl, ht, hd, _⟩ := h
      cases t <;> exact absurd hd (by simp [Tr.deep])
  | succ d G_numbered =>
    have F_numbered := F
    refine F.ok sc_numbered (fun vs H Q E h => ?_) (fun cdv A outer s H vs Q E hr h => ?_)
    · obtain ⟨t, v, m, ρ, rfl, _⟩ := h
      rfl
    · obtain ⟨t, v, m, ρ, rfl, ht, hd, hv, q⟩ := h
      refine ⟨_, (pss_cons (ps_if (PW.pt (pw_or (pt_cmpR op_eq (pe_ix ix_tup (pv 0) pe_int (fun _ _ => rfl)) pe_str (nomark _)) (pw_or1 (pt_cmpR op_eq (pe_ix ix_tup (pv 0) pe_int (fun _ _ => rfl)) pe_str (nomark _)))))
 (pss_one (ps_ret (pe_op op_mul pe_int (pe_callTy call_int1 (by rfl) z_int (by decide +kernel) (pa_cons (pe_cmpR op_eq (pe_ix ix_tup (pv 0) pe_int (fun _ _ => rfl)) pe_str (nomark _)) pa_nil)))))
 pss_nil)
 (pss_cons (ps_if (pt_cmpR op_eq (pe_ix ix_tup (pv 0) pe_int (fun _ _ => rfl)) pe_str (nomark _))
 (pss_one (ps_ret (pe_op op_mul pe_int (pe_callTy call_int1 (by rfl) z_int (by decide +kernel) (pa_cons (pe_cmpR op_isN (pe_dget (Nat.lt_of_le_of_lt (Nat.add_le_add_left (by decide : 1 ≤ 64) _) hr.units) (pv 1) (pe_ix ix_tup (pv 0) pe_int (fun _ _ => rfl)) (fun _ _ => rfl)) pe_non (nomark _)) pa_nil)))))
 pss_nil)
 (pss_cons (ps_if (pt_cmpR op_eq (pe_ix ix_tup (pv 0) pe_int (fun _ _ => rfl)) pe_str (nomark _))
 (pss_one (ps_ret (pe_op op_sub pe_int (pe_call G_numbered (hr.mono (by omega)) rfl g_numbered F_numbered.kp B_numbered .nil pass0 (pa_cons (pe_ix ix_tup (pv 0) pe_int (fun _ _ => rfl)) (pa_cons (pv 1) pa_nil))))))
 pss_nil)
 (pss_cons (ps_if (pt_cmpR op_eq (pe_ix ix_tup (pv 0) pe_int (fun _ _ => rfl)) pe_str (nomark _))
 (pss_one (ps_ret (pe_callB (call_min2 rfl) (by rfl) z_min (by decide +kernel) (pa_cons (pe_call G_numbered (hr.mono (by omega)) rfl g_numbered F_numbered.kp B_numbered .nil pass0 (pa_cons (pe_ix ix_tup (pv 0) pe_int (fun _ _ => rfl)) (pa_cons (pv 1) pa_nil))) (pa_cons (pe_call G_numbered (hr.mono (by omega)) rfl g_numbered F_numbered.kp B_numbered .nil pass0 (pa_cons (pe_ix ix_tup (pv 0) pe_int (fun _ _ => rfl)) (pa_cons (pv 1) pa_nil))) pa_nil)))))
 pss_nil)
 (pss_cons (ps_if (pt_cmpR op_eq (pe_ix ix_tup (pv 0) pe_int (fun _ _ => rfl)) pe_str (nomark _))
 (pss_one (ps_ret (pe_callB (call_max2 rfl) (by rfl) z_max (by decide +kernel) (pa_cons (pe_call G_numbered (hr.mono (by omega)) rfl g_numbered F_numbered.kp B_numbered .nil pass0 (pa_cons (pe_ix ix_tup (pv 0) pe_int (fun _ _ => rfl)) (pa_cons (pv 1) pa_nil))) (pa_cons (pe_call G_numbered (hr.mono (by omega)) rfl g_numbered F_numbered.kp B_numbered .nil pass0 (pa_cons (pe_ix ix_tup (pv 0) pe_int (fun _ _ => rfl)) (pa_cons (pv 1) pa_nil))) pa_nil)))))
 pss_nil)
 (pss_cons (ps_set (i := 2) sc_numbered.nd rfl (Or.inl rfl) (pe_dget (Nat.lt_of_le_of_lt (Nat.add_le_add_left (by decide : 1 ≤ 64) _) hr.units) (pv 1) (pe_ix ix_tup (pv 0) pe_int (fun _ _ => rfl)) (fun _ _ => rfl)))
 (pss_cons (ps_if (pt_cmpR op_isN (pv 2) pe_non (nomark _))
 (pss_one (ps_ret pe_int))
 pss_nil)
 (pss_cons (ps_for PassesOwn.never rfl (pi_tup (pe_ix ix_tup (pv 0) pe_int (fun _ _ => rfl))) (pg_tup (by rfl) (pgs_cons (pg_name (i := 3) sc_numbered.nd rfl (Or.inl rfl)) (pgs_cons (pg_name (i := 4) sc_numbered.nd rfl (Or.inl rfl)) pgs_nil)))
 (pss_one (ps_if (PW.pt (pw_and (PW.pt (pw_or (pt_cmpR op_isN (pv 3) pe_non (nomark _)) (pw_or1 (pt_cmpR op_le (pv 3) (pv 2) (nomark _))))) (pw_and1 (PW.pt (pw_or (pt_cmpR op_isN (pv 4) pe_non (nomark _)) (pw_or1 (pt_cmpR op_le (pv 2) (pv 4) (nomark _))))))))
 (pss_one (ps_ret pe_int))
 pss_nil)))
 (pss_one (ps_ret pe_int)))))))))), ?_⟩
      cases t with
      | al =>
        obtain ⟨a, rfl, h1⟩ := ht
        have z := q H (Same.refl H)
        walk_at "rd"
        refine s_yes (iteT ?_)
        walk_at "rd"
        rw [decide_eq_true rfl]
        exact z
      | ne =>
        obtain ⟨a, rfl, h1⟩ := ht
        have z := q H (Same.refl H)
        walk_at "rd"
        refine s_no rfl ?_
        walk_at "rd"
        refine s_yes ?_
        walk_at "rd"
        rw [decide_eq_false (fun e => by have := V.str.inj e; revert this; decide)]
        exact z
      | mi c =>
        obtain ⟨a, rfl, h1⟩ := ht
        have z := q H (Same.refl H)
        walk_at "rd"
        refine s_no rfl ?_
        walk_at "rd"
        refine s_no rfl ?_
        walk_at "rd"
        refine s_yes ?_
        walk_at "rd"
        unfold tDGet
        walk_at "rd"
        refine ⟨m, ov (ρ c), rfl, hv.get (List.mem_singleton.mpr rfl), ?_⟩
        walk_at "rd"
        have e : decide (ov (ρ c) = V.non) = (ρ c).isNone := by
          cases ρ c with
          | none => rfl
          | some n => rfl
        rw [e]
        rw [show Tr.sem ρ (.mi c) = some (ρ c).isNone from rfl, lev_b] at z
        exact z
      | no t =>
        obtain ⟨a, x, rfl, h1, h2⟩ := ht
        have d1 : t.deep ≤ d := by
          simp only [Tr.deep] at hd
          omega
        walk_at "rd"
        refine s_no rfl ?_
        walk_at "rd"
        refine s_no rfl ?_
        walk_at "rd"
        refine s_no rfl ?_
        walk_at "rd"
        refine s_yes ?_
        walk_at "rd"
        refine ⟨t, x, m, ρ, rfl, h2, d1, hv, fun H1 s1 => ?_⟩
        walk_at "rd"
        have z := q H1 s1
        rw [show Tr.sem ρ (.no t) = not3 (t.sem ρ) from rfl, lev_not] at z
        exact z
      | an l r =>
        obtain ⟨a, x, y, rfl, h1, h2, h3⟩ := ht
        have d1 : l.deep ≤ d ∧ r.deep ≤ d := by
          simp only [Tr.deep] at hd
          omega
        walk_at "rd"
        refine s_no rfl ?_
        walk_at "rd"
        refine s_no rfl ?_
        walk_at "rd"
        refine s_no rfl ?_
        walk_at "rd"
        refine s_no rfl ?_
        walk_at "rd"
        refine s_yes ?_
        walk_at "rd"
        refine ⟨l, x, m, ρ, rfl, h2, d1.1, hv.sub fun c hc => List.mem_append_left _ hc, fun H1 s1 => ?_⟩
        have h1' := s1 _ _ h1
        walk_at "rd"
        refine ⟨r, y, m, ρ, rfl, h3.up s1, d1.2, (hv.up s1).sub fun c hc => List.mem_append_right _ hc, fun H2 s2 => ?_⟩
        walk_at "rd"
        have z := q H2 (fun b o z => s2 _ _ (s1 _ _ z))
        rw [show Tr.sem ρ (.an l r) = and3 (l.sem ρ) (r.sem ρ) from rfl, lev_and] at z
        exact z
      | ou l r =>
        obtain ⟨a, x, y, rfl, h1, h2, h3⟩ := ht
        have d1 : l.deep ≤ d ∧ r.deep ≤ d := by
          simp only [Tr.deep] at hd
          omega
        walk_at "rd"
        refine s_no rfl ?_
        walk_at "rd"
        refine s_no rfl ?_
        walk_at "rd"
        refine s_no rfl ?_
        walk_at "rd"
        refine s_no rfl ?_
        walk_at "rd"
        refine s_no rfl ?_
        walk_at "rd"
        refine s_yes ?_
        walk_at "rd"
        refine ⟨l, x, m, ρ, rfl, h2, d1.1, hv.sub fun c hc => List.mem_append_left _ hc, fun H1 s1 => ?_⟩
        have h1' := s1 _ _ h1
        walk_at "rd"
        refine ⟨r, y, m, ρ, rfl, h3.up s1, d1.2, (hv.up s1).sub fun c hc => List.mem_append_right _ hc, fun H2 s2 => ?_⟩
        walk_at "rd"
        have z := q H2 (fun b o z => s2 _ _ (s1 _ _ z))
        rw [show Tr.sem ρ (.ou l r) = or3 (l.sem ρ) (r.sem ρ) from rfl, lev_or] at z
        exact z
      | wi c ps =>
        obtain ⟨a, p, rfl, h1, ⟨vs, hp, tu⟩, ca⟩ := ht
        have z := q H (Same.refl H)
        rw [show Tr.sem ρ (.wi c ps) = wi3 ps (ρ c) from rfl] at z
        walk_at "rd"
        refine s_no rfl ?_
        walk_at "rd"
        refine s_no rfl ?_
        walk_at "rd"
        refine s_no rfl ?_
        walk_at "rd"
        refine s_no rfl ?_
        walk_at "rd"
        refine s_no rfl ?_
        walk_at "rd"
        refine s_no rfl ?_
        walk_at "rd"
        unfold tDGet
        walk_at "rd"
        refine ⟨m, ov (ρ c), rfl, hv.get (List.mem_singleton.mpr rfl), ?_⟩
        walk_at "rd"
        cases e : ρ c with
        | none =>
          rw [e] at z
          refine ite_d (fun _ => ?_) (fun h => absurd rfl h)
          walk_at "rd"
          exact z
        | some n =>
          rw [e, show wi3 ps (some n) = some (hasL ps n) from rfl] at z
          refine ite_d (fun h => nomatch h) (fun _ => ?_)
          walk_at "rd"
          refine ⟨p, rfl, ⟨_, SqT.of hp⟩, for_tup (K := K) (a := p) (xs := vs) (NuInv H (.ref a) m ps n) ⟨none, none, rfl, rfl, rfl⟩ ?_ ?_ ?_⟩
          · rintro i σ H' _ ⟨x, y, _, e, _⟩
            subst e
            exact SqT.of hp
          · rintro i x σ H' hx ⟨y, z2, rfl, e, no⟩
            subst e
            obtain ⟨hi, c2, rfl, hc⟩ := item_of tu hx
            have step : hasL (ps.take (i + 1)) n = has1 ps[i] n := by
              rw [List.take_succ_eq_append_getElem hi, hasL_append, no, Bool.false_or, hasL_one]
            have found : has1 ps[i] n = true → Q (.int 2) H' := fun e => by
              have e2 : hasL ps n = true := List.any_eq_true.mpr ⟨ps[i], List.getElem_mem hi, e⟩
              rw [e2] at z
              exact z
            generalize hs : ps[i] = s at *
            obtain ⟨lo, hi'⟩ := s
            dsimp only at hc
            walk_at "rd"
            have notL : ∀ k, lo = some k → ¬ k ≤ n → has1 (lo, hi') n = false := fun k hk h => by
              subst hk
              simp only [has1, Bool.and_eq_false_iff, decide_eq_false_iff_not]
              exact .inl h
            have notR : ∀ k, hi' = some k → ¬ n ≤ k → has1 (lo, hi') n = false := fun k hk h => by
              subst hk
              simp only [has1, Bool.and_eq_false_iff, decide_eq_false_iff_not]
              exact .inr h
            have right : (∀ k, lo = some k → k ≤ n) → tOr (tTest (tOp (fun x y H Q => y = V.non ∧ Q (V.bl (decide (x = V.non))) H) (tVar 4) (tC V.non))) (tTest (tOp (rI0 fun i j => V.bl (decide (i ≤ j))) (tVar 2) (tVar 4)))
                  [some (V.ref a), some (V.ref m), some (V.int n), some (ov lo), some (ov hi')] H' (fun b H1 => if b = true then Q (.int 2) H1 else NuInv H' (.ref a) m ps n (i + 1) [some (V.ref a), some (V.ref m), some (V.int n), some (ov lo), some (ov hi')] H1) := by
              intro hl'
              walk_at "rd"
              cases hi' with
              | none =>
                refine ite_d (fun _ => iteT ?_) (fun h => absurd rfl h)
                exact found (has1_of hl' fun k hk => nomatch hk)
              | some k =>
                refine ite_d (fun h => nomatch h) (fun _ => ?_)
                walk_at "rd"
                refine ite_d (fun h => ?_) (fun h => ?_)
                · exact found (has1_of hl' fun j hj => by cases hj; exact h)
                · exact ⟨_, _, rfl, rfl, by rw [step]; exact notR k rfl h⟩
            cases lo with
            | none =>
              refine ite_d (fun _ => iteT ?_) (fun h => absurd rfl h)
              exact right fun k hk => nomatch hk
            | some k =>
              refine ite_d (fun h => nomatch h) (fun _ => ?_)
              walk_at "rd"
              refine ite_d (fun h => ?_) (fun h => ?_)
              · exact right fun j hj => by cases hj; exact h
              · refine iteF ?_
                exact ⟨_, _, rfl, rfl, by rw [step]; exact notL k rfl h⟩
          · rintro σ H' ⟨y, z2, rfl, e, no⟩
            subst e
            walk_at "rd"
            rw [tups_len tu, List.take_length] at no
            rw [no] at z
            exact z
end
end Spk

set_option Elab.async false
set_option linter.all false
set_option maxRecDepth 100000
set_option maxHeartbeats 1000000
namespace Spk
open PySem PySem.Spec PyProof.Rows PySem.W L2
/-! ## defs that are entered while nothing is being shown: in them lists and tuples may be shown by repr -/

/-- the promise of a def, for such entries alone -/
structure FnG (P : Program) (w : World) (K : Frag) (mg : Str → Option Value) (base : Heap) (CX : CXT) (k : Nat) (f : Addr) (fd : FuncData) (ps : List Str) (sp : Sp) : Prop where
  arity : ∀ vs H Q E, sp vs H Q E → vs.length = ps.length
  goes : ∀ (A : Around), A.guards = some [] → ∀ (outer : List Env) (s : Shared) (H : Hp) (args : Args) (us : List Value) (vs : List V) (Q : VK) (E : XK), Room k A → Env0 P w K mg base A outer s H →
    BindsTo s fd args (ps.zip us) → Vals vs us → sp vs H Q E → codeAny (model P w) A (.call (.ref f) args) (CR CX outer P w H s Q E) s

section
variable {P : Program} {w : World} {K : Frag} {mg : Str → Option Value} {base : Heap} {CX : CXT} {j k : Nat} {f : Addr} {fd : FuncData} {ps : List Str} {sp : Sp}
theorem FnG.of (F : FnOk P w K mg base CX k f fd ps sp) : FnG P w K mg base CX k f fd ps sp :=
  ⟨F.len, fun A _ outer s H args us vs Q E hr e b v h => F.run A outer s H args us vs Q E hr e b v h⟩
theorem FnG.mono (F : FnG P w K mg base CX j f fd ps sp) (h : j ≤ k) : FnG P w K mg base CX k f fd ps sp :=
  ⟨F.arity, fun A g outer s H args us vs Q E hr => F.goes A g outer s H args us vs Q E (hr.mono h)⟩
/-- a def by its body -/
theorem fn_ofG {name qual : Str} {params : Arguments} {body : List Stmt} {scope : Scope} {dV kV doc pm cdv ct oc : Value} {an od : Option Addr} {osl : Array (Option Value)} {N : List Str}
    (lk : K.lookup f = some ⟨oc, od, .func (fnOf name qual params body scope dV kV doc pm an cdv ct), osl⟩) (hcd : codeIn K cdv qual = true) (S : FnScope N ps scope) (ar : ∀ vs H Q E, sp vs H Q E → vs.length = ps.length)
    (hb : ∀ (A : Around), A.guards = some [] → ∀ (outer : List Env) (s : Shared) (H : Hp) (vs : List V) (Q : VK) (E : XK), Room k (A.deeper (envOfC qual scope s.heap.objs.size f cdv)) → sp vs H Q E →
      ∃ t, PSs (cxOf CX P w K mg base N qual scope f cdv A outer s H E) body t ∧ t { nx := fun _ H1 => Q .non H1, rt := Q } (L2.start N vs) H) :
    FnG P w K mg base CX (k + 1) f (fnOf name qual params body scope dV kV doc pm an cdv ct) ps sp := by
  constructor
  · exact ar
  intro A g outer s H args us vs Q E hr e0 bi r hsp
  have hl := ar _ _ _ _ hsp
  have KX : K.In s.heap := e0.mod.kin.keeps fun c o z => (e0.bs c o z).1
  have lim : s.heap.NoLimit := e0.mod.nolimit.keeps fun c o z => (e0.bs c o z).1
  have kinds : ∀ y, y ∈ ps.zip us → scope.names.lookup y.1 = some .local ∨ (scope.names.lookup y.1 = some .cell ∧ ((cellsFrom (s.heap.objs.size + 1) scope.names []).lookup y.1).isSome = true) := by
    intro y hy
    have hm := (List.of_mem_zip (show (y.1, y.2) ∈ ps.zip us from hy)).1
    exact (S.par y.1 hm).imp id fun q => ⟨q, cellsFrom_some _ _ _ (.inl q)⟩
  refine codeAny_call_function hr.depth (KX _ _ lk) rfl S.co S.gen rfl (codeRec_of KX hcd) (bi _ _ _ _ ?_)
  refine wpAny_newFunctionEnv_cells S.kind kinds ?_
  intro env he s1 x
  subst he
  constructor
  · exact lim.keeps x.toInCall.keep
  refine codeAny_func ?_
  obtain ⟨t, ht, hq⟩ := hb A g outer s H vs Q E (hr.deeper _) hsp
  have I : Inv (cxOf CX P w K mg base N qual scope f cdv A outer s H E) [] (L2.start N vs) H s1 := inv_start S hr.hd e0 hl r x
  have out : ∀ {τ : L2.St} {H1 : Hp} {v : V} {u : Value} {s2 : Shared}, Inv (cxOf CX P w K mg base N qual scope f cdv A outer s H E) [] τ H1 s2 → RelV v u → Q v H1 → CE outer P w H s Q u s2 := by
    intro τ H1 v u s2 J rv q
    exact ⟨v, H1, J.os, J.bare, J.base, J.hok, rv, q⟩
  refine wpAny_mono (ht.run [] s1 (L2.start N vs) H _ I hq) ?_ fun e s2 z => z
  intro fl s2 hs
  match fl, hs with
  | .ret u, hs =>
    obtain ⟨v, τ, H1, J, rv, q⟩ := hs
    exact out J rv q
  | .next, hs =>
    obtain ⟨τ, H1, J, q⟩ := hs
    exact out (v := V.non) (u := Value.none) J rfl q
  | .brk, hs =>
    obtain ⟨_, _, _, q⟩ := hs
    exact q.elim
  | .cont, hs =>
    obtain ⟨_, _, _, q⟩ := hs
    exact q.elim
end
section
variable {P : Program} {w : World} {K : Frag} {mg : Str → Option Value} {base : Heap} {k : Nat} {f : Addr} {fd : FuncData} {ps : List Str} {sp : Sp}
theorem _root_.L2.Fun.okG {x qual : Str} {st : Stmt} {N : List Str} (F : Fun K x qual st f fd) (S : FnScope N ps (defScope st)) (ar : ∀ vs H Q E, sp vs H Q E → vs.length = ps.length)
    (hb : ∀ (cdv : Value) (A : Around), A.guards = some [] → ∀ (outer : List Env) (s : Shared) (H : Hp) (vs : List V) (Q : VK) (E : XK), Room k (A.deeper (envOfC qual (defScope st) s.heap.objs.size f cdv)) → sp vs H Q E →
      ∃ t, PSs (cxOf CX0 P w K mg base N qual (defScope st) f cdv A outer s H E).nox (defBody st) t ∧ t { nx := fun _ H1 => Q .non H1, rt := Q } (L2.start N vs) H) : FnG P w K mg base CX0 (k + 1) f fd ps sp := by
  obtain ⟨oc, od, kV, doc, pm, an, cdv, ct, osl, rfl, lk, hcd⟩ := F.ex
  refine fn_ofG lk hcd S ar ?_
  intro A g outer s H vs Q E hr hsp
  obtain ⟨t, h, q⟩ := hb cdv A g outer s H vs Q E hr hsp
  exact ⟨t, h.nox, q⟩
end
section
variable {X : Cx} {CX : CXT} {k : Nat} {f : Addr} {fd : FuncData} {ps : List Str} {ds : List Value} {dvs : List V} {sp : Sp} {E : XK}
theorem run_g {pins : List (Addr × Obj)} {σ : L2.St} {H : Hp} {s : Shared} {Q : VK} {us : List Value} {vs : List V} (F : FnG X.prog X.w X.K X.mg X.base CX k f fd ps sp) (g : X.A.guards = some []) (hr : Room k X.A) (hb : Binds X.K fd ps ds)
    (hd : Vals dvs ds) (hx : Passes CX X E) (I : Inv X pins σ H s) (r : Vals vs us) (h : sp (vs ++ dvs) H Q E) : wpAny (model X.prog X.w) X.A (call (.ref f) us) (EP X pins σ Q) X.xe s := by
  have all : Vals (vs ++ dvs) (us ++ ds) := r.append hd
  have many : (us ++ ds).length = ps.length := by
    rw [← all.length]
    exact F.arity _ _ _ _ h
  have z := F.goes X.A g X.stack s H ⟨us, []⟩ (us ++ ds) (vs ++ dvs) Q E hr I.env0 (hb s us I.kIn many) all h
  refine wpAny_call (codeAny_mono z ?_)
  intro r s1 hq
  match r, hq with
  | .error e, hq => exact hx pins σ H s e s1 I hq
  | .ok (.ret u), hq => exact I.after hq
  | .ok .next, hq => exact hq.elim
  | .ok .brk, hq => exact hq.elim
  | .ok .cont, hq => exact hq.elim
variable {x : Str} {e : Expr} {es : List Expr} {t : TA} {p pos : Pos}
theorem pe_callG (F : FnG X.prog X.w X.K X.mg X.base CX k f fd ps sp) (g : X.A.guards = some []) (hr : Room k X.A) (hg : Gl X x) (hm : X.mg x = some (.ref f)) (hk : keepIn X.K (.ref f) = true) (hb : Binds X.K fd ps ds) (hd : Vals dvs ds) (hx : Passes CX X E)
    (ha : PA X (e :: es) t) (hdb : (x == ("__debug__" : Str)) = false := by decide) (he : starEach (e :: es) X.env = (false, eval e X.env) :: starEach es X.env := by rfl) (hpl : (backTo pos (starEach es X.env)).any (·.1) = false := by rfl) :
    PE X (.Call (.Name x p) (e :: es) [] pos) (tCall sp dvs E t) := by
  constructor
  intro pins s σ H Q I h
  refine wpAny_Call_Name_kw (ld_glob I hg hm ?_ hdb)
  refine callWith_K (h₀ := X.base) I.ok.mod.kin hk (thn (ha.run pos pins s σ H _ I h) ?_) he hpl
  intro us s1 z
  obtain ⟨vs, H1, I1, r, q⟩ := z
  exact ⟨I1.kIn, run_g F g hr hb hd hx I1 r q⟩
/-- repr of data: None, truths, ints, texts, lists and tuples of these at any depth -/
def rReprD (K : Frag) : List V → Hp → VK → Prop := fun vs H Q => ∃ (a : Addr) (d : PyData), vs = [V.ref a] ∧ Dp K H (.ref a) d ∧ d.showable = true ∧ d.hasDict = false ∧ d.depth ≤ 64 ∧ d.shown.length ≤ sizeLine ∧ Q (.str d.shown) H
theorem cr_reprD (g : X.A.guards = some []) (hu : X.A.units + 66 < cLine) : CallR X (.builtin "repr") (rReprD X.K) := by
  intro pins s σ H vs us Q I r h
  obtain ⟨a, d, rfl, hd, sh, nd, dp, sz, q⟩ := h
  cases r with
  | cons ru rt =>
    cases rt
    obtain ⟨as, rd⟩ := Dp.reads I d _ _ hd ru
    cases ru
    refine repr_of_reads' rd sh (fun z => by rw [nd] at z; cases z) g (by omega) (fun _ _ z => z) (fun h1 u tk keep => ?_) sz
    exact ⟨.str _, H, I.kept keep, ⟨_, rfl⟩, q⟩
end
end Spk

set_option Elab.async false
set_option linter.all false
set_option maxRecDepth 100000
set_option maxHeartbeats 1000000
namespace Spk
open PySem L2
/-! ## dicts from texts to integers and None -/
theorem valV_mem {kvs : List (Key × V)} {k : Key} {v : V} (h : valV kvs k = some v) : (k, v) ∈ kvs := by
  induction kvs with
  | nil => cases h
  | cons p r ih =>
    by_cases e : p.1 = k
    · rw [valV_pos e] at h
      cases h
      rw [← e]
      exact List.mem_cons_self
    · rw [valV_neg e] at h
      exact List.mem_cons_of_mem _ (ih h)
theorem mem_valV {kvs : List (Key × V)} {k : Key} {v : V} (nd : (kvs.map (·.1)).Nodup) (h : (k, v) ∈ kvs) : valV kvs k = some v := by
  induction kvs with
  | nil => cases h
  | cons p r ih =>
    rw [List.map_cons, List.nodup_cons] at nd
    rcases List.mem_cons.mp h with rfl | h
    · exact valV_pos rfl
    · have ne : ¬ p.1 = k := fun e => nd.1 (List.mem_map.mpr ⟨_, h, e.symm⟩)
      rw [valV_neg ne]
      exact ih nd.2 h
theorem put_keys {kvs : List (Key × V)} {k : Key} {y : V} (nd : (kvs.map (·.1)).Nodup) : ((putK kvs k y).map (·.1)).Nodup := by
  cases e : valV kvs k with
  | none => exact nd_putK y nd e
  | some v =>
    unfold putK
    rw [valV_any, e, if_pos (show (some v).isSome = true from rfl), List.map_map]
    have q : (kvs.map ((·.1) ∘ fun kv : Key × V => if kv.1 = k then (kv.1, y) else kv)) = kvs.map (·.1) := by
      refine List.map_congr_left fun p _ => ?_
      show (if p.1 = k then (p.1, y) else p).1 = p.1
      split <;> rfl
    rw [q]
    exact nd
theorem put_mem {kvs : List (Key × V)} {k : Key} {y : V} {q : Key × V} (h : q ∈ putK kvs k y) : q = (k, y) ∨ q ∈ kvs := by
  unfold putK at h
  split at h
  · obtain ⟨p, hp, e⟩ := List.mem_map.mp h
    split at e
    · rename_i e2
      exact .inl (by rw [← e, e2])
    · exact .inr (e ▸ hp)
  · rcases List.mem_append.mp h with h | h
    · exact .inr h
    · exact .inl (List.mem_singleton.mp h)
theorem put_len {kvs : List (Key × V)} {k : Key} {y : V} : (putK kvs k y).length ≤ kvs.length + 1 := by
  unfold putK
  split
  · rw [List.length_map]
    omega
  · rw [List.length_append]
    exact Nat.le_refl _
theorem merge_new : ∀ {more acc : List (Key × V)}, ((acc ++ more).map (·.1)).Nodup → mergeK acc more = acc ++ more
  | [], acc, _ => (List.append_nil acc).symm
  | (k, v) :: more, acc, nd => by
    have no : valV acc k = none := by
      cases e : valV acc k with
      | none => rfl
      | some u =>
        have m := valV_mem e
        rw [List.map_append, List.nodup_append] at nd
        exact absurd rfl (nd.2.2 k (List.mem_map.mpr ⟨_, m, rfl⟩) k (by simp))
    show mergeK (putK acc k v) more = _
    rw [putK_new v no]
    rw [merge_new (by rw [List.append_assoc]; exact nd), List.append_assoc]
    rfl
/-- keys are texts, none twice; values are integers or None -/
structure Kvs (kvs : List (Key × V)) : Prop where
  nd : (kvs.map (·.1)).Nodup
  ov : ∀ q, q ∈ kvs → ∃ (c : Str) (o : Option Int), q = (Sum.inr c, ov o)
theorem Kvs.put {kvs : List (Key × V)} (h : Kvs kvs) (c : Str) (o : Option Int) : Kvs (putK kvs (Sum.inr c) (Spk.ov o)) := by
  refine ⟨put_keys h.nd, fun q hq => ?_⟩
  rcases put_mem hq with rfl | hq
  · exact ⟨c, o, rfl⟩
  · exact h.ov q hq
theorem Kvs.rev {kvs : List (Key × V)} (h : Kvs kvs) : Kvs kvs.reverse :=
  ⟨by rw [List.map_reverse]; exact ((List.reverse_perm _).nodup_iff).mpr h.nd, fun q hq => h.ov q (List.mem_reverse.mp hq)⟩
theorem Kvs.get {kvs : List (Key × V)} (h : Kvs kvs) {c : Str} {v : V} (e : valV kvs (Sum.inr c) = some v) : ∃ o, v = Spk.ov o := by
  obtain ⟨d, o, z⟩ := h.ov _ (valV_mem e)
  exact ⟨o, (Prod.mk.inj z).2⟩
/-- what the dict tells of a column -/
def rho (kvs : List (Key × V)) (c : Str) : Option Int := match valV kvs (Sum.inr c) with
  | some (.int i) => some i
  | _ => none
theorem rho_is {kvs : List (Key × V)} (h : Kvs kvs) {c : Str} {v : V} (e : valV kvs (Sum.inr c) = some v) : valV kvs (Sum.inr c) = some (ov (rho kvs c)) := by
  obtain ⟨o, rfl⟩ := h.get e
  unfold rho
  rw [e]
  cases o <;> rfl
theorem rho_rev {kvs : List (Key × V)} (h : Kvs kvs) {c : Str} {v : V} (e : valV kvs (Sum.inr c) = some v) : valV kvs.reverse (Sum.inr c) = some v :=
  mem_valV h.rev.nd (List.mem_reverse.mpr (valV_mem e))
theorem flat_ov (o : Option Int) : flatB (ov o) = true := by
  cases o <;> rfl
theorem same_kvs {kvs : List (Key × V)} (h : Kvs kvs) : ∀ p ∈ kvs, valV kvs p.1 = some p.2 ∧ flatB p.2 = true := by
  intro p hp
  obtain ⟨c, o, e⟩ := h.ov p hp
  refine ⟨mem_valV h.nd hp, ?_⟩
  rw [e]
  exact flat_ov o
theorem room66 {k : Nat} {A : Around} (hr : Room k A) : A.units + 66 < cLine := by
  have := hr.un
  omega
end Spk

set_option Elab.async false
set_option linter.all false
set_option maxRecDepth 100000
set_option maxHeartbeats 1000000
namespace Spk
open PySem L2
local macro_rules | `(tactic| walk_at "rd") => `(tactic| repeat (first
  | with_reducible refine i_seq ?_ | with_reducible refine i_asg ?_ | with_reducible refine i_ret ?_ | with_reducible refine i_ifS ?_ | with_reducible refine i_if ?_
  | with_reducible refine i_for ?_ | with_reducible refine i_iL ?_ | with_reducible refine i_iT ?_ | with_reducible refine i_ckw ?_ | with_reducible refine i_cm ?_ | with_reducible refine And.intro (rfl : V.ref _ = V.ref _) ?_ | with_reducible refine i_rng1 ?_ | with_reducible refine i_bm ?_ | with_reducible refine i_bm0 ?_
  | with_reducible refine i_drop ?_ | with_reducible refine i_next ?_
  | with_reducible refine i_var rfl ?_ | with_reducible refine i_c ?_ | with_reducible refine i_op ?_ | with_reducible refine i_un ?_ | with_reducible refine i_name ?_
  | with_reducible refine i_rI0 ?_ | with_reducible refine i_rU ?_ | with_reducible refine i_rEq rfl ?_ | with_reducible refine i_rNe rfl ?_
  | with_reducible refine i_test ?_ | with_reducible refine i_tB ?_ | with_reducible refine i_and ?_ | with_reducible refine i_or ?_ | with_reducible refine i_not ?_
  | with_reducible refine i_andV ?_ | with_reducible refine i_orV ?_ | with_reducible refine i_notV ?_
  | with_reducible refine i_cons ?_ | with_reducible refine i_nil ?_ | with_reducible refine i_cb ?_ | with_reducible refine i_call ?_ | with_reducible refine i_bl ?_
  | with_reducible refine i_tup ?_ | with_reducible refine i_lst ?_ | with_reducible refine i_par ?_ | with_reducible refine i_gcons ?_ | with_reducible refine i_gnil ?_
  | with_reducible refine And.intro (rfl : V.non = V.non) ?_ | with_reducible refine i_ixT (by assumption) rfl ?_ | with_reducible refine i_ixL (by assumption) rfl ?_ | with_reducible refine i_gtup (by assumption) rfl ?_
  | with_reducible refine i_gsub ?_
  | with_reducible refine Or.inl (Exists.intro _ (And.intro (rfl : [V.int _] = [V.int _]) ?_)) | with_reducible refine Exists.intro _ (And.intro (rfl : [V.int _] = [V.int _]) ?_)
  | with_reducible refine Or.inr (Exists.intro _ (And.intro (rfl : [V.bl _] = [V.bl _]) ?_))
  | with_reducible refine Exists.intro _ (Exists.intro _ (And.intro (rfl : [V.int _, V.int _] = [V.int _, V.int _]) ?_))
  | with_reducible refine Exists.intro _ (Exists.intro _ (And.intro (rfl : [V.ref _] = [V.ref _]) (And.intro (Or.inl (SqL.of (by assumption))) ?_)))
  | with_reducible refine i_rI (show (0 : Int) < _ by assumption) ?_ | with_reducible refine i_rI (show (0 : Int) < _ by decide) ?_
  | with_reducible refine i_rI (pow_ok (Nat.le_of_ble_eq_true rfl) (Nat.le_of_ble_eq_true rfl)) ?_
  | with_reducible refine i_rI (cmulL rfl) ?_))
theorem same_tr {H0 H1 H2 : Hp} (a : Same H0 H1) (b : Same H1 H2) : Same H0 H2 := fun x o z => b _ _ (a _ _ z)
/-! ### what is said of many values, as one text -/
def tvD : Option Bool → PyData
  | none => .none
  | some b => .bool b
theorem dps_tv {K : PySem.W.Frag} {H : Hp} : ∀ bs : List (Option Bool), DpAll K H (bs.map tv) (bs.map tvD)
  | [] => .nil
  | none :: bs => .cons .non (dps_tv bs)
  | some b :: bs => .cons (.bl b) (dps_tv bs)
def tvsD (bs : List (Option Bool)) : PyData := .list (bs.map tvD)
theorem tv_shown (b : Option Bool) : (tvD b).shown.length ≤ 5 := by
  rcases b with _ | ⟨_ | _⟩ <;> decide +kernel
theorem tvs_sum : ∀ bs : List (Option Bool), ((PyData.shownAll (bs.map tvD)).map (·.length)).sum ≤ 5 * bs.length ∧ (PyData.shownAll (bs.map tvD)).length = bs.length ∧ PyData.showableAll (bs.map tvD) = true ∧ PyData.depthAll (bs.map tvD) = 0
  | [] => ⟨by simp [PyData.shownAll], by simp [PyData.shownAll], by simp [PyData.showableAll], by simp [PyData.depthAll]⟩
  | b :: bs => by
    obtain ⟨h1, h2, h3, h4⟩ := tvs_sum bs
    have h5 := tv_shown b
    have h6 : (tvD b).showable = true ∧ (tvD b).depth = 0 := by
      rcases b with _ | b
      · exact ⟨by simp [tvD, PyData.showable], by simp [tvD, PyData.depth]⟩
      · exact ⟨by simp [tvD, PyData.showable], by simp [tvD, PyData.depth]⟩
    refine ⟨?_, ?_, ?_, ?_⟩
    · simp only [List.map_cons, PyData.shownAll, List.sum_cons, List.length_cons]
      omega
    · simp only [List.map_cons, PyData.shownAll, List.length_cons, h2]
    · simp only [List.map_cons, PyData.showableAll, h6.1, h3]
      rfl
    · simp only [List.map_cons, PyData.depthAll, h6.2, h4]
      rfl
theorem tvs_dict : ∀ bs : List (Option Bool), PyData.hasDictAll (bs.map tvD) = false
  | [] => by simp [PyData.hasDictAll]
  | none :: bs => by simp [PyData.hasDictAll, PyData.hasDict, tvD, tvs_dict bs]
  | some b :: bs => by simp [PyData.hasDictAll, PyData.hasDict, tvD, tvs_dict bs]
theorem i_repr {K : PySem.W.Frag} {H : Hp} {l : Addr} {bs : List (Option Bool)} {Q : VK} (h : H l = some (.lst (bs.map tv))) (hz : bs.length ≤ 1000) (q : Q (.str (tvsD bs).shown) H) : rReprD K [.ref l] H Q := by
  obtain ⟨h1, h2, h3, h4⟩ := tvs_sum bs
  refine ⟨l, tvsD bs, rfl, .lst (SqL.of h) (dps_tv bs), by simp only [tvsD, PyData.showable]; exact h3, by simp only [tvsD, PyData.hasDict]; exact tvs_dict bs, by simp only [tvsD, PyData.depth]; omega, ?_, q⟩
  have e := PySem.listText_len_le (PyData.shownAll (bs.map tvD))
  simp only [tvsD, PyData.shown]
  exact size_of (by omega)
/-- conditions on a and b alone -/
def AB (t : Tr) : Prop := ∀ c, c ∈ t.cols → c = "a" ∨ c = "b"
def abM (x y : V) : List (Key × V) := [(Sum.inr "a", x), (Sum.inr "b", y)]
def abR (x y : Option Int) : Str → Option Int := fun c => if c = "a" then x else y
theorem ab_vals {H : Hp} {m : Addr} {x y : Option Int} {t : Tr} (h : H m = some (.dK (abM (ov x) (ov y)))) (ab : AB t) : ValsAt H m (abR x y) t.cols := by
  refine ⟨_, h, fun c hc => ?_⟩
  rcases ab c hc with rfl | rfl
  · rfl
  · rfl
theorem i_disp2 {σ : L2.St} {H : Hp} {te tf : TE} {Q : VK} (h : ∀ p H1, H p = none → Same H H1 → H1 p = some (.dK []) → te σ H1 fun x H2 => tf σ H2 fun y H3 => H3 p = some (.dK []) ∧ ∃ kvs : List (Key × V), [(V.str "a", x), (V.str "b", y)] = kvs.map (fun kv => (kV kv.1, kv.2)) ∧ kvs.length ≤ 15 ∧ Q (.ref p) (upd H3 p (.dK (mergeK [] kvs)))) :
    tDisp [(tC (.str "a"), te), (tC (.str "b"), tf)] σ H Q := by
  intro p hp
  obtain ⟨H1, e1, s1, h1⟩ := new_heap (o := .dK []) hp
  rw [e1]
  exact h p H1 hp s1 h1
def firsts : List (Option Int) := [none, some 0, some 1, some (0 - 1), some 4, some (10 ^ 12)]
def seconds : List (Option Int) := [none, some 0, some 3]
def rowOf (t : Tr) (x : Option Int) : List (Option Bool) := seconds.map fun y => t.sem (abR x y)
def saysAll (t : Tr) : List (Option Bool) := firsts.flatMap (rowOf t)
/-- what is said of all -/
def saysT (t : Tr) : Str := (tvsD (saysAll t)).shown
theorem says_len (t : Tr) : (saysAll t).length = 18 := by
  simp [saysAll, firsts, rowOf, seconds]
/-- a filter called -/
theorem i_fcall {X : Cx} {D : Addr} {σ : L2.St} {H : Hp} {tf te : TE} {a : Addr} {sp : Sp} {Q : VK} {t : Tr} (hf : ∀ R : VK, R (.ref a) H → tf σ H R) (ht : ∀ R : VK, (∀ p H1, Same H H1 → (Fil D H1 a t → sp [.ref a, .ref p] H1 Q E0) → R (.ref p) H1) → te σ H R) (hg : Fil D H a t) :
    StX.tCallO X D sp E0 tf (tCons te tNil) σ H Q := by
  refine hf _ ⟨a, rfl, ht _ fun p H1 s1 k => ?_⟩
  have hg1 := hg.up s1
  obtain ⟨dx, v, q, cs, h1, _⟩ := id hg1
  exact ⟨.inr ⟨dx, _, h1⟩, k hg1⟩
section
variable {P : Program} {w : World} {K : PySem.W.Frag} {mg : Str → Option Value} {base : Heap} {C fI fE : Addr} {mc : Value} {pe pb po pf ge gb go gf fO : Addr} {D : Addr} {md : Value} {pw pm pa pn gw gm ga gn hA hO hV hC : Addr}
theorem rows_len (t : Tr) : ∀ xs : List (Option Int), (xs.flatMap (rowOf t)).length = 3 * xs.length
  | [] => rfl
  | x :: xs => by
    rw [List.flatMap_cons, List.length_append, rows_len t xs, List.length_cons]
    simp [rowOf, seconds]
    omega
theorem of_ov {os : List (Option Int)} {i : Nat} {z : V} (h : (os.map ov)[i]? = some z) : ∃ o, os[i]? = some o ∧ z = ov o := by
  rw [List.getElem?_map] at h
  obtain ⟨o, e1, e2⟩ := Option.map_eq_some_iff.mp h
  exact ⟨o, e1, e2.symm⟩
theorem take_one {α β : Type} {os : List α} {j : Nat} {u : α} (f : α → β) (h : os[j]? = some u) : (os.take (j + 1)).map f = (os.take j).map f ++ [f u] := by
  rw [List.take_add_one, h, List.map_append]
  rfl
theorem take_rows (t : Tr) {i : Nat} {o : Option Int} (h : firsts[i]? = some o) : (firsts.take (i + 1)).flatMap (rowOf t) = (firsts.take i).flatMap (rowOf t) ++ rowOf t o := by
  rw [List.take_add_one, h, List.flatMap_append]
  simp
abbrev s_said : Stmt := top 30
theorem sc_said : FnScope ["_law_made", "_law_found", "_law_value", "_law_other"] ["_law_made"] (defScope s_said) := ⟨rfl, rfl, rfl, by decide +kernel, rfl, by decide +kernel, by decide +kernel⟩
def sp_said (D : Addr) : Sp := fun vs H Q _ => ∃ x t, vs = [.ref x] ∧ Fil D H x t ∧ t.deep ≤ 20 ∧ AB t ∧ ∀ H', Same H H' → Q (.str (saysT t)) H'
theorem ok_said {f : Addr} {fd : FuncData} (F : Fun K "_law_said" "_law_said" s_said f fd) (CF : ClsG K D md pw pm pa pn gw gm ga gn hA hO hV hC) (RF : ClsH P w K mg base C D gw gm ga gn hA hO hV hC) (z_repr : mg "repr" = none) :
    FnG P w K mg base CX0 25 f fd ["_law_made"] (sp_said D) := by
  have RF_call := RF.call
  refine F.okG sc_said (fun vs H Q E h => ?_) (fun cdv A gG outer s H vs Q E hr h => ?_)
  · obtain ⟨x, t, rfl, _⟩ := h
    rfl
  · obtain ⟨x, t, rfl, hf, hd, ab, q⟩ := h
    refine ⟨_, (pss_cons (ps_set (i := 1) sc_said.nd rfl (Or.inl rfl) (pe_lst pa_nil))
 (pss_cons (ps_for PassesOwn.never rfl (pi_list (pe_lst (pa_cons pe_non (pa_cons pe_int (pa_cons pe_int (pa_cons (pe_op op_sub pe_int pe_int) (pa_cons pe_int (pa_cons (pe_op op_pow pe_int pe_int) pa_nil)))))))) (pg_name (i := 2) sc_said.nd rfl (Or.inl rfl))
 (pss_one (ps_for PassesOwn.never rfl (pi_list (pe_lst (pa_cons pe_non (pa_cons pe_int (pa_cons pe_int pa_nil))))) (pg_name (i := 3) sc_said.nd rfl (Or.inl rfl))
 (pss_one (ps_expr (pe_bm PySem.F.plainAttrs_list PySem.F.slot_list_append PySem.F.type_list_append mt_append (pv 1) (pa_cons (StX.pe_callO (pv 0) CF.call RF_call (hr.mono (by decide)) pass0 (pa_cons (pe_disp (pps_cons pe_str (pv 2) (pps_cons pe_str (pv 3) pps_nil)) (by rfl) (by rfl) (fun z => by cases z) (by decide)) pa_nil)) pa_nil)))))))
 (pss_one (ps_ret (pe_callB (cr_reprD gG (room66 hr)) (by rfl) z_repr (by decide +kernel) (pa_cons (pv 1) pa_nil)))))), ?_⟩
    walk_at "rd"
    refine ⟨size_of (Nat.zero_le _), fun l hl0 => ?_⟩
    obtain ⟨H1, e1, s1, h1⟩ := new_heap (o := .lst []) hl0
    rw [e1]
    walk_at "rd"
    refine ⟨size_of (Nat.le_of_ble_eq_true rfl), fun f1 hf1 => ?_⟩
    obtain ⟨H2, e2, s2, h2⟩ := new_heap (o := .lst (firsts.map ov)) hf1
    rw [show ([V.non, .int 0, .int 1, .int (0 - 1), .int 4, .int (10 ^ (12 : Int).toNat)] : List V) = firsts.map ov from rfl, e2]
    walk_at "rd"
    have s12 := same_tr s1 s2
    have fl : f1 ≠ l := (ne_of_none h1 hf1).symm
    refine ⟨f1, rfl, ⟨_, SqL.of h2⟩, for_list (K := K) (a := f1) (xs := firsts.map ov) (fun i σ H' => ∃ (x1 y1 : Option V), σ = [some (.ref x), some (.ref l), x1, y1] ∧ Same H H' ∧ H' f1 = some (.lst (firsts.map ov)) ∧ H' l = some (.lst (((firsts.take i).flatMap (rowOf t)).map tv))) ⟨none, none, rfl, s12, h2, s2 _ _ h1⟩ ?_ ?_ ?_⟩
    · rintro i σ H' _ ⟨x1, y1, _, _, h, _⟩
      exact SqL.of h
    · rintro i z σ H3 hz ⟨x1, y1, rfl, s3, b3, h3⟩
      obtain ⟨o, ho, rfl⟩ := of_ov hz
      have hi : i < 6 := (List.getElem?_eq_some_iff.mp ho).1
      have er := take_rows t ho
      have bl := rows_len t (firsts.take i)
      have tl := List.length_take_le i firsts
      generalize (firsts.take i).flatMap (rowOf t) = bs at *
      walk_at "rd"
      refine ⟨size_of (Nat.le_of_ble_eq_true rfl), fun g1 hg1 => ?_⟩
      obtain ⟨H4, e4, s4, h4⟩ := new_heap (o := .lst (seconds.map ov)) hg1
      rw [show ([V.non, .int 0, .int 3] : List V) = seconds.map ov from rfl, e4]
      have gl : g1 ≠ l := (ne_of_none h3 hg1).symm
      walk_at "rd"
      refine ⟨g1, rfl, ⟨_, SqL.of h4⟩, for_list (K := K) (a := g1) (xs := seconds.map ov) (fun j σ H' => ∃ (y : Option V), σ = [some (.ref x), some (.ref l), some (ov o), y] ∧ Same H H' ∧ H' f1 = some (.lst (firsts.map ov)) ∧ H' g1 = some (.lst (seconds.map ov)) ∧ H' l = some (.lst ((bs ++ (seconds.take j).map fun y => t.sem (abR o y)).map tv))) ⟨_, rfl, same_tr s3 s4, s4 _ _ b3, h4, by simpa using s4 _ _ h3⟩ ?_ ?_ ?_⟩
      · rintro j σ H' _ ⟨y, _, _, _, h, _⟩
        exact SqL.of h
      · rintro j z σ H5 hz ⟨y, rfl, s5, b5, g5, h5⟩
        obtain ⟨u, hu, rfl⟩ := of_ov hz
        have hj : j < 3 := (List.getElem?_eq_some_iff.mp hu).1
        have et := take_one (fun y => t.sem (abR o y)) hu
        have len : (bs ++ (seconds.take j).map fun y => t.sem (abR o y)).length ≤ 100 := by
          have z3 := List.length_take_le j seconds
          have z4 : seconds.length = 3 := rfl
          have z5 : firsts.length = 6 := rfl
          rw [List.length_append, List.length_map]
          omega
        walk_at "rd"
        refine i_tyL h5 ?_
        walk_at "rd"
        refine i_fcall (a := x) (t := t) (fun R h => i_var rfl h) (fun R h => ?_) (hf.up s5)
        refine i_disp2 fun m H6 hm s6 h6 => ?_
        walk_at "rd"
        refine ⟨h6, abM (ov o) (ov u), rfl, (by show 2 ≤ 15; decide), ?_⟩
        rw [show mergeK [] (abM (ov o) (ov u)) = abM (ov o) (ov u) from rfl]
        have s56 : Same H5 (upd H6 m (.dK (abM (ov o) (ov u)))) := Same.mut s6 hm
        refine h m _ s56 fun hg => ⟨x, t, m, abR o u, rfl, hg, hd, ab_vals upd_same ab, fun H7 s7 => ?_⟩
        have s57 := same_tr s56 s7
        walk_at "rd"
        refine i_app (s57 _ _ h5) (by rw [List.length_map]; omega) ?_
        refine ⟨_, rfl, Same.mut (same_tr s5 s57) hl0, by rw [upd_ne fl]; exact s57 _ _ b5, by rw [upd_ne gl]; exact s57 _ _ g5, ?_⟩
        rw [upd_same, et, ← List.append_assoc]
        simp only [List.map_append, List.map_cons, List.map_nil]
      · rintro σ H5 ⟨y, rfl, s5, b5, g5, h5⟩
        refine ⟨_, _, rfl, s5, b5, ?_⟩
        rw [er]
        exact h5
    · rintro σ H3 ⟨x1, y1, rfl, s3, b3, h3⟩
      walk_at "rd"
      have e0 : (firsts.take (firsts.map ov).length).flatMap (rowOf t) = saysAll t := rfl
      rw [e0] at h3
      refine i_repr h3 (by rw [says_len]; decide) ?_
      walk_at "rd"
      exact q H3 s3
abbrev s_due_said : Stmt := top 29
theorem sc_due_said : FnScope ["_law_tree", "_law_found", "_law_value", "_law_other"] ["_law_tree"] (defScope s_due_said) := ⟨rfl, rfl, rfl, by decide +kernel, rfl, by decide +kernel, by decide +kernel⟩
def sp_due_said : Sp := fun vs H Q _ => ∃ x t, vs = [x] ∧ TreeAt H t x ∧ t.deep ≤ 20 ∧ AB t ∧ ∀ H', Same H H' → Q (.str (saysT t)) H'
theorem ok_due_said {f fN : Addr} {fd fdN : FuncData} (F : Fun K "_law_due_said" "_law_due_said" s_due_said f fd)
    (F_numbered : Fun K "_law_numbered" "_law_numbered" s_numbered fN fdN) (B_numbered : Binds K fdN ["_law_tree", "_law_values"] []) (g_numbered : mg "_law_numbered" = some (.ref fN)) (G_numbered : FnOk P w K mg base CX0 21 fN fdN ["_law_tree", "_law_values"] (sp_numbered 20))
    (z_int : mg "int" = none) (z_repr : mg "repr" = none) : FnG P w K mg base CX0 25 f fd ["_law_tree"] sp_due_said := by
  refine F.okG sc_due_said (fun vs H Q E h => ?_) (fun cdv A gG outer s H vs Q E hr h => ?_)
  · obtain ⟨x, t, rfl, _⟩ := h
    rfl
  · obtain ⟨x, t, rfl, ht, hd, ab, q⟩ := h
    refine ⟨_, (pss_cons (ps_set (i := 1) sc_due_said.nd rfl (Or.inl rfl) (pe_lst pa_nil))
 (pss_cons (ps_for PassesOwn.never rfl (pi_list (pe_lst (pa_cons pe_non (pa_cons pe_int (pa_cons pe_int (pa_cons (pe_op op_sub pe_int pe_int) (pa_cons pe_int (pa_cons (pe_op op_pow pe_int pe_int) pa_nil)))))))) (pg_name (i := 2) sc_due_said.nd rfl (Or.inl rfl))
 (pss_one (ps_for PassesOwn.never rfl (pi_list (pe_lst (pa_cons pe_non (pa_cons pe_int (pa_cons pe_int pa_nil))))) (pg_name (i := 3) sc_due_said.nd rfl (Or.inl rfl))
 (pss_one (ps_expr (pe_bm PySem.F.plainAttrs_list PySem.F.slot_list_append PySem.F.type_list_append mt_append (pv 1) (pa_cons (pe_ix ix_list (pe_lst (pa_cons pe_bl (pa_cons pe_non (pa_cons pe_bl pa_nil)))) (pe_callTy call_int1 (by rfl) z_int (by decide +kernel) (pa_cons (pe_call G_numbered (hr.mono (by decide)) rfl g_numbered F_numbered.kp B_numbered .nil pass0 (pa_cons (pv 0) (pa_cons (pe_disp (pps_cons pe_str (pv 2) (pps_cons pe_str (pv 3) pps_nil)) (by rfl) (by rfl) (fun z => by cases z) (by decide)) pa_nil))) pa_nil)) (fun _ _ => rfl)) pa_nil)))))))
 (pss_one (ps_ret (pe_callB (cr_reprD gG (room66 hr)) (by rfl) z_repr (by decide +kernel) (pa_cons (pv 1) pa_nil)))))), ?_⟩
    walk_at "rd"
    refine ⟨size_of (Nat.zero_le _), fun l hl0 => ?_⟩
    obtain ⟨H1, e1, s1, h1⟩ := new_heap (o := .lst []) hl0
    rw [e1]
    walk_at "rd"
    refine ⟨size_of (Nat.le_of_ble_eq_true rfl), fun f1 hf1 => ?_⟩
    obtain ⟨H2, e2, s2, h2⟩ := new_heap (o := .lst (firsts.map ov)) hf1
    rw [show ([V.non, .int 0, .int 1, .int (0 - 1), .int 4, .int (10 ^ (12 : Int).toNat)] : List V) = firsts.map ov from rfl, e2]
    walk_at "rd"
    have s12 := same_tr s1 s2
    have fl : f1 ≠ l := (ne_of_none h1 hf1).symm
    refine ⟨f1, rfl, ⟨_, SqL.of h2⟩, for_list (K := K) (a := f1) (xs := firsts.map ov) (fun i σ H' => ∃ (x1 y1 : Option V), σ = [some x, some (.ref l), x1, y1] ∧ Same H H' ∧ H' f1 = some (.lst (firsts.map ov)) ∧ H' l = some (.lst (((firsts.take i).flatMap (rowOf t)).map tv))) ⟨none, none, rfl, s12, h2, s2 _ _ h1⟩ ?_ ?_ ?_⟩
    · rintro i σ H' _ ⟨x1, y1, _, _, h, _⟩
      exact SqL.of h
    · rintro i z σ H3 hz ⟨x1, y1, rfl, s3, b3, h3⟩
      obtain ⟨o, ho, rfl⟩ := of_ov hz
      have hi : i < 6 := (List.getElem?_eq_some_iff.mp ho).1
      have er := take_rows t ho
      have bl := rows_len t (firsts.take i)
      have tl := List.length_take_le i firsts
      generalize (firsts.take i).flatMap (rowOf t) = bs at *
      walk_at "rd"
      refine ⟨size_of (Nat.le_of_ble_eq_true rfl), fun g1 hg1 => ?_⟩
      obtain ⟨H4, e4, s4, h4⟩ := new_heap (o := .lst (seconds.map ov)) hg1
      rw [show ([V.non, .int 0, .int 3] : List V) = seconds.map ov from rfl, e4]
      have gl : g1 ≠ l := (ne_of_none h3 hg1).symm
      walk_at "rd"
      refine ⟨g1, rfl, ⟨_, SqL.of h4⟩, for_list (K := K) (a := g1) (xs := seconds.map ov) (fun j σ H' => ∃ (y : Option V), σ = [some x, some (.ref l), some (ov o), y] ∧ Same H H' ∧ H' f1 = some (.lst (firsts.map ov)) ∧ H' g1 = some (.lst (seconds.map ov)) ∧ H' l = some (.lst ((bs ++ (seconds.take j).map fun y => t.sem (abR o y)).map tv))) ⟨_, rfl, same_tr s3 s4, s4 _ _ b3, h4, by simpa using s4 _ _ h3⟩ ?_ ?_ ?_⟩
      · rintro j σ H' _ ⟨y, _, _, _, h, _⟩
        exact SqL.of h
      · rintro j z σ H5 hz ⟨y, rfl, s5, b5, g5, h5⟩
        obtain ⟨u, hu, rfl⟩ := of_ov hz
        have hj : j < 3 := (List.getElem?_eq_some_iff.mp hu).1
        have et := take_one (fun y => t.sem (abR o y)) hu
        have len : (bs ++ (seconds.take j).map fun y => t.sem (abR o y)).length ≤ 100 := by
          have z3 := List.length_take_le j seconds
          have z4 : seconds.length = 3 := rfl
          have z5 : firsts.length = 6 := rfl
          rw [List.length_append, List.length_map]
          omega
        walk_at "rd"
        refine i_tyL h5 ?_
        walk_at "rd"
        refine ⟨size_of (Nat.le_of_ble_eq_true rfl), fun w1 hw1 => ?_⟩
        obtain ⟨H6a, e6a, s6a, h6a⟩ := new_heap (o := .lst [.bl false, .non, .bl true]) hw1
        rw [e6a]
        walk_at "rd"
        refine i_disp2 fun m H6 hm s6 h6 => ?_
        walk_at "rd"
        refine ⟨h6, abM (ov o) (ov u), rfl, (by show 2 ≤ 15; decide), ?_⟩
        rw [show mergeK [] (abM (ov o) (ov u)) = abM (ov o) (ov u) from rfl]
        have s56 : Same H6a (upd H6 m (.dK (abM (ov o) (ov u)))) := Same.mut s6 hm
        refine ⟨t, x, m, abR o u, rfl, ht.up (same_tr s5 (same_tr s6a s56)), hd, ab_vals upd_same ab, fun H7 s7 => ?_⟩
        have s57 := same_tr s6a (same_tr s56 s7)
        have h7a := s7 _ _ (s56 _ _ h6a)
        walk_at "rd"
        have ix : atI [V.bl false, V.non, V.bl true] (lev (t.sem (abR o u))) = some (tv (t.sem (abR o u))) := by
          rcases t.sem (abR o u) with _ | ⟨_ | _⟩ <;> rfl
        refine i_ixL h7a ix ?_
        walk_at "rd"
        refine i_app (s57 _ _ h5) (by rw [List.length_map]; omega) ?_
        refine ⟨_, rfl, Same.mut (same_tr s5 s57) hl0, by rw [upd_ne fl]; exact s57 _ _ b5, by rw [upd_ne gl]; exact s57 _ _ g5, ?_⟩
        rw [upd_same, et, ← List.append_assoc]
        simp only [List.map_append, List.map_cons, List.map_nil]
      · rintro σ H5 ⟨y, rfl, s5, b5, g5, h5⟩
        refine ⟨_, _, rfl, s5, b5, ?_⟩
        rw [er]
        exact h5
    · rintro σ H3 ⟨x1, y1, rfl, s3, b3, h3⟩
      walk_at "rd"
      have e0 : (firsts.take (firsts.map ov).length).flatMap (rowOf t) = saysAll t := rfl
      rw [e0] at h3
      refine i_repr h3 (by rw [says_len]; decide) ?_
      walk_at "rd"
      exact q H3 s3
end
end Spk

set_option Elab.async false
set_option linter.all false
set_option maxRecDepth 100000
set_option maxHeartbeats 1000000
namespace Spk
open PySem L2
local macro_rules | `(tactic| walk_at "rd") => `(tactic| repeat (first
  | with_reducible refine i_seq ?_ | with_reducible refine i_asg ?_ | with_reducible refine i_ret ?_ | with_reducible refine i_ifS ?_ | with_reducible refine i_if ?_
  | with_reducible refine i_for ?_ | with_reducible refine i_iL ?_ | with_reducible refine i_iT ?_ | with_reducible refine i_ckw ?_ | with_reducible refine i_cm ?_ | with_reducible refine And.intro (rfl : V.ref _ = V.ref _) ?_ | with_reducible refine i_rng1 ?_ | with_reducible refine i_bm ?_ | with_reducible refine i_bm0 ?_
  | with_reducible refine i_drop ?_ | with_reducible refine i_next ?_
  | with_reducible refine i_var rfl ?_ | with_reducible refine i_c ?_ | with_reducible refine i_op ?_ | with_reducible refine i_un ?_ | with_reducible refine i_name ?_
  | with_reducible refine i_rI0 ?_ | with_reducible refine i_rU ?_ | with_reducible refine i_rEq rfl ?_ | with_reducible refine i_rNe rfl ?_
  | with_reducible refine i_test ?_ | with_reducible refine i_tB ?_ | with_reducible refine i_and ?_ | with_reducible refine i_or ?_ | with_reducible refine i_not ?_
  | with_reducible refine i_andV ?_ | with_reducible refine i_orV ?_ | with_reducible refine i_notV ?_
  | with_reducible refine i_cons ?_ | with_reducible refine i_nil ?_ | with_reducible refine i_cb ?_ | with_reducible refine i_call ?_ | with_reducible refine i_bl ?_
  | with_reducible refine i_tup ?_ | with_reducible refine i_lst ?_ | with_reducible refine i_par ?_ | with_reducible refine i_gcons ?_ | with_reducible refine i_gnil ?_
  | with_reducible refine And.intro (rfl : V.non = V.non) ?_ | with_reducible refine i_ixT (by assumption) rfl ?_ | with_reducible refine i_ixL (by assumption) rfl ?_ | with_reducible refine i_gtup (by assumption) rfl ?_
  | with_reducible refine i_gsub ?_
  | with_reducible refine Or.inl (Exists.intro _ (And.intro (rfl : [V.int _] = [V.int _]) ?_)) | with_reducible refine Exists.intro _ (And.intro (rfl : [V.int _] = [V.int _]) ?_)
  | with_reducible refine Or.inr (Exists.intro _ (And.intro (rfl : [V.bl _] = [V.bl _]) ?_))
  | with_reducible refine Exists.intro _ (Exists.intro _ (And.intro (rfl : [V.int _, V.int _] = [V.int _, V.int _]) ?_))
  | with_reducible refine Exists.intro _ (Exists.intro _ (And.intro (rfl : [V.ref _] = [V.ref _]) (And.intro (Or.inl (SqL.of (by assumption))) ?_)))
  | with_reducible refine i_rI (show (0 : Int) < _ by assumption) ?_ | with_reducible refine i_rI (show (0 : Int) < _ by decide) ?_
  | with_reducible refine i_rI (pow_ok (Nat.le_of_ble_eq_true rfl) (Nat.le_of_ble_eq_true rfl)) ?_
  | with_reducible refine i_rI (cmulL rfl) ?_))
/-! ### trees as data -/
def treeD : Tr → PyData
  | .wi c ps => .tuple [.str "within", .str c, psD ps]
  | .mi c => .tuple [.str "missing", .str c]
  | .al => .tuple [.str "always"]
  | .ne => .tuple [.str "never"]
  | .an l r => .tuple [.str "and", treeD l, treeD r]
  | .ou l r => .tuple [.str "or", treeD l, treeD r]
  | .no t => .tuple [.str "not", treeD t]
theorem dpTr {K : PySem.W.Frag} {H : Hp} : ∀ {t : Tr} {v : V}, TreeAt H t v → Dp K H v (treeD t)
  | .wi c ps, v, h => by
    obtain ⟨a, p, rfl, h1, h2, _⟩ := h
    exact .tup (SqT.of h1) (.cons (.str _) (.cons (.str _) (.cons (dp_parts h2) .nil)))
  | .mi c, v, h => by
    obtain ⟨a, rfl, h1⟩ := h
    exact .tup (SqT.of h1) (.cons (.str _) (.cons (.str _) .nil))
  | .al, v, h => by
    obtain ⟨a, rfl, h1⟩ := h
    exact .tup (SqT.of h1) (.cons (.str _) .nil)
  | .ne, v, h => by
    obtain ⟨a, rfl, h1⟩ := h
    exact .tup (SqT.of h1) (.cons (.str _) .nil)
  | .an l r, v, h => by
    obtain ⟨a, x, y, rfl, h1, h2, h3⟩ := h
    exact .tup (SqT.of h1) (.cons (.str _) (.cons (dpTr h2) (.cons (dpTr h3) .nil)))
  | .ou l r, v, h => by
    obtain ⟨a, x, y, rfl, h1, h2, h3⟩ := h
    exact .tup (SqT.of h1) (.cons (.str _) (.cons (dpTr h2) (.cons (dpTr h3) .nil)))
  | .no t, v, h => by
    obtain ⟨a, x, rfl, h1, h2⟩ := h
    exact .tup (SqT.of h1) (.cons (.str _) (.cons (dpTr h2) .nil))
/-- all texts can be laid -/
def TxsOk (cs : List Str) : Prop := ∀ c, c ∈ cs → PyData.strOk c = true
theorem lay_psD (ps : List Stc) : (psD ps).canLay0 = true := by
  show PyData.canLay0 (.tuple (ps.map stD)) = true
  simp only [PyData.canLay0]
  exact lay_ps ps
theorem dep_psD (ps : List Stc) : (psD ps).depth ≤ 3 := by
  have h := dep_ps ps
  show PyData.depth (.tuple (ps.map stD)) ≤ 3
  simp only [PyData.depth]
  omega
theorem layTr : ∀ t : Tr, TxsOk t.cols → (treeD t).canLay0 = true
  | .wi c ps, h => by
    have a := h c (List.mem_singleton.mpr rfl)
    simp only [treeD, PyData.canLay0, PyData.canLayAll0, lay_psD, a, Bool.and_true]
    decide +kernel
  | .mi c, h => by
    have a := h c (List.mem_singleton.mpr rfl)
    simp only [treeD, PyData.canLay0, PyData.canLayAll0, a, Bool.and_true]
    decide +kernel
  | .al, _ => by decide +kernel
  | .ne, _ => by decide +kernel
  | .an l r, h => by
    have a := layTr l fun c hc => h c (List.mem_append_left _ hc)
    have b := layTr r fun c hc => h c (List.mem_append_right _ hc)
    simp only [treeD, PyData.canLay0, PyData.canLayAll0, a, b, Bool.and_true]
    decide +kernel
  | .ou l r, h => by
    have a := layTr l fun c hc => h c (List.mem_append_left _ hc)
    have b := layTr r fun c hc => h c (List.mem_append_right _ hc)
    simp only [treeD, PyData.canLay0, PyData.canLayAll0, a, b, Bool.and_true]
    decide +kernel
  | .no t, h => by
    have a := layTr t h
    simp only [treeD, PyData.canLay0, PyData.canLayAll0, a, Bool.and_true]
    decide +kernel
theorem depTr : ∀ t : Tr, (treeD t).depth ≤ 2 * t.deep + 2
  | .wi c ps => by
    have a := dep_psD ps
    simp only [treeD, PyData.depth, PyData.depthAll, Tr.deep]
    omega
  | .mi c => by
    simp only [treeD, PyData.depth, PyData.depthAll, Tr.deep]
    omega
  | .al => by
    simp only [treeD, PyData.depth, PyData.depthAll, Tr.deep]
    omega
  | .ne => by
    simp only [treeD, PyData.depth, PyData.depthAll, Tr.deep]
    omega
  | .an l r => by
    have a := depTr l
    have b := depTr r
    simp only [treeD, PyData.depth, PyData.depthAll, Tr.deep]
    omega
  | .ou l r => by
    have a := depTr l
    have b := depTr r
    simp only [treeD, PyData.depth, PyData.depthAll, Tr.deep]
    omega
  | .no t => by
    have a := depTr t
    simp only [treeD, PyData.depth, PyData.depthAll, Tr.deep]
    omega
theorem shapedTr {t : Tr} (h : TxsOk t.cols) (d : t.deep ≤ 22) : SeqAt.shaped (treeD t) = true := by
  have a := layTr t h
  have b := depTr t
  unfold SeqAt.shaped
  rw [a, Bool.true_and, decide_eq_true_eq]
  omega
theorem dps_strs {K : PySem.W.Frag} {H : Hp} : ∀ cs : List Str, DpAll K H (cs.map V.str) (cs.map PyData.str)
  | [] => .nil
  | c :: cs => .cons (.str c) (dps_strs cs)
theorem lay_strs : ∀ {cs : List Str}, TxsOk cs → PyData.canLayAll0 (cs.map PyData.str) = true
  | [], _ => by simp [PyData.canLayAll0]
  | c :: cs, h => by
    have a := h c List.mem_cons_self
    have b := lay_strs (cs := cs) fun d hd => h d (List.mem_cons_of_mem _ hd)
    simp [PyData.canLayAll0, PyData.canLay0, a, b]
theorem dep_strs : ∀ cs : List Str, PyData.depthAll (cs.map PyData.str) = 0
  | [] => by simp [PyData.depthAll]
  | c :: cs => by simp [PyData.depthAll, PyData.depth, dep_strs cs]
theorem shaped_strsT {cs : List Str} (h : TxsOk cs) : SeqAt.shaped (.tuple (cs.map PyData.str)) = true := by
  have a := lay_strs h
  have b := dep_strs cs
  have c : (PyData.tuple (cs.map PyData.str)).depth ≤ 64 := by
    simp only [PyData.depth]
    omega
  unfold SeqAt.shaped
  rw [Bool.and_eq_true, decide_eq_true_eq]
  exact ⟨by simpa only [PyData.canLay0] using a, c⟩

theorem beq_dec (a b : Str) : (a == b) = decide (a = b) := by
  rw [Bool.eq_iff_iff]
  simp
theorem no_words {a b : Str} {xs ys : List PyData} {t u : Tr} (h : (a == b) = false) (n : t ≠ u) : PyData.eqv (.tuple (.str a :: xs)) (.tuple (.str b :: ys)) = decide (t = u) := by
  have e : PyData.eqv (.str a) (.str b) = (a == b) := by simp [PyData.eqv]
  rw [decide_eq_false n]
  simp only [PyData.eqv, PyData.eqvAll] at *
  rw [h, Bool.false_and]
theorem same_words {a : Str} {xs ys : List PyData} {c : Bool} (h : PyData.eqvAll xs ys = c) : PyData.eqv (.tuple (.str a :: xs)) (.tuple (.str a :: ys)) = c := by
  simp only [PyData.eqv, PyData.eqvAll]
  rw [beq_self_eq_true, Bool.true_and]
  exact h
theorem two_all {x y x2 y2 : PyData} {a b : Bool} (h1 : PyData.eqv x x2 = a) (h2 : PyData.eqv y y2 = b) : PyData.eqvAll [x, y] [x2, y2] = (a && b) := by
  simp only [PyData.eqvAll, h1, h2, Bool.and_true]
theorem one_all {x x2 : PyData} {a : Bool} (h1 : PyData.eqv x x2 = a) : PyData.eqvAll [x] [x2] = a := by
  simp only [PyData.eqvAll, h1, Bool.and_true]
theorem dec_and {p q : Prop} [Decidable p] [Decidable q] : (decide p && decide q) = decide (p ∧ q) := by
  by_cases h1 : p <;> by_cases h2 : q <;> simp [h1, h2]
theorem eqv_str (a b : Str) : PyData.eqv (.str a) (.str b) = decide (a = b) := by
  simp only [PyData.eqv]
  exact beq_dec a b
theorem dec_iff {p q : Prop} [Decidable p] [Decidable q] (h : p ↔ q) : decide p = decide q := by
  by_cases h1 : p
  · rw [decide_eq_true h1, decide_eq_true (h.mp h1)]
  · rw [decide_eq_false h1, decide_eq_false fun z => h1 (h.mpr z)]
/-- data of trees are equal just if the trees are -/
theorem eqv_treeD : ∀ t u : Tr, PyData.eqv (treeD t) (treeD u) = decide (t = u) := by
  intro t
  induction t with
  | wi c ps =>
    intro u
    cases u with
    | wi d qs =>
      refine (same_words (two_all (eqv_str c d) (eqv_psD ps qs))).trans (dec_and.trans (dec_iff ?_))
      simp
    | _ => exact no_words rfl (by intro h; cases h)
  | mi c =>
    intro u
    cases u with
    | mi d =>
      refine (same_words (one_all (eqv_str c d))).trans (dec_iff ?_)
      simp
    | _ => exact no_words rfl (by intro h; cases h)
  | al =>
    intro u
    cases u with
    | al => exact (same_words (c := true) rfl).trans (decide_eq_true rfl).symm
    | _ => exact no_words rfl (by intro h; cases h)
  | ne =>
    intro u
    cases u with
    | ne => exact (same_words (c := true) rfl).trans (decide_eq_true rfl).symm
    | _ => exact no_words rfl (by intro h; cases h)
  | an l r ihl ihr =>
    intro u
    cases u with
    | an l2 r2 =>
      refine (same_words (two_all (ihl l2) (ihr r2))).trans (dec_and.trans (dec_iff ?_))
      simp
    | _ => exact no_words rfl (by intro h; cases h)
  | ou l r ihl ihr =>
    intro u
    cases u with
    | ou l2 r2 =>
      refine (same_words (two_all (ihl l2) (ihr r2))).trans (dec_and.trans (dec_iff ?_))
      simp
    | _ => exact no_words rfl (by intro h; cases h)
  | no t ih =>
    intro u
    cases u with
    | no t2 =>
      refine (same_words (one_all (ih t2))).trans (dec_iff ?_)
      simp
    | _ => exact no_words rfl (by intro h; cases h)
end Spk

set_option Elab.async false
set_option linter.all false
set_option maxRecDepth 100000
set_option maxHeartbeats 1000000
namespace Spk
open PySem L2
local macro_rules | `(tactic| walk_at "rd") => `(tactic| repeat (first
  | with_reducible refine i_seq ?_ | with_reducible refine i_asg ?_ | with_reducible refine i_ret ?_ | with_reducible refine i_ifS ?_ | with_reducible refine i_if ?_
  | with_reducible refine i_for ?_ | with_reducible refine i_iL ?_ | with_reducible refine i_iT ?_ | with_reducible refine i_ckw ?_ | with_reducible refine i_cm ?_ | with_reducible refine And.intro (rfl : V.ref _ = V.ref _) ?_ | with_reducible refine i_rng1 ?_ | with_reducible refine i_bm ?_ | with_reducible refine i_bm0 ?_
  | with_reducible refine i_drop ?_ | with_reducible refine i_next ?_
  | with_reducible refine i_var rfl ?_ | with_reducible refine i_c ?_ | with_reducible refine i_op ?_ | with_reducible refine i_un ?_ | with_reducible refine i_name ?_
  | with_reducible refine i_rI0 ?_ | with_reducible refine i_rU ?_ | with_reducible refine i_rEq rfl ?_ | with_reducible refine i_rNe rfl ?_
  | with_reducible refine i_test ?_ | with_reducible refine i_tB ?_ | with_reducible refine i_and ?_ | with_reducible refine i_or ?_ | with_reducible refine i_not ?_
  | with_reducible refine i_andV ?_ | with_reducible refine i_orV ?_ | with_reducible refine i_notV ?_
  | with_reducible refine i_cons ?_ | with_reducible refine i_nil ?_ | with_reducible refine i_cb ?_ | with_reducible refine i_call ?_ | with_reducible refine i_bl ?_
  | with_reducible refine i_tup ?_ | with_reducible refine i_lst ?_ | with_reducible refine i_par ?_ | with_reducible refine i_gcons ?_ | with_reducible refine i_gnil ?_
  | with_reducible refine And.intro (rfl : V.non = V.non) ?_ | with_reducible refine i_ixT (by assumption) rfl ?_ | with_reducible refine i_ixL (by assumption) rfl ?_ | with_reducible refine i_gtup (by assumption) rfl ?_
  | with_reducible refine i_gsub ?_
  | with_reducible refine Or.inl (Exists.intro _ (And.intro (rfl : [V.int _] = [V.int _]) ?_)) | with_reducible refine Exists.intro _ (And.intro (rfl : [V.int _] = [V.int _]) ?_)
  | with_reducible refine Or.inr (Exists.intro _ (And.intro (rfl : [V.bl _] = [V.bl _]) ?_))
  | with_reducible refine Exists.intro _ (Exists.intro _ (And.intro (rfl : [V.int _, V.int _] = [V.int _, V.int _]) ?_))
  | with_reducible refine Exists.intro _ (Exists.intro _ (And.intro (rfl : [V.ref _] = [V.ref _]) (And.intro (Or.inl (SqL.of (by assumption))) ?_)))
  | with_reducible refine i_rI (show (0 : Int) < _ by assumption) ?_ | with_reducible refine i_rI (show (0 : Int) < _ by decide) ?_
  | with_reducible refine i_rI (pow_ok (Nat.le_of_ble_eq_true rfl) (Nat.le_of_ble_eq_true rfl)) ?_
  | with_reducible refine i_rI (cmulL rfl) ?_))
/-! ### filters compared -/
/-- what else is told of the class Filter -/
structure ClsE (K : PySem.W.Frag) (D fQ : Addr) : Prop where
  eq : OwnEq K D fQ
  cls : PySem.W.findIn K (.ref D) "__class__" = some (some (.builtin "object.__class__"))
  get : PySem.W.specialIn K (.builtin "object.__class__") "__get__" = some (some (.builtin "getset_descriptor.__get__"))
  tk : PySem.W.takesIn K (.builtin "object.__class__") = some true
  mro : PySem.W.mroIn K D (.type "object") = some true
  kit : PySem.W.kitOne K (.ref D) (.ref D) = some true
  kn : PySem.W.kitOne K (.type "NoneType") (.ref D) = some false
  kb : PySem.W.kitOne K (.type "bool") (.ref D) = some false
  ki : PySem.W.kitOne K (.type "int") (.ref D) = some false
  ks : PySem.W.kitOne K (.type "str") (.ref D) = some false
  kl : PySem.W.kitOne K (.type "list") (.ref D) = some false
  kt : PySem.W.kitOne K (.type "tuple") (.ref D) = some false
/-- a tree whose data can be compared -/
structure Fits (t : Tr) : Prop where
  tx : TxsOk t.cols
  dp : t.deep ≤ 22
section
variable {P : Program} {w : World} {K : PySem.W.Frag} {mg : Str → Option Value} {base : Heap} {C D fJ fQ fI fE : Addr} {mc : Value} {pe pb po pf ge gb go gf fO : Addr} {md : Value} {pw pm pa pn gw gm ga gn hA hO hV hC : Addr}
theorem Fil.ty {H : Hp} {r : Addr} {t : Tr} (T : ClsF K mg D fJ) (U : ClsE K D fQ) (h : Fil D H r t) : TyX K H (.ref r) (.ref D) := by
  obtain ⟨dx, v, q, cs, a, _⟩ := h
  exact .base (.ins a T.cl U.cls U.get U.tk U.mro)
theorem ClsE.odd {H : Hp} {y : V} {X : String} (U : ClsE K D fQ) (o : Odd H y X) : PySem.W.kitOne K (.type X) (.ref D) = some false := by
  cases o with
  | non => exact U.kn
  | bl b => exact U.kb
  | int i => exact U.ki
  | str x => exact U.ks
  | lst h => exact U.kl
  | tup h => exact U.kt
abbrev s_Filter__eq : Stmt := inClass (top 10) 8
theorem sc_Filter__eq : FnScope ["self", "other"] ["self", "other"] (defScope s_Filter__eq) := ⟨rfl, rfl, rfl, by decide +kernel, rfl, by decide +kernel, by decide +kernel⟩
def sp_feq (D : Addr) : Sp := fun vs H Q _ => ∃ a y t k, vs = [.ref a, y] ∧ Fil D H a t ∧ Fits t ∧ ((∃ b u, y = .ref b ∧ Fil D H b u ∧ Fits u ∧ k = decide (t = u)) ∨ (∃ X, Odd H y X ∧ k = false)) ∧ Q (.bl k) H
theorem ok_feq {fd : FuncData} (F : Fun K "__eq__" "Filter.__eq__" s_Filter__eq fQ fd) (T : ClsF K mg D fJ) (U : ClsE K D fQ) (z_isinstance : mg "isinstance" = none) : FnOk P w K mg base CX0 1 fQ fd ["self", "other"] (sp_feq D) := by
  have g_CF := T.g_CF
  refine F.ok sc_Filter__eq (fun vs H Q E h => ?_) (fun cdv A outer s H vs Q E hr h => ?_)
  · obtain ⟨a, y, t, k, rfl, _⟩ := h
    rfl
  · obtain ⟨a, y, t, k, rfl, ra, tok, h, q⟩ := h
    refine ⟨_, (pss_one (ps_ret (pe_and (pe_callB call_isi (by rfl) z_isinstance (by decide +kernel) (pa_cons (pv 1) (pa_cons (pe_glob rfl g_CF (relR _)) pa_nil))) (pe_one (pe_cmpR (op_eqD hr.units) (pe_fld (pv 0) rfl) (pe_fld (pv 1) rfl) (nomark _)))))), ?_⟩
    walk_at "rd"
    rcases h with ⟨b, u, rfl, rb, uok, rfl⟩ | ⟨X, o, rfl⟩
    · refine ⟨_, _, _, _, true, rfl, .own D, rb.ty T U, U.kit, true, rfl, iteT ?_⟩
      obtain ⟨dx, v, p, cs, ha, ta, _⟩ := ra
      obtain ⟨dy, v2, p2, ds, hb, tb, _⟩ := rb
      walk_at "rd"
      refine ⟨_, rfl, a, D, dx, _, _, rfl, ha, T.cl, T.nT, lk_tree, ?_⟩
      refine ⟨_, rfl, b, D, dy, _, _, rfl, hb, T.cl, T.nT, lk_tree, ?_⟩
      refine ⟨treeD t, treeD u, dpTr ta, dpTr tb, shapedTr tok.tx tok.dp, shapedTr uok.tx uok.dp, ?_⟩
      rw [eqv_treeD]
      exact q
    · exact ⟨_, _, _, _, false, rfl, .own D, o.ty, U.odd o, false, rfl, iteF q⟩
abbrev s_alike : Stmt := top 31
theorem sc_alike : FnScope ["_law_one", "_law_other", "_law_due"] ["_law_one", "_law_other", "_law_due"] (defScope s_alike) := ⟨rfl, rfl, rfl, by decide +kernel, rfl, by decide +kernel, by decide +kernel⟩
def sp_alike (D : Addr) : Sp := fun vs H Q _ => ∃ a y t k due, vs = [.ref a, y, .bl due] ∧ Fil D H a t ∧ Fits t ∧ ((∃ b u, y = .ref b ∧ Fil D H b u ∧ Fits u ∧ k = decide (t = u)) ∨ (∃ T, Odd H y T ∧ k = false)) ∧ ∀ H', Same H H' → Q (.bl (k == due)) H'
theorem self_nf : PySem.W.notFirst K C (.ref C) = true := by simp [PySem.W.notFirst]
/-- built-in types are no subclasses of the class -/
structure NoSub (K : PySem.W.Frag) (C : Addr) : Prop where
  n : PySem.W.notFirst K C (.type "NoneType") = true
  b : PySem.W.notFirst K C (.type "bool") = true
  i : PySem.W.notFirst K C (.type "int") = true
  s : PySem.W.notFirst K C (.type "str") = true
  l : PySem.W.notFirst K C (.type "list") = true
  t : PySem.W.notFirst K C (.type "tuple") = true
theorem NoSub.odd {H : Hp} {y : V} {X : String} (N : NoSub K C) (o : Odd H y X) : PySem.W.notFirst K C (.type X) = true := by
  cases o with
  | non => exact N.n
  | bl b => exact N.b
  | int i => exact N.i
  | str x => exact N.s
  | lst h => exact N.l
  | tup h => exact N.t
theorem eqv_bools (k due : Bool) : PyData.eqv (.list [.bool k, .bool k, .bool !k, .bool !k]) (.list [.bool due, .bool due, .bool !due, .bool !due]) = (k == due) := by
  cases k <;> cases due <;> simp [PyData.eqv, PyData.eqvAll]
theorem shaped_bools (a b c d : Bool) : SeqAt.shaped (.list [.bool a, .bool b, .bool c, .bool d]) = true := by
  simp [SeqAt.shaped, PyData.canLay0, PyData.canLayAll0, PyData.depth, PyData.depthAll]
theorem ok_alike {f : Addr} {fd : FuncData} (F : Fun K "_law_alike" "_law_alike" s_alike f fd) (T : ClsF K mg D fJ) (U : ClsE K D fQ) (N : NoSub K D) (R_feq : FnR P w K mg base CX0 1 fQ (fun vs H Q E => sp_feq D (vs ++ []) H Q E)) : FnOk P w K mg base CX0 4 f fd ["_law_one", "_law_other", "_law_due"] (sp_alike D) := by
  have O := U.eq
  refine F.ok sc_alike (fun vs H Q E h => ?_) (fun cdv A outer s H vs Q E hr h => ?_)
  · obtain ⟨a, y, t, k, due, rfl, _⟩ := h
    rfl
  · obtain ⟨a, y, t, k, due, rfl, ra, tok, h, q⟩ := h
    refine ⟨_, (pss_one (ps_ret (pe_cmpR (op_eqD hr.units) (pe_lst (pa_cons (pe_cmpR (op_eqO R_feq (hr.mono (by decide)) O.eq O.fn) (pv 0) (pv 1) (nomark _)) (pa_cons (pe_cmpR (op_or2 (op_eqO R_feq (hr.mono (by decide)) O.eq O.fn) (op_eqR R_feq (hr.mono (by decide)) O)) (pv 1) (pv 0) (nomark _)) (pa_cons (pe_cmpR (op_neO R_feq (hr.mono (by decide)) O) (pv 0) (pv 1) (nomark _)) (pa_cons (pe_cmpR (op_or2 (op_neO R_feq (hr.mono (by decide)) O) (op_neR R_feq (hr.mono (by decide)) O)) (pv 1) (pv 0) (nomark _)) pa_nil))))) (pe_lst (pa_cons (pv 2) (pa_cons (pv 2) (pa_cons (pe_not (pv 2)) (pa_cons (pe_not (pv 2)) pa_nil))))) (nomark _)))), ?_⟩
    obtain ⟨dx, v0, q0, cs0, ha, pa⟩ := id ra
    -- the four comparisons
    have fin : tOp (rEqD K) (tLst (tCons (tC (.bl k)) (tCons (tC (.bl k)) (tCons (tC (.bl !k)) (tCons (tC (.bl !k)) tNil))))) (tLst (tCons (tVar 2) (tCons (tVar 2) (tCons (tNotV (tVar 2)) (tCons (tNotV (tVar 2)) tNil))))) [some (.ref a), some y, some (.bl due)] H Q := by
      walk_at "rd"
      refine ⟨size_of (Nat.le_of_ble_eq_true rfl), fun r hr => ?_⟩
      obtain ⟨H1, e1, s1, h1⟩ := new_heap (o := .lst [.bl k, .bl k, .bl !k, .bl !k]) hr
      rw [e1]
      walk_at "rd"
      refine ⟨size_of (Nat.le_of_ble_eq_true rfl), fun r2 hr2 => ?_⟩
      obtain ⟨H2, e2, s2, h2⟩ := new_heap (o := .lst [.bl due, .bl due, .bl !due, .bl !due]) hr2
      rw [e2]
      refine ⟨_, _, .lst (SqL.of (s2 _ _ h1)) (.cons (.bl _) (.cons (.bl _) (.cons (.bl _) (.cons (.bl _) .nil)))), .lst (SqL.of h2) (.cons (.bl _) (.cons (.bl _) (.cons (.bl _) (.cons (.bl _) .nil)))), shaped_bools _ _ _ _, shaped_bools _ _ _ _, ?_⟩
      rw [eqv_bools]
      exact q H2 fun b o z => s2 _ _ (s1 _ _ z)
    walk_at "rd"
    rcases h with ⟨b, u, rfl, rb, uok, rfl⟩ | ⟨X, o, rfl⟩
    · obtain ⟨dy, v1, q1, cs1, hb, pb⟩ := id rb
      have sy : decide (u = t) = decide (t = u) := by
        by_cases e : t = u
        · rw [decide_eq_true e, decide_eq_true e.symm]
        · rw [decide_eq_false e, decide_eq_false (Ne.symm e)]
      refine ⟨a, dx, _, _, rfl, ha, rb.ty T U, self_nf, a, _, t, _, rfl, ra, tok, .inl ⟨b, u, rfl, rb, uok, rfl⟩, _, rfl, ?_⟩
      walk_at "rd"
      refine .inl ⟨b, dy, _, _, rfl, hb, ra.ty T U, self_nf, b, _, u, _, rfl, rb, uok, .inl ⟨a, t, rfl, ra, tok, sy.symm⟩, _, rfl, ?_⟩
      walk_at "rd"
      refine ⟨a, dx, _, _, rfl, ha, rb.ty T U, self_nf, a, _, t, _, rfl, ra, tok, .inl ⟨b, u, rfl, rb, uok, rfl⟩, _, rfl, ?_⟩
      walk_at "rd"
      refine .inl ⟨b, dy, _, _, rfl, hb, ra.ty T U, self_nf, b, _, u, _, rfl, rb, uok, .inl ⟨a, t, rfl, ra, tok, sy.symm⟩, _, rfl, ?_⟩
      exact fin
    · refine ⟨a, dx, _, _, rfl, ha, o.ty, N.odd o, a, _, t, _, rfl, ra, tok, .inr ⟨X, o, rfl⟩, _, rfl, ?_⟩
      walk_at "rd"
      refine .inr ⟨a, dx, _, X, rfl, ha, o, a, _, t, _, rfl, ra, tok, .inr ⟨X, o, rfl⟩, _, rfl, ?_⟩
      walk_at "rd"
      refine ⟨a, dx, _, _, rfl, ha, o.ty, N.odd o, a, _, t, _, rfl, ra, tok, .inr ⟨X, o, rfl⟩, _, rfl, ?_⟩
      walk_at "rd"
      refine .inr ⟨a, dx, _, X, rfl, ha, o, a, _, t, _, rfl, ra, tok, .inr ⟨X, o, rfl⟩, _, rfl, ?_⟩
      exact fin
end
end Spk

set_option Elab.async false
set_option linter.all false
set_option maxRecDepth 100000
set_option maxHeartbeats 1000000
namespace Spk
open PySem L2
local macro_rules | `(tactic| walk_at "rd") => `(tactic| repeat (first
  | with_reducible refine i_seq ?_ | with_reducible refine i_asg ?_ | with_reducible refine i_ret ?_ | with_reducible refine i_ifS ?_ | with_reducible refine i_if ?_
  | with_reducible refine i_for ?_ | with_reducible refine i_iL ?_ | with_reducible refine i_iT ?_ | with_reducible refine i_ckw ?_ | with_reducible refine i_cm ?_ | with_reducible refine And.intro (rfl : V.ref _ = V.ref _) ?_ | with_reducible refine i_rng1 ?_ | with_reducible refine i_bm ?_ | with_reducible refine i_bm0 ?_
  | with_reducible refine i_drop ?_ | with_reducible refine i_next ?_
  | with_reducible refine i_var rfl ?_ | with_reducible refine i_c ?_ | with_reducible refine i_op ?_ | with_reducible refine i_un ?_ | with_reducible refine i_name ?_
  | with_reducible refine i_rI0 ?_ | with_reducible refine i_rU ?_ | with_reducible refine i_rEq rfl ?_ | with_reducible refine i_rNe rfl ?_
  | with_reducible refine i_test ?_ | with_reducible refine i_tB ?_ | with_reducible refine i_and ?_ | with_reducible refine i_or ?_ | with_reducible refine i_not ?_
  | with_reducible refine i_andV ?_ | with_reducible refine i_orV ?_ | with_reducible refine i_notV ?_
  | with_reducible refine i_cons ?_ | with_reducible refine i_nil ?_ | with_reducible refine i_cb ?_ | with_reducible refine i_call ?_ | with_reducible refine i_bl ?_
  | with_reducible refine i_tup ?_ | with_reducible refine i_lst ?_ | with_reducible refine i_par ?_ | with_reducible refine i_gcons ?_ | with_reducible refine i_gnil ?_
  | with_reducible refine And.intro (rfl : V.non = V.non) ?_ | with_reducible refine i_ixT (by assumption) rfl ?_ | with_reducible refine i_ixL (by assumption) rfl ?_ | with_reducible refine i_gtup (by assumption) rfl ?_
  | with_reducible refine i_gsub ?_
  | with_reducible refine Or.inl (Exists.intro _ (And.intro (rfl : [V.int _] = [V.int _]) ?_)) | with_reducible refine Exists.intro _ (And.intro (rfl : [V.int _] = [V.int _]) ?_)
  | with_reducible refine Or.inr (Exists.intro _ (And.intro (rfl : [V.bl _] = [V.bl _]) ?_))
  | with_reducible refine Exists.intro _ (Exists.intro _ (And.intro (rfl : [V.int _, V.int _] = [V.int _, V.int _]) ?_))
  | with_reducible refine Exists.intro _ (Exists.intro _ (And.intro (rfl : [V.ref _] = [V.ref _]) (And.intro (Or.inl (SqL.of (by assumption))) ?_)))
  | with_reducible refine i_rI (show (0 : Int) < _ by assumption) ?_ | with_reducible refine i_rI (show (0 : Int) < _ by decide) ?_
  | with_reducible refine i_rI (pow_ok (Nat.le_of_ble_eq_true rfl) (Nat.le_of_ble_eq_true rfl)) ?_
  | with_reducible refine i_rI (cmulL rfl) ?_))
/-! ### trees and filters side by side -/
/-- a tree as the law has it -/
structure Good (t : Tr) : Prop where
  dp : t.deep ≤ 20
  mn : t.many ≤ 60
  few : t.Few
  ab : AB t
theorem AB.tx {t : Tr} (h : AB t) : TxsOk t.cols := fun c hc => by
  rcases h c hc with rfl | rfl <;> decide +kernel
theorem Good.fits {t : Tr} (h : Good t) : Fits t := ⟨h.ab.tx, Nat.le_trans h.dp (by decide)⟩
theorem ab_an {t u : Tr} (h : AB t) (h' : AB u) : AB (.an t u) := fun c hc => (List.mem_append.mp hc).elim (h c) (h' c)
theorem ab_ou {t u : Tr} (h : AB t) (h' : AB u) : AB (.ou t u) := fun c hc => (List.mem_append.mp hc).elim (h c) (h' c)
theorem ab_no {t : Tr} (h : AB t) : AB (.no t) := h
section
variable {P : Program} {w : World} {K : PySem.W.Frag} {mg : Str → Option Value} {base : Heap} {C D fJ fQ fI fE : Addr} {mc : Value} {pe pb po pf ge gb go gf fO : Addr} {md : Value} {pw pm pa pn gw gm ga gn hA hO hV hC : Addr}
abbrev s_condition : Stmt := top 24
theorem sc_condition : FnScope ["_law_tree"] ["_law_tree"] (defScope s_condition) := ⟨rfl, rfl, rfl, by decide +kernel, rfl, by decide +kernel, by decide +kernel⟩
def sp_condition (D : Addr) : Sp := fun vs H Q _ => ∃ t v, vs = [v] ∧ TreeAt H t v ∧ t.deep ≤ 1 ∧ t.Few ∧ NewF D H Q t
theorem ok_condition {f fS : Addr} {fd fdS : FuncData} (F : Fun K "_law_condition" "_law_condition" s_condition f fd) (g_CF : mg "Filter" = some (.ref D))
    (CF : ClsG K D md pw pm pa pn gw gm ga gn hA hO hV hC) (RF : ClsH P w K mg base C D gw gm ga gn hA hO hV hC)
    (F_set_of : Fun K "_law_set_of" "_law_set_of" s_set_of fS fdS) (B_set_of : Binds K fdS ["_law_parts"] []) (g_set_of : mg "_law_set_of" = some (.ref fS)) (G_set_of : FnOk P w K mg base CX0 6 fS fdS ["_law_parts"] (sp_set_of C)) :
    FnOk P w K mg base CX0 7 f fd ["_law_tree"] (sp_condition D) := by
  have RF_within := RF.within
  have RF_missing := RF.missing
  have RF_always := RF.always
  have RF_never := RF.never
  have pos : ∀ t : Tr, 1 ≤ t.deep := fun t => by
    cases t <;> simp only [Tr.deep] <;> omega
  refine F.ok sc_condition (fun vs H Q E h => ?_) (fun cdv A outer s H vs Q E hr h => ?_)
  · obtain ⟨t, v, rfl, _⟩ := h
    rfl
  · obtain ⟨t, v, rfl, ht, hd, few, k⟩ := h
    refine ⟨_, (pss_cons (ps_if (pt_cmpR op_eq (pe_ix ix_tup (pv 0) pe_int (fun _ _ => rfl)) pe_str (nomark _))
 (pss_one (ps_ret (pe_cmeth0 (pe_glob rfl g_CF (relR _)) CF.rd CF.always RF_always (hr.mono (by decide)) pass0)))
 pss_nil)
 (pss_cons (ps_if (pt_cmpR op_eq (pe_ix ix_tup (pv 0) pe_int (fun _ _ => rfl)) pe_str (nomark _))
 (pss_one (ps_ret (pe_cmeth0 (pe_glob rfl g_CF (relR _)) CF.rd CF.never RF_never (hr.mono (by decide)) pass0)))
 pss_nil)
 (pss_cons (ps_if (pt_cmpR op_eq (pe_ix ix_tup (pv 0) pe_int (fun _ _ => rfl)) pe_str (nomark _))
 (pss_one (ps_ret (ClX.pe_cmeth (pe_glob rfl g_CF (relR _)) CF.rd CF.missing RF_missing (hr.mono (by decide)) pass0 (pa_cons (pe_ix ix_tup (pv 0) pe_int (fun _ _ => rfl)) pa_nil))))
 pss_nil)
 (pss_one (ps_ret (ClX.pe_cmeth (pe_glob rfl g_CF (relR _)) CF.rd CF.within RF_within (hr.mono (by decide)) pass0 (pa_cons (pe_ix ix_tup (pv 0) pe_int (fun _ _ => rfl)) (pa_cons (pe_call G_set_of (hr.mono (by decide)) rfl g_set_of F_set_of.kp B_set_of .nil pass0 (pa_cons (pe_ix ix_tup (pv 0) pe_int (fun _ _ => rfl)) pa_nil)) pa_nil)))))))), ?_⟩
    cases t with
    | al =>
      obtain ⟨a, rfl, h1⟩ := ht
      walk_at "rd"
      refine s_yes ?_
      walk_at "rd"
      exact ⟨rfl, k⟩
    | ne =>
      obtain ⟨a, rfl, h1⟩ := ht
      walk_at "rd"
      refine s_no rfl ?_
      walk_at "rd"
      refine s_yes ?_
      walk_at "rd"
      exact ⟨rfl, k⟩
    | mi c =>
      obtain ⟨a, rfl, h1⟩ := ht
      walk_at "rd"
      refine s_no rfl ?_
      walk_at "rd"
      refine s_no rfl ?_
      walk_at "rd"
      refine s_yes ?_
      walk_at "rd"
      exact ⟨c, rfl, k⟩
    | wi c ps =>
      obtain ⟨a, p, rfl, h1, hp, ca⟩ := ht
      walk_at "rd"
      refine s_no rfl ?_
      walk_at "rd"
      refine s_no rfl ?_
      walk_at "rd"
      refine s_no rfl ?_
      walk_at "rd"
      refine ⟨p, ps, rfl, hp, ca, few, fun r H1 s1 hr1 => ?_⟩
      walk_at "rd"
      exact ⟨c, r, ps, rfl, hr1, fun x H' s2 hf => k x H' (fun b o z => s2 _ _ (s1 _ _ z)) hf⟩
    | an l r =>
      have := pos l
      simp only [Tr.deep] at hd
      omega
    | ou l r =>
      have := pos l
      simp only [Tr.deep] at hd
      omega
    | no t =>
      have := pos t
      simp only [Tr.deep] at hd
      omega
theorem in_yes {K : PySem.W.Frag} {H : Hp} {b : Addr} {x : V} {xs : List V} {Q : VK} (h : H b = some (.tup xs)) (f1 : flatV x = true) (f2 : xs.all flatV = true) (e : inV x xs = true) (q : Q (.bl true) H) : rIn K false x (.ref b) H Q := by
  refine ⟨b, xs, rfl, .inr (SqT.of h), f1, f2, ?_⟩
  rw [e]
  exact q
theorem in_no {K : PySem.W.Frag} {H : Hp} {b : Addr} {x : V} {xs : List V} {Q : VK} (h : H b = some (.tup xs)) (f1 : flatV x = true) (f2 : xs.all flatV = true) (e : inV x xs = false) (q : Q (.bl false) H) : rIn K false x (.ref b) H Q := by
  refine ⟨b, xs, rfl, .inr (SqT.of h), f1, f2, ?_⟩
  rw [e]
  exact q
abbrev s_deep : Stmt := top 27
theorem sc_deep : FnScope ["_law_tree"] ["_law_tree"] (defScope s_deep) := ⟨rfl, rfl, rfl, by decide +kernel, rfl, by decide +kernel, by decide +kernel⟩
def sp_deep (d : Nat) : Sp := fun vs H Q _ => ∃ t v, vs = [v] ∧ TreeAt H t v ∧ t.deep ≤ d ∧ ∀ H', Same H H' → Q (.int (t.deep : Nat)) H'
theorem ok_deep {f : Addr} {fd : FuncData} (F : Fun K "_law_deep" "_law_deep" s_deep f fd) (B_deep : Binds K fd ["_law_tree"] []) (g_deep : mg "_law_deep" = some (.ref f)) (z_max : mg "max" = none) : ∀ d, FnOk P w K mg base CX0 (d + 1) f fd ["_law_tree"] (sp_deep d) := by
  intro d
  induction d with
  | zero =>
    refine F.ok sc_deep (fun vs H Q E h => ?_) (fun cdv A outer s H vs Q E hr h => ?_)
    · obtain ⟨t, v, rfl, _⟩ := h
      rfl
    · obtain ⟨t, v, rfl, ht, hd, _⟩ := h
      cases t <;> exact absurd hd (by simp [Tr.deep])
  | succ d G_deep =>
    have F_deep := F
    refine F.ok sc_deep (fun vs H Q E h => ?_) (fun cdv A outer s H vs Q E hr h => ?_)
    · obtain ⟨t, v, rfl, _⟩ := h
      rfl
    · obtain ⟨t, v, rfl, ht, hd, q⟩ := h
      refine ⟨_, (pss_cons (ps_if (pt_cmpR op_in_seq (pe_ix ix_tup (pv 0) pe_int (fun _ _ => rfl)) (pe_tup (pa_cons pe_str (pa_cons pe_str pa_nil))) (by rfl))
 (pss_one (ps_ret (pe_op op_add pe_int (pe_callB (call_max2 rfl) (by rfl) z_max (by decide +kernel) (pa_cons (pe_call G_deep (hr.mono (by omega)) rfl g_deep F_deep.kp B_deep .nil pass0 (pa_cons (pe_ix ix_tup (pv 0) pe_int (fun _ _ => rfl)) pa_nil)) (pa_cons (pe_call G_deep (hr.mono (by omega)) rfl g_deep F_deep.kp B_deep .nil pass0 (pa_cons (pe_ix ix_tup (pv 0) pe_int (fun _ _ => rfl)) pa_nil)) pa_nil))))))
 pss_nil)
 (pss_one (ps_ret (pe_ifExp (pt_cmpR op_eq (pe_ix ix_tup (pv 0) pe_int (fun _ _ => rfl)) pe_str (nomark _)) (pe_op op_add pe_int (pe_call G_deep (hr.mono (by omega)) rfl g_deep F_deep.kp B_deep .nil pass0 (pa_cons (pe_ix ix_tup (pv 0) pe_int (fun _ _ => rfl)) pa_nil))) pe_int)))), ?_⟩
      cases t with
      | an l r =>
        obtain ⟨a, x, y, rfl, h1, h2, h3⟩ := ht
        have d1 : l.deep ≤ d ∧ r.deep ≤ d := by
          simp only [Tr.deep] at hd
          omega
        walk_at "rd"
        refine ⟨size_of (Nat.le_of_ble_eq_true rfl), fun b hb => ?_⟩
        obtain ⟨H1, e1, s1, hb1⟩ := new_heap (o := .tup [.str "and", .str "or"]) hb
        rw [e1]
        refine in_yes hb1 rfl rfl (by decide) ⟨true, rfl, iteT ?_⟩
        have h1' := s1 _ _ h1
        walk_at "rd"
        refine ⟨l, x, rfl, h2.up s1, d1.1, fun H2 s2 => ?_⟩
        have h1'' := s2 _ _ h1'
        walk_at "rd"
        refine ⟨r, y, rfl, h3.up (fun b o z => s2 _ _ (s1 _ _ z)), d1.2, fun H3 s3 => ?_⟩
        walk_at "rd"
        have z := q H3 (fun b o z => s3 _ _ (s2 _ _ (s1 _ _ z)))
        have e : ((Tr.deep (.an l r) : Nat) : Int) = 1 + (if ((r.deep : Nat) : Int) > ((l.deep : Nat) : Int) then ((r.deep : Nat) : Int) else ((l.deep : Nat) : Int)) := by
          simp only [Tr.deep]
          split <;> omega
        rw [e] at z
        exact z
      | ou l r =>
        obtain ⟨a, x, y, rfl, h1, h2, h3⟩ := ht
        have d1 : l.deep ≤ d ∧ r.deep ≤ d := by
          simp only [Tr.deep] at hd
          omega
        walk_at "rd"
        refine ⟨size_of (Nat.le_of_ble_eq_true rfl), fun b hb => ?_⟩
        obtain ⟨H1, e1, s1, hb1⟩ := new_heap (o := .tup [.str "and", .str "or"]) hb
        rw [e1]
        refine in_yes hb1 rfl rfl (by decide) ⟨true, rfl, iteT ?_⟩
        have h1' := s1 _ _ h1
        walk_at "rd"
        refine ⟨l, x, rfl, h2.up s1, d1.1, fun H2 s2 => ?_⟩
        have h1'' := s2 _ _ h1'
        walk_at "rd"
        refine ⟨r, y, rfl, h3.up (fun b o z => s2 _ _ (s1 _ _ z)), d1.2, fun H3 s3 => ?_⟩
        walk_at "rd"
        have z := q H3 (fun b o z => s3 _ _ (s2 _ _ (s1 _ _ z)))
        have e : ((Tr.deep (.ou l r) : Nat) : Int) = 1 + (if ((r.deep : Nat) : Int) > ((l.deep : Nat) : Int) then ((r.deep : Nat) : Int) else ((l.deep : Nat) : Int)) := by
          simp only [Tr.deep]
          split <;> omega
        rw [e] at z
        exact z
      | no t =>
        obtain ⟨a, x, rfl, h1, h2⟩ := ht
        have d1 : t.deep ≤ d := by
          simp only [Tr.deep] at hd
          omega
        walk_at "rd"
        refine ⟨size_of (Nat.le_of_ble_eq_true rfl), fun b hb => ?_⟩
        obtain ⟨H1, e1, s1, hb1⟩ := new_heap (o := .tup [.str "and", .str "or"]) hb
        rw [e1]
        refine in_no hb1 rfl rfl (by decide) ⟨false, rfl, iteF ?_⟩
        have h1' := s1 _ _ h1
        walk_at "rd"
        refine s_yes ?_
        walk_at "rd"
        refine ⟨t, x, rfl, h2.up s1, d1, fun H2 s2 => ?_⟩
        walk_at "rd"
        have z := q H2 (fun b o z => s2 _ _ (s1 _ _ z))
        have e : ((Tr.deep (.no t) : Nat) : Int) = 1 + ((t.deep : Nat) : Int) := by
          simp only [Tr.deep]
          omega
        rw [e] at z
        exact z
      | mi c =>
        obtain ⟨a, rfl, h1⟩ := ht
        walk_at "rd"
        refine ⟨size_of (Nat.le_of_ble_eq_true rfl), fun b hb => ?_⟩
        obtain ⟨H1, e1, s1, hb1⟩ := new_heap (o := .tup [.str "and", .str "or"]) hb
        rw [e1]
        refine in_no hb1 rfl rfl (by decide) ⟨false, rfl, iteF ?_⟩
        have h1' := s1 _ _ h1
        walk_at "rd"
        refine s_no rfl ?_
        walk_at "rd"
        exact q H1 s1
      | wi c ps =>
        obtain ⟨a, p, rfl, h1, hp, ca⟩ := ht
        walk_at "rd"
        refine ⟨size_of (Nat.le_of_ble_eq_true rfl), fun b hb => ?_⟩
        obtain ⟨H1, e1, s1, hb1⟩ := new_heap (o := .tup [.str "and", .str "or"]) hb
        rw [e1]
        refine in_no hb1 rfl rfl (by decide) ⟨false, rfl, iteF ?_⟩
        have h1' := s1 _ _ h1
        walk_at "rd"
        refine s_no rfl ?_
        walk_at "rd"
        exact q H1 s1
      | al =>
        obtain ⟨a, rfl, h1⟩ := ht
        walk_at "rd"
        refine ⟨size_of (Nat.le_of_ble_eq_true rfl), fun b hb => ?_⟩
        obtain ⟨H1, e1, s1, hb1⟩ := new_heap (o := .tup [.str "and", .str "or"]) hb
        rw [e1]
        refine in_no hb1 rfl rfl (by decide) ⟨false, rfl, iteF ?_⟩
        have h1' := s1 _ _ h1
        walk_at "rd"
        refine s_no rfl ?_
        walk_at "rd"
        exact q H1 s1
      | ne =>
        obtain ⟨a, rfl, h1⟩ := ht
        walk_at "rd"
        refine ⟨size_of (Nat.le_of_ble_eq_true rfl), fun b hb => ?_⟩
        obtain ⟨H1, e1, s1, hb1⟩ := new_heap (o := .tup [.str "and", .str "or"]) hb
        rw [e1]
        refine in_no hb1 rfl rfl (by decide) ⟨false, rfl, iteF ?_⟩
        have h1' := s1 _ _ h1
        walk_at "rd"
        refine s_no rfl ?_
        walk_at "rd"
        exact q H1 s1
abbrev s_many : Stmt := top 28
theorem sc_many : FnScope ["_law_tree"] ["_law_tree"] (defScope s_many) := ⟨rfl, rfl, rfl, by decide +kernel, rfl, by decide +kernel, by decide +kernel⟩
def sp_many (d : Nat) : Sp := fun vs H Q _ => ∃ t v, vs = [v] ∧ TreeAt H t v ∧ t.deep ≤ d ∧ ∀ H', Same H H' → Q (.int (t.many : Nat)) H'
theorem ok_many {f : Addr} {fd : FuncData} (F : Fun K "_law_many" "_law_many" s_many f fd) (B_many : Binds K fd ["_law_tree"] []) (g_many : mg "_law_many" = some (.ref f)) : ∀ d, FnOk P w K mg base CX0 (d + 1) f fd ["_law_tree"] (sp_many d) := by
  intro d
  induction d with
  | zero =>
    refine F.ok sc_many (fun vs H Q E h => ?_) (fun cdv A outer s H vs Q E hr h => ?_)
    · obtain ⟨t, v, rfl, _⟩ := h
      rfl
    · obtain ⟨t, v, rfl, ht, hd, _⟩ := h
      cases t <;> exact absurd hd (by simp [Tr.deep])
  | succ d G_many =>
    have F_many := F
    refine F.ok sc_many (fun vs H Q E h => ?_) (fun cdv A outer s H vs Q E hr h => ?_)
    · obtain ⟨t, v, rfl, _⟩ := h
      rfl
    · obtain ⟨t, v, rfl, ht, hd, q⟩ := h
      refine ⟨_, (pss_cons (ps_if (pt_cmpR op_in_seq (pe_ix ix_tup (pv 0) pe_int (fun _ _ => rfl)) (pe_tup (pa_cons pe_str (pa_cons pe_str pa_nil))) (by rfl))
 (pss_one (ps_ret (pe_op op_add (pe_call G_many (hr.mono (by omega)) rfl g_many F_many.kp B_many .nil pass0 (pa_cons (pe_ix ix_tup (pv 0) pe_int (fun _ _ => rfl)) pa_nil)) (pe_call G_many (hr.mono (by omega)) rfl g_many F_many.kp B_many .nil pass0 (pa_cons (pe_ix ix_tup (pv 0) pe_int (fun _ _ => rfl)) pa_nil)))))
 pss_nil)
 (pss_one (ps_ret (pe_ifExp (pt_cmpR op_eq (pe_ix ix_tup (pv 0) pe_int (fun _ _ => rfl)) pe_str (nomark _)) (pe_call G_many (hr.mono (by omega)) rfl g_many F_many.kp B_many .nil pass0 (pa_cons (pe_ix ix_tup (pv 0) pe_int (fun _ _ => rfl)) pa_nil)) pe_int)))), ?_⟩
      cases t with
      | an l r =>
        obtain ⟨a, x, y, rfl, h1, h2, h3⟩ := ht
        have d1 : l.deep ≤ d ∧ r.deep ≤ d := by
          simp only [Tr.deep] at hd
          omega
        walk_at "rd"
        refine ⟨size_of (Nat.le_of_ble_eq_true rfl), fun b hb => ?_⟩
        obtain ⟨H1, e1, s1, hb1⟩ := new_heap (o := .tup [.str "and", .str "or"]) hb
        rw [e1]
        refine in_yes hb1 rfl rfl (by decide) ⟨true, rfl, iteT ?_⟩
        have h1' := s1 _ _ h1
        walk_at "rd"
        refine ⟨l, x, rfl, h2.up s1, d1.1, fun H2 s2 => ?_⟩
        have h1'' := s2 _ _ h1'
        walk_at "rd"
        refine ⟨r, y, rfl, h3.up (fun b o z => s2 _ _ (s1 _ _ z)), d1.2, fun H3 s3 => ?_⟩
        walk_at "rd"
        have z := q H3 (fun b o z => s3 _ _ (s2 _ _ (s1 _ _ z)))
        have e : ((Tr.many (.an l r) : Nat) : Int) = ((l.many : Nat) : Int) + ((r.many : Nat) : Int) := by
          simp only [Tr.many]
          omega
        rw [e] at z
        exact z
      | ou l r =>
        obtain ⟨a, x, y, rfl, h1, h2, h3⟩ := ht
        have d1 : l.deep ≤ d ∧ r.deep ≤ d := by
          simp only [Tr.deep] at hd
          omega
        walk_at "rd"
        refine ⟨size_of (Nat.le_of_ble_eq_true rfl), fun b hb => ?_⟩
        obtain ⟨H1, e1, s1, hb1⟩ := new_heap (o := .tup [.str "and", .str "or"]) hb
        rw [e1]
        refine in_yes hb1 rfl rfl (by decide) ⟨true, rfl, iteT ?_⟩
        have h1' := s1 _ _ h1
        walk_at "rd"
        refine ⟨l, x, rfl, h2.up s1, d1.1, fun H2 s2 => ?_⟩
        have h1'' := s2 _ _ h1'
        walk_at "rd"
        refine ⟨r, y, rfl, h3.up (fun b o z => s2 _ _ (s1 _ _ z)), d1.2, fun H3 s3 => ?_⟩
        walk_at "rd"
        have z := q H3 (fun b o z => s3 _ _ (s2 _ _ (s1 _ _ z)))
        have e : ((Tr.many (.ou l r) : Nat) : Int) = ((l.many : Nat) : Int) + ((r.many : Nat) : Int) := by
          simp only [Tr.many]
          omega
        rw [e] at z
        exact z
      | no t =>
        obtain ⟨a, x, rfl, h1, h2⟩ := ht
        have d1 : t.deep ≤ d := by
          simp only [Tr.deep] at hd
          omega
        walk_at "rd"
        refine ⟨size_of (Nat.le_of_ble_eq_true rfl), fun b hb => ?_⟩
        obtain ⟨H1, e1, s1, hb1⟩ := new_heap (o := .tup [.str "and", .str "or"]) hb
        rw [e1]
        refine in_no hb1 rfl rfl (by decide) ⟨false, rfl, iteF ?_⟩
        have h1' := s1 _ _ h1
        walk_at "rd"
        refine s_yes ?_
        walk_at "rd"
        refine ⟨t, x, rfl, h2.up s1, d1, fun H2 s2 => ?_⟩
        walk_at "rd"
        have z := q H2 (fun b o z => s2 _ _ (s1 _ _ z))
        exact z
      | mi c =>
        obtain ⟨a, rfl, h1⟩ := ht
        walk_at "rd"
        refine ⟨size_of (Nat.le_of_ble_eq_true rfl), fun b hb => ?_⟩
        obtain ⟨H1, e1, s1, hb1⟩ := new_heap (o := .tup [.str "and", .str "or"]) hb
        rw [e1]
        refine in_no hb1 rfl rfl (by decide) ⟨false, rfl, iteF ?_⟩
        have h1' := s1 _ _ h1
        walk_at "rd"
        refine s_no rfl ?_
        walk_at "rd"
        exact q H1 s1
      | wi c ps =>
        obtain ⟨a, p, rfl, h1, hp, ca⟩ := ht
        walk_at "rd"
        refine ⟨size_of (Nat.le_of_ble_eq_true rfl), fun b hb => ?_⟩
        obtain ⟨H1, e1, s1, hb1⟩ := new_heap (o := .tup [.str "and", .str "or"]) hb
        rw [e1]
        refine in_no hb1 rfl rfl (by decide) ⟨false, rfl, iteF ?_⟩
        have h1' := s1 _ _ h1
        walk_at "rd"
        refine s_no rfl ?_
        walk_at "rd"
        exact q H1 s1
      | al =>
        obtain ⟨a, rfl, h1⟩ := ht
        walk_at "rd"
        refine ⟨size_of (Nat.le_of_ble_eq_true rfl), fun b hb => ?_⟩
        obtain ⟨H1, e1, s1, hb1⟩ := new_heap (o := .tup [.str "and", .str "or"]) hb
        rw [e1]
        refine in_no hb1 rfl rfl (by decide) ⟨false, rfl, iteF ?_⟩
        have h1' := s1 _ _ h1
        walk_at "rd"
        refine s_no rfl ?_
        walk_at "rd"
        exact q H1 s1
      | ne =>
        obtain ⟨a, rfl, h1⟩ := ht
        walk_at "rd"
        refine ⟨size_of (Nat.le_of_ble_eq_true rfl), fun b hb => ?_⟩
        obtain ⟨H1, e1, s1, hb1⟩ := new_heap (o := .tup [.str "and", .str "or"]) hb
        rw [e1]
        refine in_no hb1 rfl rfl (by decide) ⟨false, rfl, iteF ?_⟩
        have h1' := s1 _ _ h1
        walk_at "rd"
        refine s_no rfl ?_
        walk_at "rd"
        exact q H1 s1
end
end Spk

set_option Elab.async false
set_option linter.all false
set_option maxRecDepth 100000
set_option maxHeartbeats 1000000
namespace Spk
open PySem L2
local macro_rules | `(tactic| walk_at "rd") => `(tactic| repeat (first
  | with_reducible refine i_seq ?_ | with_reducible refine i_asg ?_ | with_reducible refine i_ret ?_ | with_reducible refine i_ifS ?_ | with_reducible refine i_if ?_
  | with_reducible refine i_for ?_ | with_reducible refine i_iL ?_ | with_reducible refine i_iT ?_ | with_reducible refine i_ckw ?_ | with_reducible refine i_cm ?_ | with_reducible refine And.intro (rfl : V.ref _ = V.ref _) ?_ | with_reducible refine i_rng1 ?_ | with_reducible refine i_bm ?_ | with_reducible refine i_bm0 ?_
  | with_reducible refine i_drop ?_ | with_reducible refine i_next ?_
  | with_reducible refine i_var rfl ?_ | with_reducible refine i_c ?_ | with_reducible refine i_op ?_ | with_reducible refine i_un ?_ | with_reducible refine i_name ?_
  | with_reducible refine i_rI0 ?_ | with_reducible refine i_rU ?_ | with_reducible refine i_rEq rfl ?_ | with_reducible refine i_rNe rfl ?_
  | with_reducible refine i_test ?_ | with_reducible refine i_tB ?_ | with_reducible refine i_and ?_ | with_reducible refine i_or ?_ | with_reducible refine i_not ?_
  | with_reducible refine i_andV ?_ | with_reducible refine i_orV ?_ | with_reducible refine i_notV ?_
  | with_reducible refine i_cons ?_ | with_reducible refine i_nil ?_ | with_reducible refine i_cb ?_ | with_reducible refine i_call ?_ | with_reducible refine i_bl ?_
  | with_reducible refine i_tup ?_ | with_reducible refine i_lst ?_ | with_reducible refine i_par ?_ | with_reducible refine i_gcons ?_ | with_reducible refine i_gnil ?_
  | with_reducible refine And.intro (rfl : V.non = V.non) ?_ | with_reducible refine i_ixT (by assumption) rfl ?_ | with_reducible refine i_ixL (by assumption) rfl ?_ | with_reducible refine i_gtup (by assumption) rfl ?_
  | with_reducible refine i_gsub ?_
  | with_reducible refine Or.inl (Exists.intro _ (And.intro (rfl : [V.int _] = [V.int _]) ?_)) | with_reducible refine Exists.intro _ (And.intro (rfl : [V.int _] = [V.int _]) ?_)
  | with_reducible refine Or.inr (Exists.intro _ (And.intro (rfl : [V.bl _] = [V.bl _]) ?_))
  | with_reducible refine Exists.intro _ (Exists.intro _ (And.intro (rfl : [V.int _, V.int _] = [V.int _, V.int _]) ?_))
  | with_reducible refine Exists.intro _ (Exists.intro _ (And.intro (rfl : [V.ref _] = [V.ref _]) (And.intro (Or.inl (SqL.of (by assumption))) ?_)))
  | with_reducible refine i_rI (show (0 : Int) < _ by assumption) ?_ | with_reducible refine i_rI (show (0 : Int) < _ by decide) ?_
  | with_reducible refine i_rI (pow_ok (Nat.le_of_ble_eq_true rfl) (Nat.le_of_ble_eq_true rfl)) ?_
  | with_reducible refine i_rI (cmulL rfl) ?_))
/-! ### the next filter -/
theorem penny_refs (as : List Addr) : penny (.lst (as.map V.ref)) = false := by
  rcases as with _ | ⟨a, _ | ⟨b, as⟩⟩
  · rfl
  · rfl
  · cases as <;> rfl
theorem tree_ref {H : Hp} {t : Tr} {v : V} (h : TreeAt H t v) : ∃ a, v = .ref a := by
  cases t with
  | wi c ps =>
    obtain ⟨a, p, e, _⟩ := h
    exact ⟨a, e⟩
  | mi c =>
    obtain ⟨a, e, _⟩ := h
    exact ⟨a, e⟩
  | al =>
    obtain ⟨a, e, _⟩ := h
    exact ⟨a, e⟩
  | ne =>
    obtain ⟨a, e, _⟩ := h
    exact ⟨a, e⟩
  | an l r =>
    obtain ⟨a, x, y, e, _⟩ := h
    exact ⟨a, e⟩
  | ou l r =>
    obtain ⟨a, x, y, e, _⟩ := h
    exact ⟨a, e⟩
  | no t =>
    obtain ⟨a, x, e, _⟩ := h
    exact ⟨a, e⟩
/-- trees at addresses, one by one -/
def Trees (H : Hp) : List Addr → List Tr → Prop := Paired fun a t => TreeAt H t (.ref a)
def Fils (D : Addr) (H : Hp) : List Addr → List Tr → Prop := Paired fun a t => Fil D H a t
theorem Trees.keep {H H' : Hp} {as : List Addr} {ts : List Tr} (e : Keep H H') (h : Trees H as ts) : Trees H' as ts := Paired.mapP h fun _ _ z => z.keep e
theorem Fils.keep {D : Addr} {H H' : Hp} {as : List Addr} {ts : List Tr} (e : Keep H H') (h : Fils D H as ts) : Fils D H' as ts := Paired.mapP h fun _ _ z => z.keep e
theorem TreeAt.put {H : Hp} {d : Addr} {xs : List V} {o : HO} {t : Tr} {v : V} (hd : H d = some (.lst xs)) (h : TreeAt H t v) : TreeAt (upd H d o) t v := by
  have off : ∀ a ys, H a = some (.tup ys) → upd H d o a = some (.tup ys) := fun a ys e => by
    rw [upd_ne (ne_of e hd (by intro z; cases z))]
    exact e
  refine h.via off fun a ps pt => ?_
  obtain ⟨vs, h1, tu⟩ := pt
  exact ⟨vs, off _ _ h1, Paired.mapP tu fun v s z => by
    obtain ⟨b, e, hb⟩ := z
    exact ⟨b, e, off _ _ hb⟩⟩
theorem Fil.put {D : Addr} {H : Hp} {d : Addr} {xs : List V} {o : HO} {t : Tr} {x : Addr} (hd : H d = some (.lst xs)) (h : Fil D H x t) : Fil D (upd H d o) x t := by
  obtain ⟨dx, v, q, cs, h1, h2, h3, h4⟩ := h
  refine ⟨dx, v, q, cs, ?_, h2.put hd, ?_, h4⟩
  · rw [upd_ne (ne_of h1 hd (by intro z; cases z))]
    exact h1
  · rw [upd_ne (ne_of h3 hd (by intro z; cases z))]
    exact h3
theorem Trees.put {H : Hp} {d : Addr} {xs : List V} {o : HO} {as : List Addr} {ts : List Tr} (hd : H d = some (.lst xs)) (h : Trees H as ts) : Trees (upd H d o) as ts := Paired.mapP h fun _ _ z => z.put hd
theorem Fils.put {D : Addr} {H : Hp} {d : Addr} {xs : List V} {o : HO} {as : List Addr} {ts : List Tr} (hd : H d = some (.lst xs)) (h : Fils D H as ts) : Fils D (upd H d o) as ts := Paired.mapP h fun _ _ z => z.put hd
theorem pair_nth {α β : Type} {R : α → β → Prop} {xs : List α} {ys : List β} (h : Paired R xs ys) : ∀ {i : Nat}, i < ys.length → ∃ x y, xs[i]? = some x ∧ ys[i]? = some y ∧ R x y := by
  induction h with
  | nil =>
    intro i e
    simp at e
  | cons r t ih =>
    intro i e
    cases i with
    | zero => exact ⟨_, _, rfl, rfl, r⟩
    | succ i => exact ih (by simpa using e)
theorem at_ref {as : List Addr} {i : Nat} {a : Addr} (h : as[i]? = some a) : atI (as.map V.ref) (i : Int) = some (.ref a) := by
  refine atI_nat ?_
  rw [List.getElem?_map, h]
  rfl
/-- what the next tree is made of -/
def Made (ts : List Tr) (wd : Str) (i j : Nat) (u : Tr) : Prop :=
  (wd = "and" ∧ ∃ a b, ts[i]? = some a ∧ ts[j]? = some b ∧ u = .an a b) ∨ (wd = "or" ∧ ∃ a b, ts[i]? = some a ∧ ts[j]? = some b ∧ u = .ou a b) ∨ (wd = "not" ∧ ∃ a, ts[i]? = some a ∧ u = .no a) ∨ (wd = "twice" ∧ ∃ a, ts[i]? = some a ∧ u = .no (.no a))
section
variable {P : Program} {w : World} {K : PySem.W.Frag} {mg : Str → Option Value} {base : Heap} {C D fJ fQ fI fE : Addr} {mc : Value} {pe pb po pf ge gb go gf fO : Addr} {md : Value} {pw pm pa pn gw gm ga gn hA hO hV hC : Addr}
abbrev s_next : Stmt := top 25
theorem sc_next : FnScope ["_law_pen_here", "_law_trees", "_law_at", "_law_other", "_law_pick"] ["_law_pen_here", "_law_trees"] (defScope s_next) := ⟨rfl, rfl, rfl, by decide +kernel, rfl, by decide +kernel, by decide +kernel⟩
def sp_next : Sp := fun vs H Q _ => ∃ p L n l as ts, vs = [.ref p, .ref l] ∧ Pen H p L n ∧ n ≤ 9000 ∧ H l = some (.lst (as.map V.ref)) ∧ Trees H as ts ∧ 1 ≤ ts.length ∧ ts.length ≤ 100 ∧
  ∀ r H' wd (i j : Nat) a u, Keep H H' → Pen H' p L (n + 3) → H' r = some (.tup [.str wd, .int i, .int j, .ref a]) → TreeAt H' u (.ref a) → Made ts wd i j u → Q (.ref r) H'
theorem ok_next {f fD : Addr} {fd fdD : FuncData} (F : Fun K "_law_next" "_law_next" s_next f fd) (F_draw : Fun K "_law_draw" "_law_draw" s_draw fD fdD) (B_draw : Binds K fdD ["_law_pen_here", "_law_many_here"] []) (g_draw : mg "_law_draw" = some (.ref fD))
    (G_draw : FnOk P w K mg base CX0 1 fD fdD ["_law_pen_here", "_law_many_here"] sp_draw) (z_len : mg "len" = none) : FnOk P w K mg base CX0 2 f fd ["_law_pen_here", "_law_trees"] sp_next := by
  refine F.ok sc_next (fun vs H Q E h => ?_) (fun cdv A outer s H vs Q E hr h => ?_)
  · obtain ⟨p, L, n, l, as, ts, rfl, _⟩ := h
    rfl
  · obtain ⟨p, L, n, l, as, ts, rfl, hp, hn, hl, ht, z1, z2, q⟩ := h
    refine ⟨_, (pss_cons (ps_par (i := 2) (j := 3) (by rfl) sc_next.nd rfl rfl (by decide) rfl rfl (pa_cons (pe_call G_draw (hr.mono (by decide)) rfl g_draw F_draw.kp B_draw .nil pass0 (pa_cons (pv 0) (pa_cons (pe_callB call_len_seq (by rfl) z_len PySem.boot_len (pa_cons (pv 1) pa_nil)) pa_nil))) (pa_cons (pe_call G_draw (hr.mono (by decide)) rfl g_draw F_draw.kp B_draw .nil pass0 (pa_cons (pv 0) (pa_cons (pe_callB call_len_seq (by rfl) z_len PySem.boot_len (pa_cons (pv 1) pa_nil)) pa_nil))) pa_nil)) (by rfl))
 (pss_cons (ps_set (i := 4) sc_next.nd rfl (Or.inl rfl) (pe_call G_draw (hr.mono (by decide)) rfl g_draw F_draw.kp B_draw .nil pass0 (pa_cons (pv 0) (pa_cons pe_int pa_nil))))
 (pss_cons (ps_if (pt_cmpR op_lt (pv 4) pe_int (nomark _))
 (pss_one (ps_ret (pe_tup (pa_cons pe_str (pa_cons (pv 2) (pa_cons (pv 3) (pa_cons (pe_tup (pa_cons pe_str (pa_cons (pe_ix ix_list (pv 1) (pv 2) (fun _ _ => rfl)) (pa_cons (pe_ix ix_list (pv 1) (pv 3) (fun _ _ => rfl)) pa_nil)))) pa_nil)))))))
 pss_nil)
 (pss_cons (ps_if (pt_cmpR op_lt (pv 4) pe_int (nomark _))
 (pss_one (ps_ret (pe_tup (pa_cons pe_str (pa_cons (pv 2) (pa_cons (pv 3) (pa_cons (pe_tup (pa_cons pe_str (pa_cons (pe_ix ix_list (pv 1) (pv 2) (fun _ _ => rfl)) (pa_cons (pe_ix ix_list (pv 1) (pv 3) (fun _ _ => rfl)) pa_nil)))) pa_nil)))))))
 pss_nil)
 (pss_cons (ps_if (pt_cmpR op_eq (pv 4) pe_int (nomark _))
 (pss_one (ps_ret (pe_tup (pa_cons pe_str (pa_cons (pv 2) (pa_cons (pv 2) (pa_cons (pe_tup (pa_cons pe_str (pa_cons (pe_ix ix_list (pv 1) (pv 2) (fun _ _ => rfl)) pa_nil))) pa_nil)))))))
 pss_nil)
 (pss_cons (ps_if (pt_cmpR op_eq (pv 4) pe_int (nomark _))
 (pss_one (ps_ret (pe_tup (pa_cons pe_str (pa_cons (pv 2) (pa_cons (pv 2) (pa_cons (pe_tup (pa_cons pe_str (pa_cons (pe_ix ix_list (pv 1) (pv 2) (fun _ _ => rfl)) (pa_cons (pe_ix ix_list (pv 1) (pv 2) (fun _ _ => rfl)) pa_nil)))) pa_nil)))))))
 pss_nil)
 (pss_one (ps_ret (pe_tup (pa_cons pe_str (pa_cons (pv 2) (pa_cons (pv 2) (pa_cons (pe_tup (pa_cons pe_str (pa_cons (pe_tup (pa_cons pe_str (pa_cons (pe_ix ix_list (pv 1) (pv 2) (fun _ _ => rfl)) pa_nil))) pa_nil))) pa_nil))))))))))))), ?_⟩
    have al : as.length = ts.length := Paired.length ht
    walk_at "rd"
    rw [List.length_map, al]
    refine ⟨p, L, n, _, rfl, hp, by omega, by omega, by omega, fun d1 H1 g0 g1 k1 p1 => ?_⟩
    have hl1 := k1 _ _ (penny_refs as) hl
    walk_at "rd"
    rw [List.length_map, al]
    refine ⟨p, L, n + 1, _, rfl, p1, by omega, by omega, by omega, fun d2 H2 f0 f1 k2 p2 => ?_⟩
    have hl2 := k2 _ _ (penny_refs as) hl1
    walk_at "rd"
    refine ⟨p, L, n + 2, 7, rfl, p2, by omega, by decide, by decide, fun d3 H3 _ _ k3 p3 => ?_⟩
    have hl3 := k3 _ _ (penny_refs as) hl2
    have ht3 := ((ht.keep k1).keep k2).keep k3
    have kk : Keep H H3 := (k1.trans k2).trans k3
    obtain ⟨i, rfl⟩ : ∃ i : Nat, d1 = (i : Int) := ⟨d1.toNat, by omega⟩
    obtain ⟨j, rfl⟩ : ∃ j : Nat, d2 = (j : Int) := ⟨d2.toNat, by omega⟩
    obtain ⟨a, t, ea, et, ta⟩ := pair_nth ht3 (i := i) (by omega)
    obtain ⟨b, u, eb, eu, tb⟩ := pair_nth ht3 (i := j) (by omega)
    have ai := at_ref ea
    have bi := at_ref eb
    have fin : ∀ (w1 : Str) (m : Tr) (xs : List V) (j : Nat), (∀ H' c, H' c = some (.tup xs) → Keep H3 H' → TreeAt H' m (.ref c)) → Made ts w1 i j m →
        ∀ c, H3 c = none → ([V.str w1, .int i, .int j, .ref c].length ≤ sizeLine ∧ ∀ r, upd H3 c (.tup xs) r = none → Q (.ref r) (upd (upd H3 c (.tup xs)) r (.tup [V.str w1, .int i, .int j, .ref c]))) := by
      intro w1 m xs j mk made c hc
      refine ⟨size_of (Nat.le_of_ble_eq_true rfl), ?_⟩
      obtain ⟨H4, e4, s4, h4⟩ := new_heap (o := .tup xs) hc
      rw [e4]
      intro r hr
      obtain ⟨H5, e5, s5, h5⟩ := new_heap (o := .tup [V.str w1, .int i, .int j, .ref c]) hr
      rw [e5]
      have s35 : Same H3 H5 := same_tr s4 s5
      exact q r H5 w1 i j c m (kk.trans (Same.keep s35)) (p3.up s35) h5 (mk H5 c (s5 _ _ h4) (Same.keep s35)) made
    walk_at "rd"
    refine ite_d (fun _ => ?_) (fun _ => ?_)
    · walk_at "rd"
      refine i_ixL hl3 ai ?_
      walk_at "rd"
      refine i_ixL hl3 bi ?_
      walk_at "rd"
      exact ⟨size_of (Nat.le_of_ble_eq_true rfl), fin "and" (.an t u) _ j (fun H' c hc k' => ⟨c, _, _, rfl, hc, ta.keep k', tb.keep k'⟩) (.inl ⟨rfl, t, u, et, eu, rfl⟩)⟩
    walk_at "rd"
    refine ite_d (fun _ => ?_) (fun _ => ?_)
    · walk_at "rd"
      refine i_ixL hl3 ai ?_
      walk_at "rd"
      refine i_ixL hl3 bi ?_
      walk_at "rd"
      exact ⟨size_of (Nat.le_of_ble_eq_true rfl), fin "or" (.ou t u) _ j (fun H' c hc k' => ⟨c, _, _, rfl, hc, ta.keep k', tb.keep k'⟩) (.inr (.inl ⟨rfl, t, u, et, eu, rfl⟩))⟩
    walk_at "rd"
    refine ite_d (fun _ => ?_) (fun _ => ?_)
    · walk_at "rd"
      refine i_ixL hl3 ai ?_
      walk_at "rd"
      exact ⟨size_of (Nat.le_of_ble_eq_true rfl), fin "not" (.no t) _ i (fun H' c hc k' => ⟨c, _, rfl, hc, ta.keep k'⟩) (.inr (.inr (.inl ⟨rfl, t, et, rfl⟩)))⟩
    walk_at "rd"
    refine ite_d (fun _ => ?_) (fun _ => ?_)
    · walk_at "rd"
      refine i_ixL hl3 ai ?_
      walk_at "rd"
      refine i_ixL hl3 ai ?_
      walk_at "rd"
      exact ⟨size_of (Nat.le_of_ble_eq_true rfl), fin "and" (.an t t) _ i (fun H' c hc k' => ⟨c, _, _, rfl, hc, ta.keep k', ta.keep k'⟩) (.inl ⟨rfl, t, t, et, et, rfl⟩)⟩
    walk_at "rd"
    refine i_ixL hl3 ai ?_
    walk_at "rd"
    refine ⟨size_of (Nat.le_of_ble_eq_true rfl), fun c0 hc0 => ?_⟩
    obtain ⟨H4, e4, s4, h4⟩ := new_heap (o := .tup [.str "not", .ref a]) hc0
    rw [e4]
    walk_at "rd"
    refine ⟨size_of (Nat.le_of_ble_eq_true rfl), fun c hc => ?_⟩
    obtain ⟨H5, e5, s5, h5⟩ := new_heap (o := .tup [.str "not", .ref c0]) hc
    rw [e5]
    walk_at "rd"
    refine ⟨size_of (Nat.le_of_ble_eq_true rfl), fun r hr => ?_⟩
    obtain ⟨H6, e6, s6, h6⟩ := new_heap (o := .tup [V.str "twice", .int i, .int i, .ref c]) hr
    rw [e6]
    have s36 : Same H3 H6 := same_tr s4 (same_tr s5 s6)
    exact q r H6 "twice" i i c (.no (.no t)) (kk.trans (Same.keep s36)) (p3.up s36) h6 ⟨c, _, rfl, s6 _ _ h5, c0, _, rfl, s6 _ _ (s5 _ _ h4), ta.up s36⟩ (.inr (.inr (.inr ⟨rfl, t, et, rfl⟩)))
abbrev s_built : Stmt := top 26
theorem sc_built : FnScope ["_law_filters", "_law_word", "_law_at", "_law_other"] ["_law_filters", "_law_word", "_law_at", "_law_other"] (defScope s_built) := ⟨rfl, rfl, rfl, by decide +kernel, rfl, by decide +kernel, by decide +kernel⟩
def sp_built (D : Addr) : Sp := fun vs H Q _ => ∃ l as ts wd, ∃ i j : Nat, ∃ u, vs = [.ref l, .str wd, .int i, .int j] ∧ H l = some (.lst (as.map V.ref)) ∧ Fils D H as ts ∧ Made ts wd i j u ∧ u.many < 64 ∧ NewF D H Q u
theorem ok_built {f : Addr} {fd : FuncData} (F : Fun K "_law_built" "_law_built" s_built f fd) (CF : ClsG K D md pw pm pa pn gw gm ga gn hA hO hV hC) (RF : ClsH P w K mg base C D gw gm ga gn hA hO hV hC) : FnOk P w K mg base CX0 4 f fd ["_law_filters", "_law_word", "_law_at", "_law_other"] (sp_built D) := by
  have RF_and := RF.and
  have RF_or := RF.or
  have RF_inv := RF.inv
  refine F.ok sc_built (fun vs H Q E h => ?_) (fun cdv A outer s H vs Q E hr h => ?_)
  · obtain ⟨l, as, ts, wd, i, j, u, rfl, _⟩ := h
    rfl
  · obtain ⟨l, as, ts, wd, i, j, u, rfl, hl, fs, made, mn, k⟩ := h
    refine ⟨_, (pss_cons (ps_if (pt_cmpR op_eq (pv 1) pe_str (nomark _))
 (pss_one (ps_ret (pe_op (op_own (op := .BitAnd) RF_and (hr.mono (by decide)) CF.self CF.andF CF.andI) (pe_ix ix_list (pv 0) (pv 2) (fun _ _ => rfl)) (pe_ix ix_list (pv 0) (pv 3) (fun _ _ => rfl)))))
 pss_nil)
 (pss_cons (ps_if (pt_cmpR op_eq (pv 1) pe_str (nomark _))
 (pss_one (ps_ret (pe_op (op_own (op := .BitOr) RF_or (hr.mono (by decide)) CF.self CF.orF CF.orI) (pe_ix ix_list (pv 0) (pv 2) (fun _ _ => rfl)) (pe_ix ix_list (pv 0) (pv 3) (fun _ _ => rfl)))))
 pss_nil)
 (pss_one (ps_ret (pe_ifExp (pt_cmpR op_eq (pv 1) pe_str (nomark _)) (pe_un (un_own RF_inv (hr.mono (by decide)) CF.invF CF.invI) (pe_ix ix_list (pv 0) (pv 2) (fun _ _ => rfl))) (pe_un (un_own RF_inv (hr.mono (by decide)) CF.invF CF.invI) (pe_un (un_own RF_inv (hr.mono (by decide)) CF.invF CF.invI) (pe_ix ix_list (pv 0) (pv 2) (fun _ _ => rfl))))))))), ?_⟩
    have get : ∀ {i : Nat} {t : Tr}, ts[i]? = some t → ∃ a, atI (as.map V.ref) (i : Int) = some (.ref a) ∧ Fil D H a t := fun {i t} e => by
      obtain ⟨a, t2, ea, et, ft⟩ := pair_nth fs (i := i) ((List.getElem?_eq_some_iff.mp e).1)
      rw [e] at et
      cases et
      exact ⟨a, at_ref ea, ft⟩
    rcases made with ⟨rfl, t, v, et, ev, rfl⟩ | ⟨rfl, t, v, et, ev, rfl⟩ | ⟨rfl, t, et, rfl⟩ | ⟨rfl, t, et, rfl⟩
    · obtain ⟨a, ai, fa⟩ := get et
      obtain ⟨b, bi, fb⟩ := get ev
      walk_at "rd"
      refine s_yes ?_
      walk_at "rd"
      refine i_ixL hl ai ?_
      walk_at "rd"
      refine i_ixL hl bi ?_
      refine i_fB fa fb ⟨a, b, t, v, rfl, fa, fb, mn, fun z H1 s1 hf => ?_⟩
      exact k z H1 s1 hf
    · obtain ⟨a, ai, fa⟩ := get et
      obtain ⟨b, bi, fb⟩ := get ev
      walk_at "rd"
      refine s_no rfl ?_
      walk_at "rd"
      refine s_yes ?_
      walk_at "rd"
      refine i_ixL hl ai ?_
      walk_at "rd"
      refine i_ixL hl bi ?_
      refine i_fB fa fb ⟨a, b, t, v, rfl, fa, fb, mn, fun z H1 s1 hf => ?_⟩
      exact k z H1 s1 hf
    · obtain ⟨a, ai, fa⟩ := get et
      walk_at "rd"
      refine s_no rfl ?_
      walk_at "rd"
      refine s_no rfl ?_
      walk_at "rd"
      refine s_yes ?_
      walk_at "rd"
      refine i_ixL hl ai ?_
      refine i_fU fa ⟨a, t, rfl, fa, fun z H1 s1 hf => ?_⟩
      exact k z H1 s1 hf
    · obtain ⟨a, ai, fa⟩ := get et
      walk_at "rd"
      refine s_no rfl ?_
      walk_at "rd"
      refine s_no rfl ?_
      walk_at "rd"
      refine s_no rfl ?_
      walk_at "rd"
      refine i_ixL hl ai ?_
      refine i_fU fa ⟨a, t, rfl, fa, fun z H1 s1 hf => ?_⟩
      refine i_fU hf ⟨z, .no t, rfl, hf, fun z2 H2 s2 hf2 => ?_⟩
      exact k z2 H2 (same_tr s1 s2) hf2
end
end Spk

set_option Elab.async false
set_option linter.all false
set_option maxRecDepth 100000
set_option maxHeartbeats 1000000
namespace Spk
open PySem L2
/-! ## for i, x in enumerate(list) -/
theorem i_iE {K : PySem.W.Frag} {σ : L2.St} {H : Hp} {ta : TA} {R : It → Hp → Prop} (h : ta σ H fun vs H1 => ∃ a xs, vs = [.ref a] ∧ SqL K H1 a xs ∧ R (Ite K a) H1) : iEnum K ta σ H R := h
theorem for_enumL {K : PySem.W.Frag} {a : Addr} {xs : List V} {g : TG} {tb : TS} {D : Ends} {σ : L2.St} {H : Hp} (Pv : Nat → L2.St → Hp → Prop) (h0 : Pv 0 σ H) (hl : ∀ i σ H, i ≤ xs.length → Pv i σ H → SqL K H a xs)
    (hs : ∀ i x T σ H, xs[i]? = some x → Pv i σ H → H T = none → g (.ref T) σ (upd H T (.tup [.int (i : Nat), x])) fun σ2 H2 => tb { D with nx := Pv (i + 1), ct := Pv (i + 1), bk := D.nx } σ2 H2) (hd : ∀ σ H, Pv xs.length σ H → D.nx σ H) :
    forK g tb D σ (Ite K a) H := by
  refine ⟨fun i m σ H => m = xs.length - i ∧ i ≤ xs.length ∧ Pv i σ H, ⟨_, rfl, Nat.zero_le _, h0⟩, ?_⟩
  rintro i m σ H ⟨rfl, hi, p⟩
  by_cases e : i = xs.length
  · subst e
    exact .inl ⟨⟨xs, hl _ _ _ hi p, Nat.le_refl _⟩, hd _ _ p⟩
  · have hlt : i < xs.length := by omega
    refine .inr ⟨⟨xs, xs[i], hl _ _ _ hi p, List.getElem?_eq_getElem hlt⟩, Pv (i + 1), fun σ' H' p' => ⟨_, ?_, rfl, hlt, p'⟩, ?_⟩
    · omega
    · rintro x H' ⟨T, y, rfl, hT, rfl, hy⟩
      exact hs i y T σ H (hy xs (hl _ _ _ hi p)) p hT
end Spk

set_option Elab.async false
set_option linter.all false
set_option maxRecDepth 100000
set_option maxHeartbeats 4000000
namespace Spk
open PySem L2
local macro_rules | `(tactic| walk_at "rd") => `(tactic| repeat (first
  | with_reducible refine i_seq ?_ | with_reducible refine i_asg ?_ | with_reducible refine i_ret ?_ | with_reducible refine i_ifS ?_ | with_reducible refine i_if ?_
  | with_reducible refine i_for ?_ | with_reducible refine i_iL ?_ | with_reducible refine i_iT ?_ | with_reducible refine i_ckw ?_ | with_reducible refine i_cm ?_ | with_reducible refine And.intro (rfl : V.ref _ = V.ref _) ?_ | with_reducible refine i_rng1 ?_ | with_reducible refine i_bm ?_ | with_reducible refine i_bm0 ?_
  | with_reducible refine i_drop ?_ | with_reducible refine i_next ?_
  | with_reducible refine i_var rfl ?_ | with_reducible refine i_c ?_ | with_reducible refine i_op ?_ | with_reducible refine i_un ?_ | with_reducible refine i_name ?_
  | with_reducible refine i_rI0 ?_ | with_reducible refine i_rU ?_ | with_reducible refine i_rEq rfl ?_ | with_reducible refine i_rNe rfl ?_
  | with_reducible refine i_test ?_ | with_reducible refine i_tB ?_ | with_reducible refine i_and ?_ | with_reducible refine i_or ?_ | with_reducible refine i_not ?_
  | with_reducible refine i_andV ?_ | with_reducible refine i_orV ?_ | with_reducible refine i_notV ?_
  | with_reducible refine i_cons ?_ | with_reducible refine i_nil ?_ | with_reducible refine i_cb ?_ | with_reducible refine i_call ?_ | with_reducible refine i_bl ?_
  | with_reducible refine i_tup ?_ | with_reducible refine i_lst ?_ | with_reducible refine i_par ?_ | with_reducible refine i_gcons ?_ | with_reducible refine i_gnil ?_
  | with_reducible refine And.intro (rfl : V.non = V.non) ?_ | with_reducible refine i_ixT (by assumption) rfl ?_ | with_reducible refine i_ixL (by assumption) rfl ?_ | with_reducible refine i_gtup (by assumption) rfl ?_
  | with_reducible refine i_gsub ?_
  | with_reducible refine Or.inl (Exists.intro _ (And.intro (rfl : [V.int _] = [V.int _]) ?_)) | with_reducible refine Exists.intro _ (And.intro (rfl : [V.int _] = [V.int _]) ?_)
  | with_reducible refine Or.inr (Exists.intro _ (And.intro (rfl : [V.bl _] = [V.bl _]) ?_))
  | with_reducible refine Exists.intro _ (Exists.intro _ (And.intro (rfl : [V.int _, V.int _] = [V.int _, V.int _]) ?_))
  | with_reducible refine Exists.intro _ (Exists.intro _ (And.intro (rfl : [V.ref _] = [V.ref _]) (And.intro (Or.inl (SqL.of (by assumption))) ?_)))
  | with_reducible refine i_rI (show (0 : Int) < _ by assumption) ?_ | with_reducible refine i_rI (show (0 : Int) < _ by decide) ?_
  | with_reducible refine i_rI (pow_ok (Nat.le_of_ble_eq_true rfl) (Nat.le_of_ble_eq_true rfl)) ?_
  | with_reducible refine i_rI (cmulL rfl) ?_))
/-! ### the law -/
theorem ite_s {c A B U : Prop} [Decidable c] (hA : c → A) (hU : ¬ c → U) : if decide c = true then (if true = true then A else B) else U := by
  by_cases h : c
  · rw [decide_eq_true h, if_pos rfl, if_pos rfl]
    exact hA h
  · rw [decide_eq_false h, if_neg (by decide)]
    exact hU h
theorem pen_off {H : Hp} {p L d : Addr} {n : Nat} {o : HO} (h : Pen H p L n) (n1 : p ≠ d) (n2 : L ≠ d) : Pen (upd H d o) p L n := by
  obtain ⟨ns, a, l, h1, h2, r⟩ := h
  exact ⟨ns, a, l, by rw [upd_ne n1]; exact h1, by rw [upd_ne n2]; exact h2, r⟩
theorem pen_ne {H : Hp} {p L d : Addr} {n : Nat} (h : Pen H p L n) (hd : H d = none) : p ≠ d ∧ L ≠ d := by
  obtain ⟨ns, a, l, h1, h2, r⟩ := h
  exact ⟨ne_of_none h1 hd, ne_of_none h2 hd⟩
theorem good_leaf {t : Tr} {cs : List Str} (m : t.many = 1) (d : t.deep = 1) (few : t.Few) (on : Of cs t) (two : ∀ c, c ∈ cs → c = "a" ∨ c = "b") : Good t :=
  ⟨by omega, by omega, few, fun c hc => two c (on c hc)⟩
theorem made_ok {ts : List Tr} {wd : Str} {i j : Nat} {u : Tr} (g : ∀ t, t ∈ ts → Good t) (m : Made ts wd i j u) : u.deep ≤ 22 ∧ u.Few ∧ AB u := by
  have get : ∀ {i : Nat} {t : Tr}, ts[i]? = some t → Good t := fun e => g _ (List.mem_of_getElem? e)
  rcases m with ⟨_, t, v, et, ev, rfl⟩ | ⟨_, t, v, et, ev, rfl⟩ | ⟨_, t, et, rfl⟩ | ⟨_, t, et, rfl⟩
  · have a := get et
    have b := get ev
    have d1 := a.dp
    have d2 := b.dp
    exact ⟨by simp only [Tr.deep]; omega, ⟨a.few, b.few⟩, ab_an a.ab b.ab⟩
  · have a := get et
    have b := get ev
    have d1 := a.dp
    have d2 := b.dp
    exact ⟨by simp only [Tr.deep]; omega, ⟨a.few, b.few⟩, ab_ou a.ab b.ab⟩
  · have a := get et
    have d1 := a.dp
    exact ⟨by simp only [Tr.deep]; omega, a.few, a.ab⟩
  · have a := get et
    have d1 := a.dp
    exact ⟨by simp only [Tr.deep]; omega, a.few, a.ab⟩
theorem pair_snoc {α β : Type} {R : α → β → Prop} {xs : List α} {ys : List β} {x : α} {y : β} (h : Paired R xs ys) (r : R x y) : Paired R (xs ++ [x]) (ys ++ [y]) := Paired.snoc h r
theorem take_snoc {α : Type} {ts : List α} {i : Nat} {t : α} (h : ts[i]? = some t) : ts.take (i + 1) = ts.take i ++ [t] := by
  rw [List.take_add_one, h]
  rfl
theorem ref_at {β : Type} {R : Addr → β → Prop} {as : List Addr} {ys : List β} {i : Nat} {x : V} (h : Paired R as ys) (hx : (as.map V.ref)[i]? = some x) : ∃ b y, as[i]? = some b ∧ ys[i]? = some y ∧ R b y ∧ x = .ref b := by
  have hi : i < ys.length := by
    have := (List.getElem?_eq_some_iff.mp hx).1
    rw [List.length_map, Paired.length h] at this
    exact this
  obtain ⟨b, y, e1, e2, r⟩ := pair_nth h hi
  rw [List.getElem?_map, e1] at hx
  exact ⟨b, y, e1, e2, r, (Option.some.inj hx).symm⟩
theorem tree_tup {H : Hp} {t : Tr} {b : Addr} (h : TreeAt H t (.ref b)) : ∃ xs, H b = some (.tup xs) := by
  cases t with
  | wi c ps =>
    obtain ⟨a, p, e, h1, _⟩ := h
    cases e
    exact ⟨_, h1⟩
  | mi c =>
    obtain ⟨a, e, h1⟩ := h
    cases e
    exact ⟨_, h1⟩
  | al =>
    obtain ⟨a, e, h1⟩ := h
    cases e
    exact ⟨_, h1⟩
  | ne =>
    obtain ⟨a, e, h1⟩ := h
    cases e
    exact ⟨_, h1⟩
  | an l r =>
    obtain ⟨a, x, y, e, h1, _⟩ := h
    cases e
    exact ⟨_, h1⟩
  | ou l r =>
    obtain ⟨a, x, y, e, h1, _⟩ := h
    cases e
    exact ⟨_, h1⟩
  | no t =>
    obtain ⟨a, x, e, h1, _⟩ := h
    cases e
    exact ⟨_, h1⟩
/-- the sets of the law's end -/
def sev : List Stc := [(some 1, some 1), (some 3, some 3)]
def thr : List Stc := [(some 1, some 3)]
theorem sev_ok : Canon sev := by
  refine ⟨fun s hs l h e1 e2 => ?_, ?_⟩
  · simp only [sev, List.mem_cons, List.not_mem_nil, or_false] at hs
    rcases hs with rfl | rfl <;> (cases e1; cases e2; omega)
  · refine List.pairwise_cons.mpr ⟨fun s hs => ?_, List.pairwise_singleton ..⟩
    rw [List.mem_singleton.mp hs]
    exact ⟨1, 3, rfl, rfl, by decide⟩
theorem thr_ok : Canon thr := canon_one fun l h e1 e2 => by cases e1; cases e2; decide
theorem sev_has (n : Int) : hasL (singles [3, 1]) n = hasL sev n := by
  rw [Bool.eq_iff_iff]
  simp [singles, sev, hasL, has1]
  omega
theorem thr_or (n : Int) : (hasL sev n || hasL (singles [2]) n) = hasL thr n := by
  rw [Bool.eq_iff_iff]
  simp [singles, sev, thr, hasL, has1]
  omega
theorem thr_one (n : Int) : has1 (some 1, some 3) n = hasL thr n := by
  simp [thr, hasL]
theorem fitA : Fits (.wi "a" thr) := ⟨AB.tx fun c hc => .inl (List.mem_singleton.mp hc), by decide⟩
theorem fitB : Fits (.wi "b" thr) := ⟨AB.tx fun c hc => .inr (List.mem_singleton.mp hc), by decide⟩
theorem a_not_b : ¬ Tr.wi "a" thr = .wi "b" thr := fun h => by
  have e := (Tr.wi.inj h).1
  have : (("a" : Str) == "b") = false := rfl
  rw [e, beq_self_eq_true] at this
  cases this
/-- the three lists of the law -/
structure Three (D tl fl sl : Addr) (ts : List Tr) (H : Hp) : Prop where
  ex : ∃ tas fas : List Addr, H tl = some (.lst (tas.map V.ref)) ∧ H fl = some (.lst (fas.map V.ref)) ∧ H sl = some (.lst ((ts.map saysT).map V.str)) ∧ Trees H tas ts ∧ Fils D H fas ts ∧ ∀ t, t ∈ ts → Good t
theorem penny_strs2 (cs : List Str) : penny (.lst (cs.map V.str)) = false := penny_strs cs
theorem Three.keep {D tl fl sl : Addr} {ts : List Tr} {H H' : Hp} (e : Keep H H') (h : Three D tl fl sl ts H) : Three D tl fl sl ts H' := by
  obtain ⟨tas, fas, h1, h2, h3, h4, h5, h6⟩ := h
  exact ⟨tas, fas, e _ _ (penny_refs _) h1, e _ _ (penny_refs _) h2, e _ _ (penny_strs _) h3, h4.keep e, h5.keep e, h6⟩
/-- none stands where another stands -/
structure Apart5 (p L tl fl sl : Addr) : Prop where
  pt : p ≠ tl
  pf : p ≠ fl
  ps : p ≠ sl
  lt : L ≠ tl
  lf : L ≠ fl
  ls : L ≠ sl
  tf : tl ≠ fl
  ts : tl ≠ sl
  fs : fl ≠ sl
section
variable {P : Program} {w : World} {K : PySem.W.Frag} {mg : Str → Option Value} {base : Heap} {C D fJ fQ fI fE : Addr} {mc : Value} {pe pb po pf ge gb go gf fO : Addr} {md : Value} {pw pm pa pn gw gm ga gn hA hO hV hC : Addr}
abbrev s_law : Stmt := top 32
theorem sc_law : FnScope ["_law_script", "_law_pen_here", "_law_trees", "_law_filters", "_law_said_here", "_law_turn", "_law_word", "_law_at", "_law_other", "_law_tree", "_law_made", "_law_odd", "_law_several", "_law_one"] ["_law_script"] (defScope s_law) := ⟨rfl, rfl, rfl, by decide +kernel, rfl, by decide +kernel, by decide +kernel⟩
def sp_law (K : PySem.W.Frag) : Sp := fun vs H Q _ => ∃ a, ∃ ns : List Int, vs = [.ref a] ∧ SqL K H a (ns.map V.int) ∧ ns.length ≤ 63 ∧ ∀ H', Q (.bl true) H'
theorem ok_law {f fP fL fC fX fB fA fM fU fS fK : Addr} {fd fdP fdL fdC fdX fdB fdA fdM fdU fdS fdK : FuncData} (F : Fun K "law" "law" s_law f fd) (T : ClsF K mg D fJ) (TC : ClsT K mg C fI fE)
    (CM : ClsM K C mc pe pb po pf ge gb go gf fO) (R : ClsR P w K mg base C ge gb go gf fO fE) (g_C : mg "Ranges" = some (.ref C)) (g_CF : mg "Filter" = some (.ref D)) (CF : ClsG K D md pw pm pa pn gw gm ga gn hA hO hV hC) (RF : ClsH P w K mg base C D gw gm ga gn hA hO hV hC)
    (F_pen : Fun K "_law_pen" "_law_pen" s_pen fP fdP) (B_pen : Binds K fdP ["_law_script"] []) (g_pen : mg "_law_pen" = some (.ref fP)) (G_pen : FnOk P w K mg base CX0 1 fP fdP ["_law_script"] (sp_pen K))
    (F_leaf : Fun K "_law_leaf" "_law_leaf" s_leaf fL fdL) (B_leaf : Binds K fdL ["_law_pen_here", "_law_columns"] []) (g_leaf : mg "_law_leaf" = some (.ref fL)) (G_leaf : FnOk P w K mg base CX0 7 fL fdL ["_law_pen_here", "_law_columns"] sp_leaf)
    (F_condition : Fun K "_law_condition" "_law_condition" s_condition fC fdC) (B_condition : Binds K fdC ["_law_tree"] []) (g_condition : mg "_law_condition" = some (.ref fC)) (G_condition : FnOk P w K mg base CX0 7 fC fdC ["_law_tree"] (sp_condition D))
    (F_next : Fun K "_law_next" "_law_next" s_next fX fdX) (B_next : Binds K fdX ["_law_pen_here", "_law_trees"] []) (g_next : mg "_law_next" = some (.ref fX)) (G_next : FnOk P w K mg base CX0 2 fX fdX ["_law_pen_here", "_law_trees"] sp_next)
    (F_built : Fun K "_law_built" "_law_built" s_built fB fdB) (B_built : Binds K fdB ["_law_filters", "_law_word", "_law_at", "_law_other"] []) (g_built : mg "_law_built" = some (.ref fB)) (G_built : FnOk P w K mg base CX0 4 fB fdB ["_law_filters", "_law_word", "_law_at", "_law_other"] (sp_built D))
    (F_deep : Fun K "_law_deep" "_law_deep" s_deep fA fdA) (B_deep : Binds K fdA ["_law_tree"] []) (g_deep : mg "_law_deep" = some (.ref fA)) (G_deep : FnOk P w K mg base CX0 23 fA fdA ["_law_tree"] (sp_deep 22))
    (F_many : Fun K "_law_many" "_law_many" s_many fM fdM) (B_many : Binds K fdM ["_law_tree"] []) (g_many : mg "_law_many" = some (.ref fM)) (G_many : FnOk P w K mg base CX0 23 fM fdM ["_law_tree"] (sp_many 22))
    (F_due_said : Fun K "_law_due_said" "_law_due_said" s_due_said fU fdU) (B_due_said : Binds K fdU ["_law_tree"] []) (g_due_said : mg "_law_due_said" = some (.ref fU)) (G_due_said : FnG P w K mg base CX0 25 fU fdU ["_law_tree"] sp_due_said)
    (F_said : Fun K "_law_said" "_law_said" s_said fS fdS) (B_said : Binds K fdS ["_law_made"] []) (g_said : mg "_law_said" = some (.ref fS)) (G_said : FnG P w K mg base CX0 25 fS fdS ["_law_made"] (sp_said D))
    (F_alike : Fun K "_law_alike" "_law_alike" s_alike fK fdK) (B_alike : Binds K fdK ["_law_one", "_law_other", "_law_due"] []) (g_alike : mg "_law_alike" = some (.ref fK)) (G_alike : FnOk P w K mg base CX0 4 fK fdK ["_law_one", "_law_other", "_law_due"] (sp_alike D))
    (z_len : mg "len" = none) (z_range : mg "range" = none) (z_enumerate : mg "enumerate" = none) : FnG P w K mg base CX0 27 f fd ["_law_script"] (sp_law K) := by
  have R_of := R.of
  have R_between := R.between
  have R_or := R.or
  have RF_within := RF.within
  have RF_always := RF.always
  have RF_never := RF.never
  have RF_and := RF.and
  have RF_inv := RF.inv
  refine F.okG sc_law (fun vs H Q E h => ?_) (fun cdv A gG outer s H vs Q E hr h => ?_)
  · obtain ⟨a, ns, rfl, _⟩ := h
    rfl
  · obtain ⟨a, ns, rfl, ha, hn, q⟩ := h
    refine ⟨_, (pss_cons (ps_set (i := 1) sc_law.nd rfl (Or.inr rfl) (pe_call G_pen (hr.mono (by decide)) rfl g_pen F_pen.kp B_pen .nil pass0 (pa_cons (pv 0) pa_nil)))
 (pss_cons (ps_setLc (i := 2) (own := [("_law_turn", 5)]) (g := gName 5) (tt := tYes) rfl sc_law.nd rfl rfl (sw_true rfl rfl rfl (by decide +kernel)) (pi_range1 (by rfl) z_range (pa_cons pe_int pa_nil)) (blkOk_by (own := [("_law_turn", 5)]) (N := ["_law_script", "_law_pen_here", "_law_trees", "_law_filters", "_law_said_here", "_law_turn", "_law_word", "_law_at", "_law_other", "_law_tree", "_law_made", "_law_odd", "_law_several", "_law_one"]) (sc := defScope s_law) (by decide +kernel)) (fun _ _ _ _ _ => pg_name (i := 5) sc_law.nd rfl (Or.inl rfl)) (fun _ _ _ _ _ => pts_nil) (fun _ _ _ _ _ => (pe_call G_leaf (hr.mono (by decide)) rfl g_leaf F_leaf.kp B_leaf .nil pass0 (pa_cons (pv 1) (pa_cons (pe_lst (pa_cons pe_str (pa_cons pe_str pa_nil))) pa_nil)))))
 (pss_cons (ps_setLc (i := 3) (own := [("_law_tree", 9)]) (g := gName 9) (tt := tYes) rfl sc_law.nd rfl rfl (sw_true rfl rfl rfl (by decide +kernel)) (pi_list (pv 2)) (blkOk_by (own := [("_law_tree", 9)]) (N := ["_law_script", "_law_pen_here", "_law_trees", "_law_filters", "_law_said_here", "_law_turn", "_law_word", "_law_at", "_law_other", "_law_tree", "_law_made", "_law_odd", "_law_several", "_law_one"]) (sc := defScope s_law) (by decide +kernel)) (fun _ _ _ _ _ => pg_name (i := 9) sc_law.nd rfl (Or.inl rfl)) (fun _ _ _ _ _ => pts_nil) (fun _ _ _ _ _ => (pe_call G_condition (hr.mono (by decide)) rfl g_condition F_condition.kp B_condition .nil pass0 (pa_cons (pv 9) pa_nil))))
 (pss_cons (ps_setLc (i := 4) (own := [("_law_made", 10)]) (g := gName 10) (tt := tYes) rfl sc_law.nd rfl rfl (sw_true rfl rfl rfl (by decide +kernel)) (pi_list (pv 3)) (blkOk_by (own := [("_law_made", 10)]) (N := ["_law_script", "_law_pen_here", "_law_trees", "_law_filters", "_law_said_here", "_law_turn", "_law_word", "_law_at", "_law_other", "_law_tree", "_law_made", "_law_odd", "_law_several", "_law_one"]) (sc := defScope s_law) (by decide +kernel)) (fun _ _ _ _ _ => pg_name (i := 10) sc_law.nd rfl (Or.inl rfl)) (fun _ _ _ _ _ => pts_nil) (fun _ _ _ _ _ => (pe_callG G_said gG (hr.mono (by decide)) rfl g_said F_said.kp B_said .nil pass0 (pa_cons (pv 10) pa_nil))))
 (pss_cons (ps_for PassesOwn.never rfl (pi_range1 (by rfl) z_range (pa_cons pe_int pa_nil)) (pg_name (i := 5) sc_law.nd rfl (Or.inl rfl))
 (pss_cons (ps_asg (pe_call G_next (hr.mono (by decide)) rfl g_next F_next.kp B_next .nil pass0 (pa_cons (pv 1) (pa_cons (pv 2) pa_nil))) (pg_tup (by rfl) (pgs_cons (pg_name (i := 6) sc_law.nd rfl (Or.inl rfl)) (pgs_cons (pg_name (i := 7) sc_law.nd rfl (Or.inl rfl)) (pgs_cons (pg_name (i := 8) sc_law.nd rfl (Or.inl rfl)) (pgs_cons (pg_name (i := 9) sc_law.nd rfl (Or.inl rfl)) pgs_nil))))))
 (C8.pss_cut (ps_if (PW.pt (pw_or (pt_cmpR op_gt (pe_call G_deep (hr.mono (by decide)) rfl g_deep F_deep.kp B_deep .nil pass0 (pa_cons (pv 9) pa_nil)) pe_int (nomark _)) (pw_or1 (pt_cmpR op_gt (pe_call G_many (hr.mono (by decide)) rfl g_many F_many.kp B_many .nil pass0 (pa_cons (pv 9) pa_nil)) pe_int (nomark _)))))
 (pss_cons (ps_set (i := 9) sc_law.nd rfl (Or.inl rfl) (pe_call G_leaf (hr.mono (by decide)) rfl g_leaf F_leaf.kp B_leaf .nil pass0 (pa_cons (pv 1) (pa_cons (pe_lst (pa_cons pe_str (pa_cons pe_str pa_nil))) pa_nil))))
 (pss_one (ps_set (i := 10) sc_law.nd rfl (Or.inl rfl) (pe_call G_condition (hr.mono (by decide)) rfl g_condition F_condition.kp B_condition .nil pass0 (pa_cons (pv 9) pa_nil)))))
 (pss_one (ps_set (i := 10) sc_law.nd rfl (Or.inl rfl) (pe_call G_built (hr.mono (by decide)) rfl g_built F_built.kp B_built .nil pass0 (pa_cons (pv 3) (pa_cons (pv 6) (pa_cons (pv 7) (pa_cons (pv 8) pa_nil))))))))
 (pss_cons (ps_expr (pe_bm PySem.F.plainAttrs_list PySem.F.slot_list_append PySem.F.type_list_append mt_append (pv 3) (pa_cons (pv 10) pa_nil)))
 (pss_cons (ps_expr (pe_bm PySem.F.plainAttrs_list PySem.F.slot_list_append PySem.F.type_list_append mt_append (pv 2) (pa_cons (pv 9) pa_nil)))
 (pss_one (ps_expr (pe_bm PySem.F.plainAttrs_list PySem.F.slot_list_append PySem.F.type_list_append mt_append (pv 4) (pa_cons (pe_callG G_said gG (hr.mono (by decide)) rfl g_said F_said.kp B_said .nil pass0 (pa_cons (pv 10) pa_nil)) pa_nil)))))))))
 (pss_cons (ps_for PassesOwn.never rfl (pi_enum (by rfl) z_enumerate (pa_cons (pv 3) pa_nil)) (pg_tup (by rfl) (pgs_cons (pg_name (i := 7) sc_law.nd rfl (Or.inl rfl)) (pgs_cons (pg_name (i := 10) sc_law.nd rfl (Or.inl rfl)) pgs_nil)))
 (pss_cons (ps_if (PW.pt (pw_or (pt_cmpR (op_neD hr.units) (pe_fld (pv 10) rfl) (pe_ix ix_list (pv 2) (pv 7) (fun _ _ => rfl)) (nomark _)) (pw_or (pt_cmpR op_ne (pe_callG G_said gG (hr.mono (by decide)) rfl g_said F_said.kp B_said .nil pass0 (pa_cons (pv 10) pa_nil)) (pe_ix ix_list (pv 4) (pv 7) (fun _ _ => rfl)) (nomark _)) (pw_or1 (pt_cmpR op_ne (pe_ix ix_list (pv 4) (pv 7) (fun _ _ => rfl)) (pe_callG G_due_said gG (hr.mono (by decide)) rfl g_due_said F_due_said.kp B_due_said .nil pass0 (pa_cons (pe_ix ix_list (pv 2) (pv 7) (fun _ _ => rfl)) pa_nil)) (nomark _))))))
 (pss_one (ps_ret pe_bl))
 pss_nil)
 (pss_cons (ps_for PassesOwn.never rfl (pi_range1 (by rfl) z_range (pa_cons (pe_callB call_len_seq (by rfl) z_len PySem.boot_len (pa_cons (pv 3) pa_nil)) pa_nil)) (pg_name (i := 8) sc_law.nd rfl (Or.inl rfl))
 (pss_one (ps_if (pt_not (pt_val (pe_call G_alike (hr.mono (by decide)) rfl g_alike F_alike.kp B_alike .nil pass0 (pa_cons (pv 10) (pa_cons (pe_ix ix_list (pv 3) (pv 8) (fun _ _ => rfl)) (pa_cons (pe_cmpR (op_eqD hr.units) (pe_ix ix_list (pv 2) (pv 7) (fun _ _ => rfl)) (pe_ix ix_list (pv 2) (pv 8) (fun _ _ => rfl)) (nomark _)) pa_nil))))))
 (pss_one (ps_ret pe_bl))
 pss_nil)))
 (pss_one (ps_for PassesOwn.never rfl (pi_list (pe_lst (pa_cons pe_non (pa_cons (pe_ix ix_list (pv 2) (pv 7) (fun _ _ => rfl)) (pa_cons pe_bl (pa_cons pe_int (pa_cons pe_str (pa_cons (pe_tup pa_nil) pa_nil)))))))) (pg_name (i := 11) sc_law.nd rfl (Or.inl rfl))
 (pss_one (ps_if (pt_not (pt_val (pe_call G_alike (hr.mono (by decide)) rfl g_alike F_alike.kp B_alike .nil pass0 (pa_cons (pv 10) (pa_cons (pv 11) (pa_cons pe_bl pa_nil))))))
 (pss_one (ps_ret pe_bl))
 pss_nil)))))))
 (pss_cons (ps_set (i := 12) sc_law.nd rfl (Or.inl rfl) (ClX.pe_cmeth (pe_glob rfl g_C (relR _)) CM.rd CM.of R_of (hr.mono (by decide)) pass0 (pa_cons pe_int (pa_cons pe_int pa_nil))))
 (pss_cons (ps_set (i := 13) sc_law.nd rfl (Or.inl rfl) (ClX.pe_cmeth (pe_glob rfl g_CF (relR _)) CF.rd CF.within RF_within (hr.mono (by decide)) pass0 (pa_cons pe_str (pa_cons (pe_op (op_own (op := .BitOr) R_or (hr.mono (by decide)) CM.self CM.orF CM.orI) (pv 12) (ClX.pe_cmeth (pe_glob rfl g_C (relR _)) CM.rd CM.of R_of (hr.mono (by decide)) pass0 (pa_cons pe_int pa_nil))) pa_nil))))
 (pss_cons (ps_if (PW.pt (pw_or (pt_not (pt_val (pe_call G_alike (hr.mono (by decide)) rfl g_alike F_alike.kp B_alike .nil pass0 (pa_cons (pv 13) (pa_cons (ClX.pe_cmeth (pe_glob rfl g_CF (relR _)) CF.rd CF.within RF_within (hr.mono (by decide)) pass0 (pa_cons pe_str (pa_cons (ClX.pe_cmeth (pe_glob rfl g_C (relR _)) CM.rd CM.between R_between (hr.mono (by decide)) pass0 (pa_cons pe_int (pa_cons pe_int pa_nil))) pa_nil))) (pa_cons pe_bl pa_nil)))))) (pw_or1 (pt_cmpR (op_neD hr.units) (pe_fld (pv 13) rfl) (pe_tup (pa_cons pe_str (pa_cons pe_str (pa_cons (pe_tup (pa_cons (pe_tup (pa_cons pe_int (pa_cons pe_int pa_nil))) pa_nil)) pa_nil)))) (nomark _)))))
 (pss_one (ps_ret pe_bl))
 pss_nil)
 (pss_cons (ps_if (PW.pt (pw_or (pt_cmpR (op_neD hr.units) (pe_fld (pv 12) rfl) (pe_tup (pa_cons (pe_tup (pa_cons pe_int (pa_cons pe_int pa_nil))) (pa_cons (pe_tup (pa_cons pe_int (pa_cons pe_int pa_nil))) pa_nil))) (nomark _)) (pw_or1 (pt_val (pe_call G_alike (hr.mono (by decide)) rfl g_alike F_alike.kp B_alike .nil pass0 (pa_cons (pv 13) (pa_cons (ClX.pe_cmeth (pe_glob rfl g_CF (relR _)) CF.rd CF.within RF_within (hr.mono (by decide)) pass0 (pa_cons pe_str (pa_cons (ClX.pe_cmeth (pe_glob rfl g_C (relR _)) CM.rd CM.between R_between (hr.mono (by decide)) pass0 (pa_cons pe_int (pa_cons pe_int pa_nil))) pa_nil))) (pa_cons pe_bl pa_nil))))))))
 (pss_one (ps_ret pe_bl))
 pss_nil)
 (pss_one (ps_ret (pe_and (pe_cmpR (op_eqD hr.units) (pe_fld (pe_op (op_own (op := .BitAnd) RF_and (hr.mono (by decide)) CF.self CF.andF CF.andI) (pv 13) (pe_cmeth0 (pe_glob rfl g_CF (relR _)) CF.rd CF.never RF_never (hr.mono (by decide)) pass0)) rfl) (pe_tup (pa_cons pe_str pa_nil)) (nomark _)) (pe_one (pe_cmpR (op_eqD hr.units) (pe_fld (pe_un (un_own RF_inv (hr.mono (by decide)) CF.invF CF.invI) (pe_cmeth0 (pe_glob rfl g_CF (relR _)) CF.rd CF.always RF_always (hr.mono (by decide)) pass0)) rfl) (pe_tup pa_nil) (nomark _)))))))))))))))), ?_⟩
    walk_at "rd"
    refine ⟨a, ns, rfl, ha, hn, fun p L H1 s1 hp => ?_⟩
    walk_at "rd"
    unfold tLc
    walk_at "rd"
    refine ⟨by decide, by decide, fun tl htl => ?_⟩
    obtain ⟨pt, lt⟩ := pen_ne hp htl
    refine lc_range (lo := 0) (n := 3) (fun j H' => ∃ (tas : List Addr) (ts : List Tr), H' tl = some (.lst (tas.map V.ref)) ∧ Trees H' tas ts ∧ ts.length = j ∧ (∀ t, t ∈ ts → Good t ∧ t.deep = 1) ∧ Pen H' p L (5 * j)) ⟨[], [], upd_same, .nil, rfl, fun t ht => absurd ht List.not_mem_nil, pen_off hp pt lt⟩ ?_ ?_
    · rintro j H2 hj ⟨tas, ts, h2, tr, tz, gd, p2⟩
      walk_at "rd"
      refine ⟨rfl, i_yes (iteT ?_)⟩
      walk_at "rd"
      refine ⟨size_of (Nat.le_of_ble_eq_true rfl), fun c hc => ?_⟩
      obtain ⟨H3, e3, s3, h3⟩ := new_heap (o := .lst ((["a", "b"] : List Str).map V.str)) hc
      rw [show ([V.str "a", .str "b"] : List V) = (["a", "b"] : List Str).map V.str from rfl, e3]
      walk_at "rd"
      refine ⟨p, L, _, c, ["a", "b"], rfl, p2.up s3, by omega, h3, by decide, by decide, fun v H4 t k4 p4 ta m1 d1 few on => ?_⟩
      obtain ⟨x, rfl⟩ := tree_ref ta
      have k24 : Keep H2 H4 := (Same.keep s3).trans k4
      have h4 := k24 _ _ (penny_refs tas) h2
      have al : tas.length = ts.length := Paired.length tr
      refine ⟨_, h4, size_lt (by rw [List.length_map]; omega), tas ++ [x], ts ++ [t], ?_, pair_snoc ((tr.keep k24).put h4) (ta.put h4), by rw [List.length_append, tz] <;> rfl, fun u hu => ?_, (pen_off p4 pt lt).mono (by omega)⟩
      · rw [upd_same, List.map_append]
        rfl
      · rcases List.mem_append.mp hu with hu | hu
        · exact gd u hu
        · rw [List.mem_singleton.mp hu]
          exact ⟨good_leaf m1 d1 few on (by simp), d1⟩
    · rintro H2 ⟨tas, ts, h2, tr, tz, gd, p2⟩
      have al : tas.length = ts.length := Paired.length tr
      walk_at "rd"
      refine ⟨tl, rfl, ⟨_, SqL.of h2⟩, fun fl hfl => ?_⟩
      obtain ⟨pf, lf⟩ := pen_ne p2 hfl
      have tf := ne_of_none h2 hfl
      obtain ⟨H3, e3, s3, h3⟩ := new_heap (o := .lst []) hfl
      refine lc_list (K := K) (a := tl) (xs := tas.map V.ref) (fun i H' => ∃ fas : List Addr, Same H2 H' ∧ H' fl = some (.lst (fas.map V.ref)) ∧ Fils D H' fas (ts.take i)) ⟨[], by rw [e3]; exact s3, by rw [e3]; exact h3, .nil⟩ ?_ ?_ ?_
      · rintro i H' _ ⟨fas, sm, _⟩
        exact SqL.of (sm _ _ h2)
      · rintro i x H4 hx ⟨fas, s4, h4, fs⟩
        obtain ⟨b, t, eb, et, tb, rfl⟩ := ref_at tr hx
        have gt := gd t (List.mem_of_getElem? et)
        have fz : fas.length = (ts.take i).length := Paired.length fs
        rw [List.length_take] at fz
        walk_at "rd"
        refine ⟨rfl, i_yes (iteT ?_)⟩
        walk_at "rd"
        refine ⟨t, .ref b, rfl, tb.up s4, by omega, gt.1.few, fun y H5 s5 hf => ?_⟩
        have h5 := s5 _ _ h4
        refine ⟨_, h5, size_lt (by rw [List.length_map]; omega), fas ++ [y], Same.mut (same_tr s4 s5) hfl, ?_, ?_⟩
        · rw [upd_same, List.map_append]
          rfl
        · rw [take_snoc et]
          exact pair_snoc ((fs.keep (Same.keep s5)).put h5) (hf.put h5)
      · rintro H4 ⟨fas, s4, h4, fs⟩
        rw [List.length_map, al, List.take_length] at fs
        have h2' := s4 _ _ h2
        have fz : fas.length = ts.length := Paired.length fs
        walk_at "rd"
        refine ⟨fl, rfl, ⟨_, SqL.of h4⟩, fun sl hsl => ?_⟩
        have p4 := p2.up s4
        obtain ⟨ps, ls⟩ := pen_ne p4 hsl
        have tsn := ne_of_none h2' hsl
        have fsn := ne_of_none h4 hsl
        obtain ⟨H5, e5, s5, h5⟩ := new_heap (o := .lst []) hsl
        refine lc_list (K := K) (a := fl) (xs := fas.map V.ref) (fun i H' => Same H4 H' ∧ H' sl = some (.lst (((ts.take i).map saysT).map V.str))) ⟨by rw [e5]; exact s5, by rw [e5]; exact h5⟩ ?_ ?_ ?_
        · rintro i H' _ ⟨sm, _⟩
          exact SqL.of (sm _ _ h4)
        · rintro i x H6 hx ⟨s6, h6⟩
          obtain ⟨b, t, eb, et, fb, rfl⟩ := ref_at fs hx
          have gt := gd t (List.mem_of_getElem? et)
          walk_at "rd"
          refine ⟨rfl, i_yes (iteT ?_)⟩
          walk_at "rd"
          refine ⟨b, t, rfl, fb.up s6, gt.1.dp, gt.1.ab, fun H7 s7 => ?_⟩
          have h7 := s7 _ _ h6
          refine ⟨_, h7, size_lt (by rw [List.length_map, List.length_map, List.length_take]; omega), Same.mut (same_tr s6 s7) hsl, ?_⟩
          rw [upd_same, take_snoc et, List.map_append, List.map_append]
          rfl
        · rintro H6 ⟨s6, h6⟩
          rw [List.length_map, fz, List.take_length] at h6
          have three0 : Three D tl fl sl ts H6 := ⟨tas, fas, s6 _ _ h2', s6 _ _ h4, h6, (tr.keep (Same.keep (same_tr s4 s6))), fs.keep (Same.keep s6), fun t ht => (gd t ht).1⟩
          have ap : Apart5 p L tl fl sl := ⟨pt, pf, ps, lt, lf, ls, tf, tsn, fsn⟩
          have p6 := p4.up s6
          clear gd h2 h2' h4 h5 h6 h3 tr fs al fz s1 s4 s6 e3 e5 s3 s5
          walk_at "rd"
          refine ⟨by decide, by decide, for_range (lo := 0) (n := 11) (fun i σ H' => ∃ (ts : List Tr) (x5 x6 x7 x8 x9 x10 x11 x12 x13 : Option V), σ = [some (.ref a), some (.ref p), some (.ref tl), some (.ref fl), some (.ref sl), x5, x6, x7, x8, x9, x10, x11, x12, x13] ∧ Pen H' p L (20 + 12 * i) ∧ Three D tl fl sl ts H' ∧ ts.length = 3 + i) ⟨ts, _, _, _, _, _, _, _, _, _, rfl, p6.mono (by omega), three0, tz⟩ ?_ ?_⟩
          · rintro i σ H7 hi ⟨ts, x5, x6, x7, x8, x9, x10, x11, x12, x13, rfl, p7, th7, z7⟩
            walk_at "rd"
            obtain ⟨tas, fas, ht7, hf7, hs7, tr7, fs7, gd7⟩ := id th7
            refine ⟨p, L, _, tl, tas, ts, rfl, p7, by omega, ht7, tr7, by omega, by omega, fun r H8 wd i8 j8 a8 u k8 p8 h8 ta8 made => ?_⟩
            walk_at "rd"
            have mo := made_ok gd7 made
            refine ⟨fun σ' H' => ∃ (x b : Addr) (u' : Tr) (y5 y6 y7 y8 y11 y12 y13 : Option V), σ' = [some (.ref a), some (.ref p), some (.ref tl), some (.ref fl), some (.ref sl), y5, y6, y7, y8, some (.ref b), some (.ref x), y11, y12, y13] ∧ Keep H8 H' ∧ Pen H' p L (20 + 12 * i + 8) ∧ TreeAt H' u' (.ref b) ∧ Fil D H' x u' ∧ Good u', ?_, ?_⟩
            · walk_at "rd"
              refine ⟨u, .ref a8, rfl, ta8, mo.1, fun H9 s9 => ?_⟩
              walk_at "rd"
              refine ite_s (fun _ => ?_) (fun hdp => ?_)
              · skip
                walk_at "rd"
                refine ⟨size_of (Nat.le_of_ble_eq_true rfl), fun c hc => ?_⟩
                obtain ⟨HL, eL, sL, hL⟩ := new_heap (o := .lst ((["b", "a"] : List Str).map V.str)) hc
                rw [show ([V.str "b", .str "a"] : List V) = (["b", "a"] : List Str).map V.str from rfl, eL]
                walk_at "rd"
                refine ⟨p, L, _, c, ["b", "a"], rfl, (p8.up s9).up sL, by omega, hL, by decide, by decide, fun v HM t kM pM taM m1 d1 few on => ?_⟩
                obtain ⟨x, rfl⟩ := tree_ref taM
                walk_at "rd"
                refine ⟨t, .ref x, rfl, taM, by omega, few, fun y HN sN hf => ?_⟩
                walk_at "rd"
                exact ⟨y, x, t, _, _, _, _, _, _, _, rfl, ((Same.keep (s9)).trans ((Same.keep sL).trans kM)).trans (Same.keep sN), (pM.up sN).mono (by omega), taM.up sN, hf, good_leaf m1 d1 few on (by simp)⟩
              walk_at "rd"
              refine ⟨u, .ref a8, rfl, ta8.up s9, mo.1, fun H10 s10 => ?_⟩
              walk_at "rd"
              have s810 := same_tr s9 s10
              refine ite_d (fun _ => ?_) (fun hmn => ?_)
              · skip
                walk_at "rd"
                refine ⟨size_of (Nat.le_of_ble_eq_true rfl), fun c hc => ?_⟩
                obtain ⟨HL, eL, sL, hL⟩ := new_heap (o := .lst ((["b", "a"] : List Str).map V.str)) hc
                rw [show ([V.str "b", .str "a"] : List V) = (["b", "a"] : List Str).map V.str from rfl, eL]
                walk_at "rd"
                refine ⟨p, L, _, c, ["b", "a"], rfl, (p8.up s810).up sL, by omega, hL, by decide, by decide, fun v HM t kM pM taM m1 d1 few on => ?_⟩
                obtain ⟨x, rfl⟩ := tree_ref taM
                walk_at "rd"
                refine ⟨t, .ref x, rfl, taM, by omega, few, fun y HN sN hf => ?_⟩
                walk_at "rd"
                exact ⟨y, x, t, _, _, _, _, _, _, _, rfl, ((Same.keep (s810)).trans ((Same.keep sL).trans kM)).trans (Same.keep sN), (pM.up sN).mono (by omega), taM.up sN, hf, good_leaf m1 d1 few on (by simp)⟩
              walk_at "rd"
              have k710 := k8.trans (Same.keep s810)
              refine ⟨fl, fas, ts, wd, i8, j8, u, rfl, k710 _ _ (penny_refs _) hf7, fs7.keep k710, made, by omega, fun y H11 s11 hf => ?_⟩
              walk_at "rd"
              have s811 := same_tr s810 s11
              exact ⟨y, a8, u, _, _, _, _, _, _, _, rfl, Same.keep s811, (p8.up s811).mono (by omega), ta8.up s811, hf, by omega, by omega, mo.2.1, mo.2.2⟩
            · rintro σ' H9 ⟨x, b, u', y5, y6, y7, y8, y11, y12, y13, rfl, k9, p9, ta9, hf9, good⟩
              have k79 := k8.trans k9
              have ht9 := k79 _ _ (penny_refs _) ht7
              have hfl9 := k79 _ _ (penny_refs _) hf7
              have hs9 := k79 _ _ (penny_strs _) hs7
              have tr9 := tr7.keep k79
              have fs9 := fs7.keep k79
              have tz : tas.length = ts.length := Paired.length tr9
              have fz : fas.length = ts.length := Paired.length fs9
              walk_at "rd"
              refine i_tyL hfl9 ?_
              walk_at "rd"
              refine i_app hfl9 (by rw [List.length_map]; omega) ?_
              have pA : Pen (upd H9 fl (.lst (fas.map V.ref ++ [.ref x]))) p L (20 + 12 * i + 8) := pen_off p9 ap.pf ap.lf
              have htA : upd H9 fl (.lst (fas.map V.ref ++ [.ref x])) tl = some (.lst (tas.map V.ref)) := by rw [upd_ne ap.tf]; exact ht9
              have hsA : upd H9 fl (.lst (fas.map V.ref ++ [.ref x])) sl = some (.lst ((ts.map saysT).map V.str)) := by rw [upd_ne ap.fs.symm]; exact hs9
              have hfA : upd H9 fl (.lst (fas.map V.ref ++ [.ref x])) fl = some (.lst ((fas ++ [x]).map V.ref)) := by rw [upd_same, List.map_append] <;> rfl
              have trA : Trees (upd H9 fl (.lst (fas.map V.ref ++ [.ref x]))) (tas ++ [b]) (ts ++ [u']) := pair_snoc (tr9.put hfl9) (ta9.put hfl9)
              have fsA : Fils D (upd H9 fl (.lst (fas.map V.ref ++ [.ref x]))) (fas ++ [x]) (ts ++ [u']) := pair_snoc (fs9.put hfl9) (hf9.put hfl9)
              have filA : Fil D (upd H9 fl (.lst (fas.map V.ref ++ [.ref x]))) x u' := hf9.put hfl9
              generalize upd H9 fl (.lst (fas.map V.ref ++ [.ref x])) = HA at *
              walk_at "rd"
              refine i_tyL htA ?_
              walk_at "rd"
              refine i_app htA (by rw [List.length_map]; omega) ?_
              have pB : Pen (upd HA tl (.lst (tas.map V.ref ++ [.ref b]))) p L (20 + 12 * i + 8) := pen_off pA ap.pt ap.lt
              have hfB : upd HA tl (.lst (tas.map V.ref ++ [.ref b])) fl = some (.lst ((fas ++ [x]).map V.ref)) := by rw [upd_ne ap.tf.symm]; exact hfA
              have hsB : upd HA tl (.lst (tas.map V.ref ++ [.ref b])) sl = some (.lst ((ts.map saysT).map V.str)) := by rw [upd_ne ap.ts.symm]; exact hsA
              have htB : upd HA tl (.lst (tas.map V.ref ++ [.ref b])) tl = some (.lst ((tas ++ [b]).map V.ref)) := by rw [upd_same, List.map_append] <;> rfl
              have trB := trA.put (o := .lst (tas.map V.ref ++ [.ref b])) htA
              have fsB := fsA.put (o := .lst (tas.map V.ref ++ [.ref b])) htA
              have filB := filA.put (o := .lst (tas.map V.ref ++ [.ref b])) htA
              generalize upd HA tl (.lst (tas.map V.ref ++ [.ref b])) = HB at *
              walk_at "rd"
              refine i_tyL hsB ?_
              walk_at "rd"
              refine ⟨x, u', rfl, filB, good.dp, good.ab, fun HC sC => ?_⟩
              have hsC := sC _ _ hsB
              walk_at "rd"
              refine i_app hsC (by rw [List.length_map, List.length_map]; omega) ?_
              refine ⟨ts ++ [u'], _, _, _, _, _, _, _, _, _, rfl, (pen_off (pB.up sC) ap.ps ap.ls).mono (by omega), ⟨tas ++ [b], fas ++ [x], ?_, ?_, ?_, (trB.keep (Same.keep sC)).put hsC, (fsB.keep (Same.keep sC)).put hsC, fun t ht => ?_⟩, by rw [List.length_append, z7] <;> rfl⟩
              · rw [upd_ne ap.ts]
                exact sC _ _ htB
              · rw [upd_ne ap.fs]
                exact sC _ _ hfB
              · rw [upd_same, List.map_append, List.map_append]
                rfl
              · rcases List.mem_append.mp ht with ht | ht
                · exact gd7 t ht
                · rw [List.mem_singleton.mp ht]
                  exact good
          · rintro σ H7 ⟨ts, x5, x6, x7, x8, x9, x10, x11, x12, x13, rfl, p7, th7, z7⟩
            walk_at "rd"
            refine i_iE ?_
            walk_at "rd"
            obtain ⟨tas, fas, ht7, hf7, hs7, tr7, fs7, gd7⟩ := id th7
            have tz : tas.length = ts.length := Paired.length tr7
            have fz : fas.length = ts.length := Paired.length fs7
            refine ⟨fl, _, rfl, SqL.of hf7, for_enumL (K := K) (a := fl) (xs := fas.map V.ref) (fun _ σ H' => ∃ (x5 x6 x7 x8 x9 x10 x11 x12 x13 : Option V), σ = [some (.ref a), some (.ref p), some (.ref tl), some (.ref fl), some (.ref sl), x5, x6, x7, x8, x9, x10, x11, x12, x13] ∧ Same H7 H') ⟨_, _, _, _, _, _, _, _, _, rfl, Same.refl _⟩ ?_ ?_ ?_⟩
            · rintro i σ H' _ ⟨_, _, _, _, _, _, _, _, _, _, sm⟩
              exact SqL.of (sm _ _ hf7)
            · rintro i y T0 σ H8 hy ⟨x5, x6, x7, x8, x9, x10, x11, x12, x13, rfl, s8⟩ hT0
              obtain ⟨x, t, ex, et, fx, rfl⟩ := ref_at fs7 hy
              have hi : i < ts.length := (List.getElem?_eq_some_iff.mp et).1
              obtain ⟨b, t2, eb, et2, tb⟩ := pair_nth tr7 hi
              rw [et] at et2
              cases et2
              have gt := gd7 t (List.mem_of_getElem? et)
              have ft := gt.fits
              have sh := shapedTr ft.tx ft.dp
              have rf := SeqAt.eqv_refl (treeD t) (layTr t ft.tx)
              have at_t := at_ref eb
              have at_s : atI ((ts.map saysT).map V.str) (i : Int) = some (.str (saysT t)) := by
                refine atI_nat ?_
                rw [List.getElem?_map, List.getElem?_map, et]
                rfl
              obtain ⟨H9, e9, s9, h9⟩ := new_heap (o := .tup [.int (i : Nat), .ref x]) hT0
              rw [e9]
              have s79 := same_tr s8 s9
              walk_at "rd"
              have fx9 := fx.up s79
              obtain ⟨dx, v2, q2, ds, g1, ta, hq, oc⟩ := id fx9
              refine ⟨_, rfl, x, D, dx, _, _, rfl, g1, T.cl, T.nT, lk_tree, ?_⟩
              walk_at "rd"
              refine i_ixL (s79 _ _ ht7) at_t ?_
              refine ⟨treeD t, treeD t, dpTr ta, dpTr (tb.keep (Same.keep s79)), sh, sh, ?_⟩
              rw [rf]
              refine ⟨false, rfl, iteF ?_⟩
              walk_at "rd"
              refine ⟨x, t, rfl, fx9, gt.dp, gt.ab, fun H10 s10 => ?_⟩
              have s710 := same_tr s79 s10
              walk_at "rd"
              refine i_ixL (s710 _ _ hs7) at_s ?_
              walk_at "rd"
              refine ite_nd (fun h => absurd rfl h) (fun _ => ?_)
              walk_at "rd"
              refine i_ixL (s710 _ _ hs7) at_s ?_
              walk_at "rd"
              refine i_ixL (s710 _ _ ht7) at_t ?_
              walk_at "rd"
              refine ⟨.ref b, t, rfl, tb.keep (Same.keep s710), gt.dp, gt.ab, fun H11 s11 => ?_⟩
              have s711 := same_tr s710 s11
              walk_at "rd"
              refine ite_nd (fun h => absurd rfl h) (fun _ => ?_)
              walk_at "rd"
              refine ⟨fl, _, rfl, .inl (SqL.of (s711 _ _ hf7)), ?_⟩
              walk_at "rd"
              refine ⟨by rw [List.length_map]; omega, by rw [List.length_map]; omega, for_range (lo := 0) (fun _ σ H' => ∃ (x5 x6 x8 x9 x11 x12 x13 : Option V), σ = [some (.ref a), some (.ref p), some (.ref tl), some (.ref fl), some (.ref sl), x5, x6, some (.int (i : Nat)), x8, x9, some (.ref x), x11, x12, x13] ∧ Same H7 H') ⟨_, _, _, _, _, _, _, rfl, s711⟩ ?_ ?_⟩
              · rintro j σ H12 hj ⟨y5, y6, y8, y9, y11, y12, y13, rfl, s12⟩
                rw [Int.zero_add]
                have hj2 : j < ts.length := by
                  rw [List.length_map] at hj
                  omega
                obtain ⟨b2, u, eb2, eu2, tb2⟩ := pair_nth tr7 hj2
                obtain ⟨x2, u2, ex2, eu3, fx2⟩ := pair_nth fs7 hj2
                rw [eu2] at eu3
                cases eu3
                have gu := gd7 u (List.mem_of_getElem? eu2)
                have fu := gu.fits
                walk_at "rd"
                refine i_ixL (s12 _ _ hf7) (at_ref ex2) ?_
                walk_at "rd"
                refine i_ixL (s12 _ _ ht7) at_t ?_
                walk_at "rd"
                refine i_ixL (s12 _ _ ht7) (at_ref eb2) ?_
                refine ⟨treeD t, treeD u, dpTr (tb.keep (Same.keep s12)), dpTr (tb2.keep (Same.keep s12)), sh, shapedTr fu.tx fu.dp, ?_⟩
                rw [eqv_treeD]
                walk_at "rd"
                refine ⟨x, .ref x2, t, decide (t = u), decide (t = u), rfl, fx.up s12, ft, .inl ⟨x2, u, rfl, fx2.up s12, fu, rfl⟩, fun H13 s13 => ?_⟩
                rw [beq_self_eq_true]
                walk_at "rd"
                refine iteF ?_
                walk_at "rd"
                exact ⟨_, _, _, _, _, _, _, rfl, same_tr s12 s13⟩
              · rintro σ H12 ⟨y5, y6, y8, y9, y11, y12, y13, rfl, s12⟩
                walk_at "rd"
                refine i_ixL (s12 _ _ ht7) at_t ?_
                walk_at "rd"
                refine ⟨size_of (Nat.zero_le _), fun e0 he0 => ?_⟩
                obtain ⟨H13, e13, s13, h13⟩ := new_heap (o := .tup []) he0
                rw [e13]
                walk_at "rd"
                refine ⟨size_of (Nat.le_of_ble_eq_true rfl), fun o0 ho0 => ?_⟩
                obtain ⟨H14, e14, s14, h14⟩ := new_heap (o := .lst [.non, .ref b, .bl true, .int 0, .str "always", .ref e0]) ho0
                rw [e14]
                walk_at "rd"
                have s714 := same_tr s12 (same_tr s13 s14)
                refine ⟨o0, rfl, ⟨_, SqL.of h14⟩, for_list (K := K) (a := o0) (xs := [.non, .ref b, .bl true, .int 0, .str "always", .ref e0]) (fun _ σ H' => ∃ (x5 x6 x7 x8 x9 x11 x12 x13 : Option V), σ = [some (.ref a), some (.ref p), some (.ref tl), some (.ref fl), some (.ref sl), x5, x6, x7, x8, x9, some (.ref x), x11, x12, x13] ∧ Same H14 H') ⟨_, _, _, _, _, _, _, _, rfl, Same.refl _⟩ ?_ ?_ ?_⟩
                · rintro k σ H' _ ⟨_, _, _, _, _, _, _, _, _, sm⟩
                  exact SqL.of (sm _ _ h14)
                · rintro k y σ H15 hy2 ⟨z5, z6, z7, z8, z9, z11, z12, z13, rfl, s15⟩
                  have s715 := same_tr s714 s15
                  have odd : ∃ X, Odd H15 y X := by
                    obtain ⟨xs, hb⟩ := tree_tup (tb.keep (Same.keep s715))
                    have hk : k < 6 := (List.getElem?_eq_some_iff.mp hy2).1
                    obtain rfl | rfl | rfl | rfl | rfl | rfl : k = 0 ∨ k = 1 ∨ k = 2 ∨ k = 3 ∨ k = 4 ∨ k = 5 := by omega
                    · cases hy2
                      exact ⟨_, .non⟩
                    · cases hy2
                      exact ⟨_, .tup hb⟩
                    · cases hy2
                      exact ⟨_, .bl _⟩
                    · cases hy2
                      exact ⟨_, .int _⟩
                    · cases hy2
                      exact ⟨_, .str _⟩
                    · cases hy2
                      exact ⟨_, .tup (s15 _ _ (s14 _ _ h13))⟩
                  obtain ⟨X, od⟩ := odd
                  walk_at "rd"
                  refine ⟨x, y, t, false, false, rfl, fx.up s715, ft, .inr ⟨X, od, rfl⟩, fun H16 s16 => ?_⟩
                  rw [beq_self_eq_true]
                  walk_at "rd"
                  refine iteF ?_
                  walk_at "rd"
                  exact ⟨_, _, _, _, _, _, _, _, rfl, same_tr s15 s16⟩
                · rintro σ H15 ⟨z5, z6, z7, z8, z9, z11, z12, z13, rfl, s15⟩
                  exact ⟨_, _, _, _, _, _, _, _, _, rfl, same_tr s714 s15⟩
            · rintro σ H8 ⟨x5, x6, x7, x8, x9, x10, x11, x12, x13, rfl, s8⟩
              clear tr7 fs7 gd7 ht7 hf7 hs7 th7 tz fz z7 p7 three0
              walk_at "rd"
              refine ⟨[3, 1], rfl, by simp, fun r1 HA ps sA hr1 hm1 hz1 => ?_⟩
              obtain rfl : ps = sev := canon_unique hr1.canon sev_ok fun n => (hm1 n).trans (sev_has n)
              walk_at "rd"
              refine ⟨[2], rfl, by simp, fun r2 HB qs sB hr2 hm2 hz2 => ?_⟩
              walk_at "rd"
              refine i_ownB (hr1.up sB) hr2 ⟨r1, r2, _, _, rfl, hr1.up sB, hr2, by simp [sev] at hz2 ⊢; omega, fun r3 HC rs sC hr3 hm3 hz3 => ?_⟩
              obtain rfl : rs = thr := canon_unique hr3.canon thr_ok fun n => (hm3 n).trans (by show (hasL sev n || hasL qs n) = _; rw [hm2]; exact thr_or n)
              walk_at "rd"
              refine ⟨"a", r3, thr, rfl, hr3, fun x HD sD hx => ?_⟩
              walk_at "rd"
              refine ⟨some 1, some 3, rfl, fun r4 HE us sE hr4 hm4 hz4 => ?_⟩
              obtain rfl : us = thr := canon_unique hr4.canon thr_ok fun n => (hm4 n).trans (thr_one n)
              walk_at "rd"
              refine ⟨"a", r4, thr, rfl, hr4, fun y HF sF hy => ?_⟩
              have sDF := same_tr sE sF
              walk_at "rd"
              refine ⟨x, .ref y, .wi "a" thr, true, true, rfl, hx.up sDF, fitA, .inl ⟨y, .wi "a" thr, rfl, hy, fitA, (decide_eq_true rfl).symm⟩, fun HG sG => ?_⟩
              walk_at "rd"
              refine iteF ?_
              walk_at "rd"
              have hxG := (hx.up sDF).up sG
              obtain ⟨dx, v2, q2, ds, g1, ta, hq, oc⟩ := id hxG
              refine ⟨_, rfl, x, D, dx, _, _, rfl, g1, T.cl, T.nT, lk_tree, ?_⟩
              walk_at "rd"
              refine ⟨size_of (Nat.le_of_ble_eq_true rfl), fun c1 hc1 => ?_⟩
              obtain ⟨K1, f1, t1, k1⟩ := new_heap (o := .tup [.int 1, .int 3]) hc1
              rw [f1]
              walk_at "rd"
              refine ⟨size_of (Nat.le_of_ble_eq_true rfl), fun c2 hc2 => ?_⟩
              obtain ⟨K2, f2, t2, k2⟩ := new_heap (o := .tup [.ref c1]) hc2
              rw [f2]
              walk_at "rd"
              refine ⟨size_of (Nat.le_of_ble_eq_true rfl), fun c3 hc3 => ?_⟩
              obtain ⟨K3, f3, t3, k3⟩ := new_heap (o := .tup [.str "within", .str "a", .ref c2]) hc3
              rw [f3]
              have t13 : Same HG K3 := same_tr t1 (same_tr t2 t3)
              have lit : TreeAt K3 (.wi "a" thr) (.ref c3) := ⟨c3, c2, rfl, k3, ⟨[.ref c1], t3 _ _ k2, .cons ⟨c1, rfl, t3 _ _ (t2 _ _ k1)⟩ .nil⟩, thr_ok⟩
              refine ⟨_, _, dpTr (ta.up t13), dpTr lit, shapedTr fitA.tx fitA.dp, shapedTr fitA.tx fitA.dp, ?_⟩
              rw [eqv_treeD, decide_eq_true rfl]
              refine ⟨false, rfl, iteF ?_⟩
              walk_at "rd"
              have sAG : Same HA K3 := same_tr sB (same_tr sC (same_tr sD (same_tr sDF (same_tr sG t13))))
              obtain ⟨dy, u0, ra, rp, _⟩ := hr1.up sAG
              refine ⟨_, rfl, r1, C, dy, _, _, rfl, ra, TC.cl, TC.nP, lk_parts, ?_⟩
              walk_at "rd"
              refine ⟨size_of (Nat.le_of_ble_eq_true rfl), fun c4 hc4 => ?_⟩
              obtain ⟨K4, f4, t4, k4⟩ := new_heap (o := .tup [.int 1, .int 1]) hc4
              rw [f4]
              walk_at "rd"
              refine ⟨size_of (Nat.le_of_ble_eq_true rfl), fun c5 hc5 => ?_⟩
              obtain ⟨K5, f5, t5, k5⟩ := new_heap (o := .tup [.int 3, .int 3]) hc5
              rw [f5]
              walk_at "rd"
              refine ⟨size_of (Nat.le_of_ble_eq_true rfl), fun c6 hc6 => ?_⟩
              obtain ⟨K6, f6, t6, k6⟩ := new_heap (o := .tup [.ref c4, .ref c5]) hc6
              rw [f6]
              have t36 : Same K3 K6 := same_tr t4 (same_tr t5 t6)
              have lit2 : PartsT K6 c6 sev := ⟨[.ref c4, .ref c5], k6, .cons ⟨c4, rfl, t6 _ _ (t5 _ _ k4)⟩ (.cons ⟨c5, rfl, t6 _ _ k5⟩ .nil)⟩
              refine ⟨psD sev, psD sev, dp_parts (rp.up t36), dp_parts lit2, shaped_ps _, shaped_ps _, ?_⟩
              rw [eqv_psD, decide_eq_true rfl]
              refine ⟨false, rfl, iteF ?_⟩
              walk_at "rd"
              refine ⟨some 1, some 3, rfl, fun r7 K7 us7 t7 hr7 hm7 hz7 => ?_⟩
              obtain rfl : us7 = thr := canon_unique hr7.canon thr_ok fun n => (hm7 n).trans (thr_one n)
              walk_at "rd"
              refine ⟨"b", r7, thr, rfl, hr7, fun y8 K8 t8 hy8 => ?_⟩
              have hx8 := ((hxG.up t13).up t36).up (same_tr t7 t8)
              walk_at "rd"
              refine ⟨x, .ref y8, .wi "a" thr, false, true, rfl, hx8, fitA, .inl ⟨y8, .wi "b" thr, rfl, hy8, fitB, (decide_eq_false a_not_b).symm⟩, fun K9 t9 => ?_⟩
              walk_at "rd"
              refine iteF ?_
              walk_at "rd"
              unfold tFld
              walk_at "rd"
              refine ⟨rfl, fun z1 K10 t10 hz1 => ?_⟩
              have hx10 := (hx8.up t9).up t10
              refine i_fB hx10 hz1 ⟨x, z1, .wi "a" thr, .ne, rfl, hx10, hz1, (by decide), fun z2 K11 t11 hz2 => ?_⟩
              obtain ⟨dz, v3, q3, ds3, g3, ta3, hq3, oc3⟩ := id hz2
              obtain rfl : ds3 = (["a"] : List Str) := sorted_one oc3.up rfl oc3.nd (List.nodup_cons.mpr ⟨List.not_mem_nil, List.nodup_nil⟩) fun c => (oc3.mem c).trans (show c ∈ (["a"] : List Str) ++ [] ↔ c ∈ (["a"] : List Str) from by rw [List.append_nil])
              refine ⟨z2, D, dz, _, _, rfl, g3, T.cl, T.nC, lk_columns, ?_⟩
              walk_at "rd"
              refine ⟨size_of (Nat.le_of_ble_eq_true rfl), fun c7 hc7 => ?_⟩
              obtain ⟨K12, f12, t12, k12⟩ := new_heap (o := .tup [.str "a"]) hc7
              rw [f12]
              have okA : TxsOk ["a"] := fun c hc => by
                rw [List.mem_singleton.mp hc]
                decide +kernel
              refine ⟨.tuple ((["a"] : List Str).map PyData.str), .tuple ((["a"] : List Str).map PyData.str), .tup (SqT.of (t12 _ _ hq3)) (dps_strs ["a"]), .tup (SqT.of k12) (dps_strs ["a"]), shaped_strsT okA, shaped_strsT okA, ?_⟩
              rw [SeqAt.eqv_refl _ (by simpa only [PyData.canLay0] using lay_strs okA)]
              refine ⟨true, rfl, iteT ?_⟩
              walk_at "rd"
              refine ⟨rfl, fun z4 K13 t13' hz4 => ?_⟩
              refine i_fU hz4 ⟨z4, .al, rfl, hz4, fun z5 K14 t14 hz5 => ?_⟩
              obtain ⟨dw, v4, q4, ds4, g4, ta4, hq4, oc4⟩ := id hz5
              obtain rfl : ds4 = [] := sorted_one oc4.up rfl oc4.nd List.nodup_nil fun c => oc4.mem c
              refine ⟨z5, D, dw, _, _, rfl, g4, T.cl, T.nC, lk_columns, ?_⟩
              walk_at "rd"
              refine ⟨size_of (Nat.zero_le _), fun c8 hc8 => ?_⟩
              obtain ⟨K15, f15, t15, k15⟩ := new_heap (o := .tup []) hc8
              rw [f15]
              refine ⟨.tuple [], .tuple [], .tup (SqT.of (t15 _ _ hq4)) .nil, .tup (SqT.of k15) .nil, by decide, by decide, ?_⟩
              rw [show PyData.eqv (.tuple []) (.tuple []) = true from by decide]
              exact q K15
end
end Spk

set_option Elab.async false
set_option linter.all false
set_option maxRecDepth 100000
set_option maxHeartbeats 1000000
namespace Spk
open PySem PySem.Spec PyProof.Rows PySem.W L2
/-! ## a law's end, from a promise for entries while nothing is being shown -/
section
variable {P : Program} {w : World} {K : Frag} {mg mb : Str → Option Value} {CX : CXT} {k : Nat} {fa a : Addr} {fd : FuncData} {x : Str} {sp : Sp} {s1 : Shared} {vs : List Value} {ns : List Int}
/-- an abstract heap in which nothing but the script is tracked, if it is no object of the text -/
theorem start_heap (KX : K.In s1.heap) (ha : s1.heap.get? a = some { cls := .type "list", data := .seq vs.toArray }) (hi : IntsAre vs ns) (hl : ns.length ≤ sizeLine) :
    ∃ H : Hp, Only H ∧ SqL K H a (ns.map V.int) ∧ HOk P w H s1.heap ∧ (∀ b, (H b).isSome = true → b = a ∧ K.lookup a = none) := by
  have rv := vals_ints hi
  cases hk : K.lookup a with
  | some o =>
    have same := (KX a o hk).symm.trans ha
    cases same
    have n0 : HOk P w (fun _ => none) s1.heap := by
      intro b u z
      cases z
    have m0 : ∀ b : Addr, ((fun _ => none : Hp) b).isSome = true → b = a ∧ some ({ cls := .type "list", data := .seq vs.toArray } : Obj) = none := by
      intro b z
      cases z
    have q0 : SqL K (fun _ => none) a (ns.map V.int) := by
      refine Or.inr ⟨_, vs.toArray, _, hk, rfl, rfl, rfl, ?_, ?_⟩
      · rw [List.size_toArray, hi.length]
        exact hl
      · simpa using rv
    exact ⟨fun _ => none, fun _ => Or.inl rfl, q0, n0, m0⟩
  | none =>
    have one : ∀ b (u : HO), (if b = a then some (HO.frz { cls := .type "list", data := .seq vs.toArray } (.lst (ns.map V.int))) else none) = some u → b = a ∧ u = .frz { cls := .type "list", data := .seq vs.toArray } (.lst (ns.map V.int)) := by
      intro b u z
      split at z
      · rename_i e
        exact ⟨e, (Option.some.inj z).symm⟩
      · cases z
    refine ⟨fun b => if b = a then some (.frz { cls := .type "list", data := .seq vs.toArray } (.lst (ns.map V.int))) else none, fun b => ?_, Or.inl (Or.inr ⟨{ cls := .type "list", data := .seq vs.toArray }, if_pos rfl⟩), fun b u z => ?_, fun b z => ?_⟩
    · show (if b = a then _ else _) = _ ∨ _
      split
      · exact .inr ⟨_, _, if_pos (by assumption)⟩
      · exact .inl rfl
    · obtain ⟨rfl, rfl⟩ := one b u z
      refine ⟨ha, ?_, vs, _, rv, ha⟩
      rw [List.length_map]
      exact hl
    · obtain ⟨u, e⟩ := Option.isSome_iff_exists.mp z
      exact ⟨(one b u e).1, rfl⟩
/-- the law's promise at the heap behind the top -/
theorem law_g (KX : K.In s1.heap) (hns : s1.heap.Ns mainGlobals mg) (hb : s1.heap.Ns builtinsNs mb) (hbb : ∀ x : Str, x ≠ "__name__" → mb x = bootBuiltins x) (hlim : s1.heap.NoLimit) (hg : s1.gens = #[])
    (ha : s1.heap.get? a = some { cls := .type "list", data := .seq vs.toArray }) (hi : IntsAre vs ns) (hl : ns.length ≤ sizeLine) (hr : Room k callerA)
    (F : ∀ base : Heap, K.In base → base.Ns mainGlobals mg → FnG P w K mg base CX k fa fd [x] sp) (bi : ∀ (s : Shared) (u : Value), BindsTo s fd ⟨[u], []⟩ [(x, u)])
    (hsp : ∀ H : Hp, Only H → SqL K H a (ns.map V.int) → sp [.ref a] H (fun v _ => v = .bl true) fun _ _ _ => False) (hCX : ∀ H e s2, CX [] H s1 (fun _ _ _ => False) e s2 → False) :
    codeAny (model P w) callerA (.call (.ref fa) ⟨[.ref a], []⟩) (fun r s2 => r = .ok (.ret (.bool true)) ∧ OldK s1.heap s2.heap ∧ s2.os = s1.os ∧ AllBare s2.gens) s1 := by
  obtain ⟨H, only, sq, hok, mine⟩ := start_heap (P := P) (w := w) KX ha hi hl
  have off : ∀ {b : Addr} {o : Obj}, s1.heap.get? b = some o → H b = none → (hidT s1.heap H).get? b = some o := fun e n => hidT_get e n
  have free : ∀ {b : Addr}, (b = a → K.lookup a = none → False) → H b = none := by
    intro b no
    cases q : H b with
    | none => rfl
    | some u =>
      have z := mine b (by rw [q] <;> rfl)
      exact (no z.1 z.2).elim
  have dicts : ∀ {b : Addr} {o : Obj} {es : Array DictEntry} {ep : Nat}, s1.heap.get? b = some o → o.data = .dict es ep → H b = none := by
    intro b o es ep e d
    refine free fun z _ => ?_
    rw [z, ha] at e
    cases e
    cases d
  have names : ∀ {b : Addr} {m : Str → Option Value}, s1.heap.Ns b m → (hidT s1.heap H).Ns b m := by
    intro b m z
    obtain ⟨o, es, ep, e, d, r⟩ := z
    exact ⟨o, es, ep, off e (dicts e d), d, r⟩
  have inB : K.In (hidT s1.heap H) := by
    intro b o e
    refine off (KX b o e) (free fun z n => ?_)
    rw [z, n] at e
    cases e
  have mod : Mod K mg (hidT s1.heap H) := by
    obtain ⟨mc, h1, h2⟩ := hlim
    exact ⟨inB, names hns, ⟨mb, names hb, hbb⟩, mc, names h1, h2⟩
  have e0 : Env0 P w K mg (hidT s1.heap H) callerA [] s1 H :=
    ⟨rfl, mod, fun b o e => of_hidT e, Nat.le_of_eq (hidT_size _ _), trivial, fun b z => (List.not_mem_nil z).elim, hok, .of_eq hg⟩
  have z := (F _ inB (names hns)).goes callerA rfl [] s1 H ⟨[.ref a], []⟩ [.ref a] [.ref a] _ _ hr e0 (bi s1 (.ref a)) (.cons rfl .nil) (hsp H only sq)
  refine codeAny_mono z ?_
  intro r s2 q
  match r, q with
  | .error e, q => exact (hCX H e s2 q).elim
  | .ok .next, q => exact q.elim
  | .ok .brk, q => exact q.elim
  | .ok .cont, q => exact q.elim
  | .ok (.ret u), q =>
    obtain ⟨v, H2, os, gens, un, hok2, rv, e⟩ := q
    cases (show v = .bl true from e)
    cases (show u = Value.bool true from rv)
    refine ⟨rfl, OldK.of_keep ?_, os, gens⟩
    intro b o e
    rcases only b with n | ⟨ob, xs, n⟩
    · exact un.keep b o e n (fun z => List.not_mem_nil z) (fun z => List.not_mem_nil z)
    · have e1 := (hok b _ n).1
      have e2 := (hok2 b _ (un.frzs b ob _ n)).1
      rw [e] at e1
      cases e1
      exact e2
end
theorem walk_g {l : OpenLaw} {n k : Nat} {q : Program} {loose : List Str} {XP : (Str → Option Value) → Heap → Prop} {YP : World → Heap → Prop} {d : DefRec} {CX : CXT} {x : Str} (hn : l.most = some n) (hn2 : n ≤ sizeLine) (hdf : d.params.defaults = [])
    (hr : Room k callerA)
    (F : ∀ (w : World) (mg : Str → Option Value) (fa : Addr) (h : Heap), YP w h → h.Ns mainGlobals mg → mg d.name = some (.ref fa) → ∃ (K : Frag) (fd : FuncData) (sp : Sp), K.In h ∧ (∀ (s : Shared) (u : Value), BindsTo s fd ⟨[u], []⟩ [(x, u)]) ∧
        (∀ (H : Hp) (a : Addr) (ns : List Int), ns.length ≤ n → Only H → SqL K H a (ns.map V.int) → sp [.ref a] H (fun v _ => v = .bl true) fun _ _ _ => False) ∧
        ∀ base : Heap, K.In base → base.Ns mainGlobals mg → FnG l.prog w K mg base CX k fa fd [x] sp)
    (hCX : ∀ (H : Hp) (s : Shared) (e : Value) (s2 : Shared), CX [] H s (fun _ _ _ => False) e s2 → False) : WalkO q loose XP YP l.row.toRowW d [] (fun f vs => PySem.call f vs) := by
  refine Att.attach_call hn hdf ?_
  intro w s0 s1 mg mb fa o pm cd doc a vs ns G Y _ _ _ hmg hobj hints hlen hg
  obtain ⟨K, fd, sp, KX, bi, hsp, hF⟩ := F w mg fa _ Y G.T.g hmg
  exact law_g KX G.T.g G.T.b G.T.builtins G.T.nolimit hg hobj hints (Nat.le_trans hlen hn2) hr hF bi (fun H only sq => hsp H a ns hlen only sq) fun H e s2 => hCX H s1 e s2
end Spk

set_option Elab.async false
set_option linter.all false
set_option maxRecDepth 100000
set_option maxHeartbeats 0
namespace Spk
open PySem L2
/-! ### what the top leaves -/
abbrev at1 (x : Str) : PySem.W.Frag → Addr := fun K => He.ga K x
abbrev atM (m : Str) : PySem.W.Frag → Addr := fun K => He.ma K (He.ga K "Ranges") m
abbrev atN (m : Str) : PySem.W.Frag → Addr := fun K => He.ma K (He.ga K "Filter") m
abbrev atD (m : Str) : PySem.W.Frag → Addr := fun K => He5.wf K (He.ga K "Filter") "classmethod" m
abbrev atC (m : Str) : PySem.W.Frag → Addr := fun K => He5.wf K (He.ga K "Ranges") "classmethod" m
def dfn (a : PySem.W.Frag → Addr) (x q : Str) (st : Stmt) : He5.DefA := ⟨a, x, q, defArgs st, defBody st, defScope st, [], []⟩
def defs : List He5.DefA := [dfn (at1 "start_of") "start_of" "start_of" s_start_of,
  dfn (at1 "joined") "joined" "joined" s_joined,
  dfn (at1 "touches") "touches" "touches" s_touches,
  dfn (at1 "later_end") "later_end" "later_end" s_later_end,
  dfn (at1 "gaps") "gaps" "gaps" s_gaps,
  dfn (at1 "in_parts") "in_parts" "in_parts" s_in_parts,
  dfn (at1 "all_columns") "all_columns" "all_columns" s_all_columns,
  dfn (at1 "truth_of") "truth_of" "truth_of" s_truth_of,
  dfn (at1 "truth_within") "truth_within" "truth_within" s_truth_within,
  dfn (at1 "both") "both" "both" s_both,
  dfn (at1 "either") "either" "either" s_either,
  dfn (at1 "negated") "negated" "negated" s_negated,
  dfn (at1 "_law_pen") "_law_pen" "_law_pen" s_pen,
  dfn (at1 "_law_draw") "_law_draw" "_law_draw" s_draw,
  dfn (at1 "_law_ranges") "_law_ranges" "_law_ranges" s_ranges,
  dfn (at1 "_law_leaf") "_law_leaf" "_law_leaf" s_leaf,
  dfn (at1 "_law_set_of") "_law_set_of" "_law_set_of" s_set_of,
  dfn (at1 "_law_numbered") "_law_numbered" "_law_numbered" s_numbered,
  dfn (at1 "_law_condition") "_law_condition" "_law_condition" s_condition,
  dfn (at1 "_law_next") "_law_next" "_law_next" s_next,
  dfn (at1 "_law_built") "_law_built" "_law_built" s_built,
  dfn (at1 "_law_deep") "_law_deep" "_law_deep" s_deep,
  dfn (at1 "_law_many") "_law_many" "_law_many" s_many,
  dfn (at1 "_law_due_said") "_law_due_said" "_law_due_said" s_due_said,
  dfn (at1 "_law_said") "_law_said" "_law_said" s_said,
  dfn (at1 "_law_alike") "_law_alike" "_law_alike" s_alike,
  dfn (at1 "law") "law" "law" s_law,
  dfn (atM "__init__") "__init__" "Ranges.__init__" s_Ranges__init,
  dfn (atM "__or__") "__or__" "Ranges.__or__" s_Ranges__or,
  dfn (atM "__and__") "__and__" "Ranges.__and__" s_Ranges__and,
  dfn (atM "__sub__") "__sub__" "Ranges.__sub__" s_Ranges__sub,
  dfn (atM "__eq__") "__eq__" "Ranges.__eq__" s_Ranges__eq,
  dfn (atM "__contains__") "__contains__" "Ranges.__contains__" s_Ranges__contains,
  dfn (atM "__bool__") "__bool__" "Ranges.__bool__" s_Ranges__bool,
  dfn (atN "__init__") "__init__" "Filter.__init__" s_Filter__init,
  dfn (atN "__and__") "__and__" "Filter.__and__" s_Filter__and,
  dfn (atN "__or__") "__or__" "Filter.__or__" s_Filter__or,
  dfn (atN "__invert__") "__invert__" "Filter.__invert__" s_Filter__invert,
  dfn (atN "__eq__") "__eq__" "Filter.__eq__" s_Filter__eq,
  dfn (atN "__call__") "__call__" "Filter.__call__" s_Filter__call,
  dfn (atC "of") "of" "Ranges.of" s_Ranges_of,
  dfn (atC "between") "between" "Ranges.between" s_Ranges_between,
  dfn (atC "full") "full" "Ranges.full" s_Ranges_full,
  dfn (atC "empty") "empty" "Ranges.empty" s_Ranges_empty,
  dfn (atD "within") "within" "Filter.within" s_Filter_within,
  dfn (atD "missing") "missing" "Filter.missing" s_Filter_missing,
  dfn (atD "always") "always" "Filter.always" s_Filter_always,
  dfn (atD "never") "never" "Filter.never" s_Filter_never]
def names : List Str := ["start_of", "joined", "touches", "later_end", "gaps", "in_parts", "all_columns", "truth_of", "truth_within", "both", "either", "negated", "_law_pen", "_law_draw", "_law_ranges", "_law_leaf", "_law_set_of", "_law_numbered", "_law_condition", "_law_next", "_law_built", "_law_deep", "_law_many", "_law_due_said", "_law_said", "_law_alike", "law", "Ranges", "Filter"]
def kits : List Str := ["abs", "bool", "enumerate", "int", "isinstance", "len", "list", "max", "min", "range", "repr", "set", "sorted", "tuple"]
def plain : List He.Fa := names.map He.Fa.glo ++ (kits.map He.Fa.free ++ [.cls "Ranges", .noat "Ranges" "parts", .mkr "Ranges", .meth "Ranges" "__or__", .meth "Ranges" "__and__", .meth "Ranges" "__sub__", .meth "Ranges" "__eq__", .meth "Ranges" "__contains__", .meth "Ranges" "__bool__", .cls "Filter", .noat "Filter" "tree", .noat "Filter" "columns", .mkr "Filter", .meth "Filter" "__and__", .meth "Filter" "__or__", .meth "Filter" "__invert__", .meth "Filter" "__eq__", .meth "Filter" "__call__"])
def six : List String := ["NoneType", "bool", "int", "str", "list", "tuple"]
/-- what else is told of the class -/
def moreB (cm : List Str) (K : PySem.W.Frag) (C : Addr) : Bool :=
  PySem.W.selfFirst K C && (decide (PySem.W.findIn K (.ref C) "__ne__" = some (some (.builtin "object.__ne__"))) && (decide (PySem.W.subIn K (.ref C) (.type "object") = some true) && ((six.all fun t => decide (PySem.W.subIn K (.ref C) (.type t) = some false)) &&
  ((six.all fun t => decide (PySem.W.kitOne K (.type t) (.ref C) = some false)) && ((six.all fun t => PySem.W.notFirst K C (.type t)) && (decide (PySem.W.findIn K (.ref C) "__class__" = some (some (.builtin "object.__class__"))) &&
  (decide (PySem.W.specialIn K (.builtin "object.__class__") "__get__" = some (some (.builtin "getset_descriptor.__get__"))) && (decide (PySem.W.takesIn K (.builtin "object.__class__") = some true) && (decide (PySem.W.mroIn K C (.type "object") = some true) &&
  (decide (PySem.W.kitOne K (.ref C) (.ref C) = some true) && (PySem.W.readsIn K C (.type "type") && (decide (PySem.W.specialIn K (.ref C) "__getattribute__" = some (some (.builtin "type.__getattribute__"))) && (cm.all fun m => He5.wrapB K C "classmethod" "classmethod.__get__" m && PySem.W.fnIn K (He5.wf K C "classmethod" m))))))))))))))
def moreF (K : PySem.W.Frag) (D : Addr) : Bool := moreB ["within", "missing", "always", "never"] K D && PySem.W.fnIn K (He.ma K D "__call__")
def moreA (K : PySem.W.Frag) : Bool := moreB ["of", "between", "full", "empty"] K (He.ga K "Ranges") && moreF K (He.ga K "Filter")
abbrev Seen : Type := Bool × He.AlD
def seenAt (n : Nat) (g : Addr → Option Obj) : Seen := (moreA (He.frG g (He5.asA g n)), He5.obsA plain defs (He.frG g (He5.asA g n)))
def Told (K : PySem.W.Frag) : Prop := moreA K = true ∧ He5.SaysA plain defs K
def hook (n : Nat) : PySem.W.Hook where
  α := Seen
  obs := fun s => seenAt n s.heap.get?
  val := fun _ => (true, He5.valA defs)
  says := fun _ h => ∃ K : PySem.W.Frag, K.In h ∧ Told K
  of := fun _ _ e => ⟨_, He.frG_in, congrArg Prod.fst e, congrArg Prod.snd e⟩
  keeps := fun _ _ _ ⟨K, hK, c⟩ k => ⟨K, PySem.W.Frag.In.keeps hK k, c⟩
abbrev Rw : PySem.W.OpenRow := PySem.W.OpenLaw.row PySem.Challenge.rw_speaklast_k05_filters_built_of_filters
abbrev hk : PySem.W.Hook := hook 6
def obT (s : PySem.W.SharedT) : Seen := seenAt 6 (HandSHeadRun.getT s)
theorem obT_eq (s : PySem.W.SharedT) : obT s = hk.obs s.abs := by
  have e : HandSHeadRun.getT s = s.abs.heap.get? := funext (HandSHeadRun.getT_eq s)
  unfold obT
  rw [e]
  rfl
def loose : List Str := ["_wall", "Ranges", "start_of", "joined", "touches", "later_end", "gaps", "in_parts", "Filter", "all_columns", "truth_of", "truth_within", "both", "either", "negated", "_law_pen", "_law_draw", "_law_ranges", "_law_leaf", "_law_set_of", "_law_numbered", "_law_condition", "_law_next", "_law_built", "_law_deep", "_law_many", "_law_due_said", "_law_said", "_law_alike"]
theorem runs (w : World) : HandSHeadRun.RunEq Rw (PySem.W.view Rw.prog [32]) hk obT 4000 loose w := by
  intro os
  kernel_rfl
end Spk

set_option Elab.async false
set_option linter.all false
set_option maxRecDepth 100000
set_option maxHeartbeats 1000000
namespace Spk
open PySem L2
/-! ### the facts by name -/
theorem Told.fa {K : PySem.W.Frag} (c : Told K) (i : Nat) {f : He.Fa} (h : plain[i]? = some f) : f.ok K = true := He5.SaysA.fact c.2 i h
theorem Told.fn {K : PySem.W.Frag} (c : Told K) (i : Nat) {a : PySem.W.Frag → Addr} {x q : Str} {st : Stmt} (h : defs[i]? = some (dfn a x q st)) : ∃ fd, Fun K x q st (a K) fd := by
  obtain ⟨fd, F⟩ := He5.SaysA.def_ c.2 i h
  exact ⟨fd, He5.fun_of F⟩
structure ClsX (cm : List Str) (K : PySem.W.Frag) (C : Addr) : Prop where
  self : PySem.W.selfFirst K C = true
  ne : PySem.W.findIn K (.ref C) "__ne__" = some (some (.builtin "object.__ne__"))
  ob : PySem.W.subIn K (.ref C) (.type "object") = some true
  sub : ∀ t, t ∈ six → PySem.W.subIn K (.ref C) (.type t) = some false
  kit : ∀ t, t ∈ six → PySem.W.kitOne K (.type t) (.ref C) = some false
  nf : ∀ t, t ∈ six → PySem.W.notFirst K C (.type t) = true
  cls : PySem.W.findIn K (.ref C) "__class__" = some (some (.builtin "object.__class__"))
  get : PySem.W.specialIn K (.builtin "object.__class__") "__get__" = some (some (.builtin "getset_descriptor.__get__"))
  tk : PySem.W.takesIn K (.builtin "object.__class__") = some true
  mro : PySem.W.mroIn K C (.type "object") = some true
  own : PySem.W.kitOne K (.ref C) (.ref C) = some true
  rd : ClX.CRead K C (.type "type")
  met : ∀ m, m ∈ cm → ClX.CMet K C (.type "type") m (He.ma K C m) (He5.wf K C "classmethod" m)
theorem more_ok {cm : List Str} {K : PySem.W.Frag} {C : Addr} (h : moreB cm K C = true) : ClsX cm K C := by
  obtain ⟨h1, h⟩ := He.ba h
  obtain ⟨h2, h⟩ := He.ba h
  obtain ⟨h3, h⟩ := He.ba h
  obtain ⟨h4, h⟩ := He.ba h
  obtain ⟨h5, h⟩ := He.ba h
  obtain ⟨h6, h⟩ := He.ba h
  obtain ⟨h7, h⟩ := He.ba h
  obtain ⟨h8, h⟩ := He.ba h
  obtain ⟨h9, h⟩ := He.ba h
  obtain ⟨h10, h⟩ := He.ba h
  obtain ⟨h11, h⟩ := He.ba h
  obtain ⟨h12, h⟩ := He.ba h
  obtain ⟨h13, h14⟩ := He.ba h
  refine ⟨h1, of_decide_eq_true h2, of_decide_eq_true h3, fun t z => of_decide_eq_true (List.all_eq_true.mp h4 t z), fun t z => of_decide_eq_true (List.all_eq_true.mp h5 t z), fun t z => List.all_eq_true.mp h6 t z, of_decide_eq_true h7, of_decide_eq_true h8, of_decide_eq_true h9, of_decide_eq_true h10, of_decide_eq_true h11, ⟨h12, of_decide_eq_true h13⟩, fun m z => ?_⟩
  obtain ⟨a, b⟩ := He.ba (List.all_eq_true.mp h14 m z)
  exact He5.cmet_of a b
theorem facts {P : Program} {w : World} {K : PySem.W.Frag} {h : Heap} {mg : Str → Option Value} {f : Addr} (X : K.In h) (G : h.Ns mainGlobals mg) (hfa : mg ("law" : Str) = some (.ref f)) (c : Told K) :
    ∃ fd : FuncData, (∀ (s : Shared) (v : Value), BindsTo s fd ⟨[v], []⟩ [("_law_script", v)]) ∧ ∀ base : Heap, K.In base → base.Ns mainGlobals mg → FnG P w K mg base CX0 27 f fd ["_law_script"] (sp_law K) := by
  have g_start_of := He.glo_ok X G (c.fa 0 (f := .glo "start_of") rfl)
  have g_joined := He.glo_ok X G (c.fa 1 (f := .glo "joined") rfl)
  have g_touches := He.glo_ok X G (c.fa 2 (f := .glo "touches") rfl)
  have g_later_end := He.glo_ok X G (c.fa 3 (f := .glo "later_end") rfl)
  have g_gaps := He.glo_ok X G (c.fa 4 (f := .glo "gaps") rfl)
  have g_in_parts := He.glo_ok X G (c.fa 5 (f := .glo "in_parts") rfl)
  have g_all_columns := He.glo_ok X G (c.fa 6 (f := .glo "all_columns") rfl)
  have g_truth_of := He.glo_ok X G (c.fa 7 (f := .glo "truth_of") rfl)
  have g_truth_within := He.glo_ok X G (c.fa 8 (f := .glo "truth_within") rfl)
  have g_both := He.glo_ok X G (c.fa 9 (f := .glo "both") rfl)
  have g_either := He.glo_ok X G (c.fa 10 (f := .glo "either") rfl)
  have g_negated := He.glo_ok X G (c.fa 11 (f := .glo "negated") rfl)
  have g_pen := He.glo_ok X G (c.fa 12 (f := .glo "_law_pen") rfl)
  have g_draw := He.glo_ok X G (c.fa 13 (f := .glo "_law_draw") rfl)
  have g_ranges := He.glo_ok X G (c.fa 14 (f := .glo "_law_ranges") rfl)
  have g_leaf := He.glo_ok X G (c.fa 15 (f := .glo "_law_leaf") rfl)
  have g_set_of := He.glo_ok X G (c.fa 16 (f := .glo "_law_set_of") rfl)
  have g_numbered := He.glo_ok X G (c.fa 17 (f := .glo "_law_numbered") rfl)
  have g_condition := He.glo_ok X G (c.fa 18 (f := .glo "_law_condition") rfl)
  have g_next := He.glo_ok X G (c.fa 19 (f := .glo "_law_next") rfl)
  have g_built := He.glo_ok X G (c.fa 20 (f := .glo "_law_built") rfl)
  have g_deep := He.glo_ok X G (c.fa 21 (f := .glo "_law_deep") rfl)
  have g_many := He.glo_ok X G (c.fa 22 (f := .glo "_law_many") rfl)
  have g_due_said := He.glo_ok X G (c.fa 23 (f := .glo "_law_due_said") rfl)
  have g_said := He.glo_ok X G (c.fa 24 (f := .glo "_law_said") rfl)
  have g_alike := He.glo_ok X G (c.fa 25 (f := .glo "_law_alike") rfl)
  have g_law := He.glo_ok X G (c.fa 26 (f := .glo "law") rfl)
  have g_C := He.glo_ok X G (c.fa 27 (f := .glo "Ranges") rfl)
  have g_CF := He.glo_ok X G (c.fa 28 (f := .glo "Filter") rfl)
  have z_abs := He.free_ok X G (c.fa 29 (f := .free "abs") rfl)
  have z_bool := He.free_ok X G (c.fa 30 (f := .free "bool") rfl)
  have z_enumerate := He.free_ok X G (c.fa 31 (f := .free "enumerate") rfl)
  have z_int := He.free_ok X G (c.fa 32 (f := .free "int") rfl)
  have z_isinstance := He.free_ok X G (c.fa 33 (f := .free "isinstance") rfl)
  have z_len := He.free_ok X G (c.fa 34 (f := .free "len") rfl)
  have z_list := He.free_ok X G (c.fa 35 (f := .free "list") rfl)
  have z_max := He.free_ok X G (c.fa 36 (f := .free "max") rfl)
  have z_min := He.free_ok X G (c.fa 37 (f := .free "min") rfl)
  have z_range := He.free_ok X G (c.fa 38 (f := .free "range") rfl)
  have z_repr := He.free_ok X G (c.fa 39 (f := .free "repr") rfl)
  have z_set := He.free_ok X G (c.fa 40 (f := .free "set") rfl)
  have z_sorted := He.free_ok X G (c.fa 41 (f := .free "sorted") rfl)
  have z_tuple := He.free_ok X G (c.fa 42 (f := .free "tuple") rfl)
  have cCl := He.cls_ok (c.fa 43 (f := .cls "Ranges") rfl)
  have cNo_parts := He.noat_ok (c.fa 44 (f := .noat "Ranges" "parts") rfl)
  have cMk := He.mkr_ok (c.fa 45 (f := .mkr "Ranges") rfl)
  have m_or := He.meth_ok (c.fa 46 (f := .meth "Ranges" "__or__") rfl)
  have m_and := He.meth_ok (c.fa 47 (f := .meth "Ranges" "__and__") rfl)
  have m_sub := He.meth_ok (c.fa 48 (f := .meth "Ranges" "__sub__") rfl)
  have m_eq := He.meth_ok (c.fa 49 (f := .meth "Ranges" "__eq__") rfl)
  have m_contains := He.meth_ok (c.fa 50 (f := .meth "Ranges" "__contains__") rfl)
  have m_bool := He.meth_ok (c.fa 51 (f := .meth "Ranges" "__bool__") rfl)
  have dCl := He.cls_ok (c.fa 52 (f := .cls "Filter") rfl)
  have dNo_tree := He.noat_ok (c.fa 53 (f := .noat "Filter" "tree") rfl)
  have dNo_columns := He.noat_ok (c.fa 54 (f := .noat "Filter" "columns") rfl)
  have dMk := He.mkr_ok (c.fa 55 (f := .mkr "Filter") rfl)
  have n_and := He.meth_ok (c.fa 56 (f := .meth "Filter" "__and__") rfl)
  have n_or := He.meth_ok (c.fa 57 (f := .meth "Filter" "__or__") rfl)
  have n_invert := He.meth_ok (c.fa 58 (f := .meth "Filter" "__invert__") rfl)
  have n_eq := He.meth_ok (c.fa 59 (f := .meth "Filter" "__eq__") rfl)
  have n_call := He.meth_ok (c.fa 60 (f := .meth "Filter" "__call__") rfl)
  obtain ⟨cA, cB⟩ := He.ba c.1
  have cX := more_ok cA
  obtain ⟨cB1, cB2⟩ := He.ba cB
  have dX := more_ok cB1
  obtain ⟨fd_start_of, F_start_of⟩ := c.fn 0 (a := at1 "start_of") (x := "start_of") (q := "start_of") (st := s_start_of) rfl
  have B_start_of := F_start_of.binds (ps := ["stretch"]) fun _ _ _ _ _ _ us hl => match us, hl with | [_], _ => rfl
  obtain ⟨fd_joined, F_joined⟩ := c.fn 1 (a := at1 "joined") (x := "joined") (q := "joined") (st := s_joined) rfl
  have B_joined := F_joined.binds (ps := ["stretches"]) fun _ _ _ _ _ _ us hl => match us, hl with | [_], _ => rfl
  obtain ⟨fd_touches, F_touches⟩ := c.fn 2 (a := at1 "touches") (x := "touches") (q := "touches") (st := s_touches) rfl
  have B_touches := F_touches.binds (ps := ["part", "low"]) fun _ _ _ _ _ _ us hl => match us, hl with | [_, _], _ => rfl
  obtain ⟨fd_later_end, F_later_end⟩ := c.fn 3 (a := at1 "later_end") (x := "later_end") (q := "later_end") (st := s_later_end) rfl
  have B_later_end := F_later_end.binds (ps := ["one", "other"]) fun _ _ _ _ _ _ us hl => match us, hl with | [_, _], _ => rfl
  obtain ⟨fd_gaps, F_gaps⟩ := c.fn 4 (a := at1 "gaps") (x := "gaps") (q := "gaps") (st := s_gaps) rfl
  have B_gaps := F_gaps.binds (ps := ["parts"]) fun _ _ _ _ _ _ us hl => match us, hl with | [_], _ => rfl
  obtain ⟨fd_in_parts, F_in_parts⟩ := c.fn 5 (a := at1 "in_parts") (x := "in_parts") (q := "in_parts") (st := s_in_parts) rfl
  have B_in_parts := F_in_parts.binds (ps := ["parts", "number"]) fun _ _ _ _ _ _ us hl => match us, hl with | [_, _], _ => rfl
  obtain ⟨fd_all_columns, F_all_columns⟩ := c.fn 6 (a := at1 "all_columns") (x := "all_columns") (q := "all_columns") (st := s_all_columns) rfl
  have B_all_columns := F_all_columns.binds (ps := ["one", "other"]) fun _ _ _ _ _ _ us hl => match us, hl with | [_, _], _ => rfl
  obtain ⟨fd_truth_of, F_truth_of⟩ := c.fn 7 (a := at1 "truth_of") (x := "truth_of") (q := "truth_of") (st := s_truth_of) rfl
  have B_truth_of := F_truth_of.binds (ps := ["tree", "values"]) fun _ _ _ _ _ _ us hl => match us, hl with | [_, _], _ => rfl
  obtain ⟨fd_truth_within, F_truth_within⟩ := c.fn 8 (a := at1 "truth_within") (x := "truth_within") (q := "truth_within") (st := s_truth_within) rfl
  have B_truth_within := F_truth_within.binds (ps := ["value", "parts"]) fun _ _ _ _ _ _ us hl => match us, hl with | [_, _], _ => rfl
  obtain ⟨fd_both, F_both⟩ := c.fn 9 (a := at1 "both") (x := "both") (q := "both") (st := s_both) rfl
  have B_both := F_both.binds (ps := ["one", "other"]) fun _ _ _ _ _ _ us hl => match us, hl with | [_, _], _ => rfl
  obtain ⟨fd_either, F_either⟩ := c.fn 10 (a := at1 "either") (x := "either") (q := "either") (st := s_either) rfl
  have B_either := F_either.binds (ps := ["one", "other"]) fun _ _ _ _ _ _ us hl => match us, hl with | [_, _], _ => rfl
  obtain ⟨fd_negated, F_negated⟩ := c.fn 11 (a := at1 "negated") (x := "negated") (q := "negated") (st := s_negated) rfl
  have B_negated := F_negated.binds (ps := ["truth"]) fun _ _ _ _ _ _ us hl => match us, hl with | [_], _ => rfl
  obtain ⟨fd_pen, F_pen⟩ := c.fn 12 (a := at1 "_law_pen") (x := "_law_pen") (q := "_law_pen") (st := s_pen) rfl
  have B_pen := F_pen.binds (ps := ["_law_script"]) fun _ _ _ _ _ _ us hl => match us, hl with | [_], _ => rfl
  obtain ⟨fd_draw, F_draw⟩ := c.fn 13 (a := at1 "_law_draw") (x := "_law_draw") (q := "_law_draw") (st := s_draw) rfl
  have B_draw := F_draw.binds (ps := ["_law_pen_here", "_law_many_here"]) fun _ _ _ _ _ _ us hl => match us, hl with | [_, _], _ => rfl
  obtain ⟨fd_ranges, F_ranges⟩ := c.fn 14 (a := at1 "_law_ranges") (x := "_law_ranges") (q := "_law_ranges") (st := s_ranges) rfl
  have B_ranges := F_ranges.binds (ps := ["_law_pen_here"]) fun _ _ _ _ _ _ us hl => match us, hl with | [_], _ => rfl
  obtain ⟨fd_leaf, F_leaf⟩ := c.fn 15 (a := at1 "_law_leaf") (x := "_law_leaf") (q := "_law_leaf") (st := s_leaf) rfl
  have B_leaf := F_leaf.binds (ps := ["_law_pen_here", "_law_columns"]) fun _ _ _ _ _ _ us hl => match us, hl with | [_, _], _ => rfl
  obtain ⟨fd_set_of, F_set_of⟩ := c.fn 16 (a := at1 "_law_set_of") (x := "_law_set_of") (q := "_law_set_of") (st := s_set_of) rfl
  have B_set_of := F_set_of.binds (ps := ["_law_parts"]) fun _ _ _ _ _ _ us hl => match us, hl with | [_], _ => rfl
  obtain ⟨fd_numbered, F_numbered⟩ := c.fn 17 (a := at1 "_law_numbered") (x := "_law_numbered") (q := "_law_numbered") (st := s_numbered) rfl
  have B_numbered := F_numbered.binds (ps := ["_law_tree", "_law_values"]) fun _ _ _ _ _ _ us hl => match us, hl with | [_, _], _ => rfl
  obtain ⟨fd_condition, F_condition⟩ := c.fn 18 (a := at1 "_law_condition") (x := "_law_condition") (q := "_law_condition") (st := s_condition) rfl
  have B_condition := F_condition.binds (ps := ["_law_tree"]) fun _ _ _ _ _ _ us hl => match us, hl with | [_], _ => rfl
  obtain ⟨fd_next, F_next⟩ := c.fn 19 (a := at1 "_law_next") (x := "_law_next") (q := "_law_next") (st := s_next) rfl
  have B_next := F_next.binds (ps := ["_law_pen_here", "_law_trees"]) fun _ _ _ _ _ _ us hl => match us, hl with | [_, _], _ => rfl
  obtain ⟨fd_built, F_built⟩ := c.fn 20 (a := at1 "_law_built") (x := "_law_built") (q := "_law_built") (st := s_built) rfl
  have B_built := F_built.binds (ps := ["_law_filters", "_law_word", "_law_at", "_law_other"]) fun _ _ _ _ _ _ us hl => match us, hl with | [_, _, _, _], _ => rfl
  obtain ⟨fd_deep, F_deep⟩ := c.fn 21 (a := at1 "_law_deep") (x := "_law_deep") (q := "_law_deep") (st := s_deep) rfl
  have B_deep := F_deep.binds (ps := ["_law_tree"]) fun _ _ _ _ _ _ us hl => match us, hl with | [_], _ => rfl
  obtain ⟨fd_many, F_many⟩ := c.fn 22 (a := at1 "_law_many") (x := "_law_many") (q := "_law_many") (st := s_many) rfl
  have B_many := F_many.binds (ps := ["_law_tree"]) fun _ _ _ _ _ _ us hl => match us, hl with | [_], _ => rfl
  obtain ⟨fd_due_said, F_due_said⟩ := c.fn 23 (a := at1 "_law_due_said") (x := "_law_due_said") (q := "_law_due_said") (st := s_due_said) rfl
  have B_due_said := F_due_said.binds (ps := ["_law_tree"]) fun _ _ _ _ _ _ us hl => match us, hl with | [_], _ => rfl
  obtain ⟨fd_said, F_said⟩ := c.fn 24 (a := at1 "_law_said") (x := "_law_said") (q := "_law_said") (st := s_said) rfl
  have B_said := F_said.binds (ps := ["_law_made"]) fun _ _ _ _ _ _ us hl => match us, hl with | [_], _ => rfl
  obtain ⟨fd_alike, F_alike⟩ := c.fn 25 (a := at1 "_law_alike") (x := "_law_alike") (q := "_law_alike") (st := s_alike) rfl
  have B_alike := F_alike.binds (ps := ["_law_one", "_law_other", "_law_due"]) fun _ _ _ _ _ _ us hl => match us, hl with | [_, _, _], _ => rfl
  obtain ⟨fd_law, D_law⟩ := He5.SaysA.def_ c.2 26 (d := dfn (at1 "law") "law" "law" s_law) rfl
  have F_law : Fun K "law" "law" s_law (He.ga K "law") fd_law := He5.fun_of D_law
  have bl := FunD.bindsA (ps := ["_law_script"]) D_law fun _ _ _ _ _ _ us hl => match us, hl with | [_], _ => rfl
  obtain ⟨fd_init, F_init⟩ : ∃ fd, Fun K "__init__" "Ranges.__init__" s_Ranges__init (He.ma K (He.ga K "Ranges") "__init__") fd := c.fn 27 (a := atM "__init__") (x := "__init__") (q := "Ranges.__init__") (st := s_Ranges__init) rfl
  have B_init := F_init.binds (ps := ["self", "parts"]) fun _ _ _ _ _ _ us hl => match us, hl with | [_, _], _ => rfl
  obtain ⟨fd_or, F_or⟩ : ∃ fd, Fun K "__or__" "Ranges.__or__" s_Ranges__or (He.ma K (He.ga K "Ranges") "__or__") fd := c.fn 28 (a := atM "__or__") (x := "__or__") (q := "Ranges.__or__") (st := s_Ranges__or) rfl
  have B_or := F_or.binds (ps := ["self", "other"]) fun _ _ _ _ _ _ us hl => match us, hl with | [_, _], _ => rfl
  obtain ⟨fd_and, F_and⟩ : ∃ fd, Fun K "__and__" "Ranges.__and__" s_Ranges__and (He.ma K (He.ga K "Ranges") "__and__") fd := c.fn 29 (a := atM "__and__") (x := "__and__") (q := "Ranges.__and__") (st := s_Ranges__and) rfl
  have B_and := F_and.binds (ps := ["self", "other"]) fun _ _ _ _ _ _ us hl => match us, hl with | [_, _], _ => rfl
  obtain ⟨fd_sub, F_sub⟩ : ∃ fd, Fun K "__sub__" "Ranges.__sub__" s_Ranges__sub (He.ma K (He.ga K "Ranges") "__sub__") fd := c.fn 30 (a := atM "__sub__") (x := "__sub__") (q := "Ranges.__sub__") (st := s_Ranges__sub) rfl
  have B_sub := F_sub.binds (ps := ["self", "other"]) fun _ _ _ _ _ _ us hl => match us, hl with | [_, _], _ => rfl
  obtain ⟨fd_eq, F_eq⟩ : ∃ fd, Fun K "__eq__" "Ranges.__eq__" s_Ranges__eq (He.ma K (He.ga K "Ranges") "__eq__") fd := c.fn 31 (a := atM "__eq__") (x := "__eq__") (q := "Ranges.__eq__") (st := s_Ranges__eq) rfl
  have B_eq := F_eq.binds (ps := ["self", "other"]) fun _ _ _ _ _ _ us hl => match us, hl with | [_, _], _ => rfl
  obtain ⟨fd_contains, F_contains⟩ : ∃ fd, Fun K "__contains__" "Ranges.__contains__" s_Ranges__contains (He.ma K (He.ga K "Ranges") "__contains__") fd := c.fn 32 (a := atM "__contains__") (x := "__contains__") (q := "Ranges.__contains__") (st := s_Ranges__contains) rfl
  have B_contains := F_contains.binds (ps := ["self", "value"]) fun _ _ _ _ _ _ us hl => match us, hl with | [_, _], _ => rfl
  obtain ⟨fd_bool, F_bool⟩ : ∃ fd, Fun K "__bool__" "Ranges.__bool__" s_Ranges__bool (He.ma K (He.ga K "Ranges") "__bool__") fd := c.fn 33 (a := atM "__bool__") (x := "__bool__") (q := "Ranges.__bool__") (st := s_Ranges__bool) rfl
  have B_bool := F_bool.binds (ps := ["self"]) fun _ _ _ _ _ _ us hl => match us, hl with | [_], _ => rfl
  obtain ⟨fd_xinit, F_xinit⟩ : ∃ fd, Fun K "__init__" "Filter.__init__" s_Filter__init (He.ma K (He.ga K "Filter") "__init__") fd := c.fn 34 (a := atN "__init__") (x := "__init__") (q := "Filter.__init__") (st := s_Filter__init) rfl
  have B_xinit := F_xinit.binds (ps := ["self", "tree", "columns"]) fun _ _ _ _ _ _ us hl => match us, hl with | [_, _, _], _ => rfl
  obtain ⟨fd_xand, F_xand⟩ : ∃ fd, Fun K "__and__" "Filter.__and__" s_Filter__and (He.ma K (He.ga K "Filter") "__and__") fd := c.fn 35 (a := atN "__and__") (x := "__and__") (q := "Filter.__and__") (st := s_Filter__and) rfl
  have B_xand := F_xand.binds (ps := ["self", "other"]) fun _ _ _ _ _ _ us hl => match us, hl with | [_, _], _ => rfl
  obtain ⟨fd_xor, F_xor⟩ : ∃ fd, Fun K "__or__" "Filter.__or__" s_Filter__or (He.ma K (He.ga K "Filter") "__or__") fd := c.fn 36 (a := atN "__or__") (x := "__or__") (q := "Filter.__or__") (st := s_Filter__or) rfl
  have B_xor := F_xor.binds (ps := ["self", "other"]) fun _ _ _ _ _ _ us hl => match us, hl with | [_, _], _ => rfl
  obtain ⟨fd_xinvert, F_xinvert⟩ : ∃ fd, Fun K "__invert__" "Filter.__invert__" s_Filter__invert (He.ma K (He.ga K "Filter") "__invert__") fd := c.fn 37 (a := atN "__invert__") (x := "__invert__") (q := "Filter.__invert__") (st := s_Filter__invert) rfl
  have B_xinvert := F_xinvert.binds (ps := ["self"]) fun _ _ _ _ _ _ us hl => match us, hl with | [_], _ => rfl
  obtain ⟨fd_xeq, F_xeq⟩ : ∃ fd, Fun K "__eq__" "Filter.__eq__" s_Filter__eq (He.ma K (He.ga K "Filter") "__eq__") fd := c.fn 38 (a := atN "__eq__") (x := "__eq__") (q := "Filter.__eq__") (st := s_Filter__eq) rfl
  have B_xeq := F_xeq.binds (ps := ["self", "other"]) fun _ _ _ _ _ _ us hl => match us, hl with | [_, _], _ => rfl
  obtain ⟨fd_xcall, F_xcall⟩ : ∃ fd, Fun K "__call__" "Filter.__call__" s_Filter__call (He.ma K (He.ga K "Filter") "__call__") fd := c.fn 39 (a := atN "__call__") (x := "__call__") (q := "Filter.__call__") (st := s_Filter__call) rfl
  have B_xcall := F_xcall.binds (ps := ["self", "values"]) fun _ _ _ _ _ _ us hl => match us, hl with | [_, _], _ => rfl
  obtain ⟨fd_of, F_of⟩ : ∃ fd, Fun K "of" "Ranges.of" s_Ranges_of (He5.wf K (He.ga K "Ranges") "classmethod" "of") fd := c.fn 40 (a := atC "of") (x := "of") (q := "Ranges.of") (st := s_Ranges_of) rfl
  obtain ⟨fd_between, F_between⟩ : ∃ fd, Fun K "between" "Ranges.between" s_Ranges_between (He5.wf K (He.ga K "Ranges") "classmethod" "between") fd := c.fn 41 (a := atC "between") (x := "between") (q := "Ranges.between") (st := s_Ranges_between) rfl
  have B_between := F_between.binds (ps := ["cls", "low", "high"]) fun _ _ _ _ _ _ us hl => match us, hl with | [_, _, _], _ => rfl
  obtain ⟨fd_full, F_full⟩ : ∃ fd, Fun K "full" "Ranges.full" s_Ranges_full (He5.wf K (He.ga K "Ranges") "classmethod" "full") fd := c.fn 42 (a := atC "full") (x := "full") (q := "Ranges.full") (st := s_Ranges_full) rfl
  have B_full := F_full.binds (ps := ["cls"]) fun _ _ _ _ _ _ us hl => match us, hl with | [_], _ => rfl
  obtain ⟨fd_empty, F_empty⟩ : ∃ fd, Fun K "empty" "Ranges.empty" s_Ranges_empty (He5.wf K (He.ga K "Ranges") "classmethod" "empty") fd := c.fn 43 (a := atC "empty") (x := "empty") (q := "Ranges.empty") (st := s_Ranges_empty) rfl
  have B_empty := F_empty.binds (ps := ["cls"]) fun _ _ _ _ _ _ us hl => match us, hl with | [_], _ => rfl
  obtain ⟨fd_xwithin, F_xwithin⟩ : ∃ fd, Fun K "within" "Filter.within" s_Filter_within (He5.wf K (He.ga K "Filter") "classmethod" "within") fd := c.fn 44 (a := atD "within") (x := "within") (q := "Filter.within") (st := s_Filter_within) rfl
  have B_xwithin := F_xwithin.binds (ps := ["cls", "column", "ranges"]) fun _ _ _ _ _ _ us hl => match us, hl with | [_, _, _], _ => rfl
  obtain ⟨fd_xmissing, F_xmissing⟩ : ∃ fd, Fun K "missing" "Filter.missing" s_Filter_missing (He5.wf K (He.ga K "Filter") "classmethod" "missing") fd := c.fn 45 (a := atD "missing") (x := "missing") (q := "Filter.missing") (st := s_Filter_missing) rfl
  have B_xmissing := F_xmissing.binds (ps := ["cls", "column"]) fun _ _ _ _ _ _ us hl => match us, hl with | [_, _], _ => rfl
  obtain ⟨fd_xalways, F_xalways⟩ : ∃ fd, Fun K "always" "Filter.always" s_Filter_always (He5.wf K (He.ga K "Filter") "classmethod" "always") fd := c.fn 46 (a := atD "always") (x := "always") (q := "Filter.always") (st := s_Filter_always) rfl
  have B_xalways := F_xalways.binds (ps := ["cls"]) fun _ _ _ _ _ _ us hl => match us, hl with | [_], _ => rfl
  obtain ⟨fd_xnever, F_xnever⟩ : ∃ fd, Fun K "never" "Filter.never" s_Filter_never (He5.wf K (He.ga K "Filter") "classmethod" "never") fd := c.fn 47 (a := atD "never") (x := "never") (q := "Filter.never") (st := s_Filter_never) rfl
  have B_xnever := F_xnever.binds (ps := ["cls"]) fun _ _ _ _ _ _ us hl => match us, hl with | [_], _ => rfl
  generalize eC : He.ga K "Ranges" = C at *
  generalize eD : He.ga K "Filter" = D at *
  have e := hfa.symm.trans g_law
  cases e
  have T : ClsT K mg C (He.ma K C "__init__") (He.ma K C "__eq__") := ⟨cCl, cNo_parts, cMk, g_C, cX.self, ⟨m_eq.1, cX.ne, m_eq.2, ⟨cX.ob, cX.sub _ (by decide), cX.sub _ (by decide), cX.sub _ (by decide), cX.sub _ (by decide), cX.sub _ (by decide), cX.sub _ (by decide)⟩⟩, cX.cls, cX.get, cX.tk, cX.mro, cX.own,
    cX.kit _ (by decide), cX.kit _ (by decide), cX.kit _ (by decide), cX.kit _ (by decide), cX.kit _ (by decide), cX.kit _ (by decide)⟩
  have CM : ClsM K C (.type "type") _ _ _ _ _ _ _ _ (He.ma K C "__or__") := ⟨cX.rd, cX.met "empty" (by decide), cX.met "between" (by decide), cX.met "of" (by decide), cX.met "full" (by decide), cX.self, m_or.1, m_or.2⟩
  have CN : ClsN K C (He.ma K C "__and__") (He.ma K C "__sub__") := ⟨m_and.1, m_and.2, m_sub.1, m_sub.2⟩
  have TF : ClsF K mg D (He.ma K D "__init__") := ⟨dCl, dNo_tree, dNo_columns, dMk, g_CF⟩
  have CF : ClsG K D (.type "type") _ _ _ _ _ _ _ _ (He.ma K D "__and__") (He.ma K D "__or__") (He.ma K D "__invert__") (He.ma K D "__call__") := ⟨dX.rd, dX.met "within" (by decide), dX.met "missing" (by decide), dX.met "always" (by decide), dX.met "never" (by decide), dX.self, n_and.1, n_and.2, n_or.1, n_or.2, n_invert.1, n_invert.2, ⟨n_call.1, n_call.2, cB2⟩⟩
  refine ⟨fd_law, fun s v => bl s [v] rfl, fun base _ _ => ?_⟩
  have G_joined := ok_joined (P := P) (w := w) (mg := mg) (base := base) F_joined F_start_of B_start_of g_start_of F_touches B_touches g_touches F_later_end B_later_end g_later_end z_max z_sorted z_tuple
  have R : ClsR P w K mg base C _ _ _ _ (He.ma K C "__or__") (He.ma K C "__eq__") := ⟨FnOk.raw (ok_empty F_empty F_init B_init T) B_empty .nil, FnOk.raw (ok_between F_between F_init B_init T) B_between .nil, ok_of F_of F_init B_init T F_joined B_joined g_joined G_joined,
    FnOk.raw (ok_full F_full F_init B_init T) B_full .nil, FnOk.raw (ok_or F_or F_init B_init T F_joined B_joined g_joined G_joined) B_or .nil, FnOk.raw (ok_eq F_eq T z_isinstance) B_eq .nil⟩
  have R_sub : FnR P w K mg base CX0 5 (He.ma K C "__sub__") (mSub C) := FnOk.raw (ok_sub F_sub F_init B_init T F_joined B_joined g_joined G_joined F_gaps B_gaps g_gaps z_tuple) B_sub .nil
  have G_in_parts := ok_in_parts (P := P) (w := w) (mg := mg) (base := base) F_in_parts z_len
  have G_truth_within := ok_truth_within (P := P) (w := w) (mg := mg) (base := base) F_truth_within F_in_parts B_in_parts g_in_parts G_in_parts
  have G_both := ok_both (P := P) (w := w) (mg := mg) (base := base) F_both
  have G_either := ok_either (P := P) (w := w) (mg := mg) (base := base) F_either
  have G_negated := ok_negated (P := P) (w := w) (mg := mg) (base := base) F_negated
  have G_truth_of := ok_truth (P := P) (w := w) (mg := mg) (base := base) F_truth_of B_truth_of g_truth_of F_truth_within B_truth_within g_truth_within G_truth_within F_both B_both g_both G_both F_either B_either g_either G_either F_negated B_negated g_negated G_negated 20
  have G_all_columns := ok_all_columns (P := P) (w := w) (mg := mg) (base := base) F_all_columns z_tuple z_sorted z_set
  have RF : ClsH P w K mg base C D _ _ _ _ (He.ma K D "__and__") (He.ma K D "__or__") (He.ma K D "__invert__") (He.ma K D "__call__") := ⟨FnOk.raw (ok_fwithin F_xwithin F_xinit B_xinit TF T) B_xwithin .nil, FnOk.raw (ok_fmissing F_xmissing F_xinit B_xinit TF) B_xmissing .nil,
    FnOk.raw (ok_falways F_xalways F_xinit B_xinit TF) B_xalways .nil, FnOk.raw (ok_fnever F_xnever F_xinit B_xinit TF) B_xnever .nil,
    FnOk.raw (ok_fand F_xand F_xinit B_xinit TF F_all_columns B_all_columns g_all_columns G_all_columns) B_xand .nil, FnOk.raw (ok_for F_xor F_xinit B_xinit TF F_all_columns B_all_columns g_all_columns G_all_columns) B_xor .nil,
    FnOk.raw (ok_finv F_xinvert F_xinit B_xinit TF) B_xinvert .nil, FnOk.raw (ok_fcall (d := 20) F_xcall TF F_truth_of B_truth_of g_truth_of G_truth_of) B_xcall .nil⟩
  have G_pen := ok_pen (P := P) (w := w) (mg := mg) (base := base) F_pen z_list
  have G_draw := ok_draw (P := P) (w := w) (mg := mg) (base := base) F_draw z_int z_len z_abs
  have G_ranges := ok_ranges F_ranges F_draw B_draw g_draw G_draw CM CN R R_sub g_C
  have U : ClsE K D (He.ma K D "__eq__") := ⟨⟨n_eq.1, dX.ne, n_eq.2, ⟨dX.ob, dX.sub _ (by decide), dX.sub _ (by decide), dX.sub _ (by decide), dX.sub _ (by decide), dX.sub _ (by decide), dX.sub _ (by decide)⟩⟩, dX.cls, dX.get, dX.tk, dX.mro, dX.own,
    dX.kit _ (by decide), dX.kit _ (by decide), dX.kit _ (by decide), dX.kit _ (by decide), dX.kit _ (by decide), dX.kit _ (by decide)⟩
  have N : NoSub K D := ⟨dX.nf _ (by decide), dX.nf _ (by decide), dX.nf _ (by decide), dX.nf _ (by decide), dX.nf _ (by decide), dX.nf _ (by decide)⟩
  have R_feq : FnR P w K mg base CX0 1 (He.ma K D "__eq__") (fun vs H Q E => sp_feq D (vs ++ []) H Q E) := FnOk.raw (ok_feq F_xeq TF U z_isinstance) B_xeq .nil
  have G_leaf := ok_leaf F_leaf T F_draw B_draw g_draw G_draw F_ranges B_ranges g_ranges G_ranges z_len
  have G_set_of := ok_set_of (P := P) (w := w) (mg := mg) (base := base) F_set_of CM R g_C
  have G_numbered := ok_numbered (P := P) (w := w) (mg := mg) (base := base) F_numbered B_numbered g_numbered z_int z_min z_max 20
  have G_condition := ok_condition F_condition g_CF CF RF F_set_of B_set_of g_set_of G_set_of
  have G_next := ok_next F_next F_draw B_draw g_draw G_draw z_len
  have G_built := ok_built F_built CF RF
  have G_deep := ok_deep (P := P) (w := w) (mg := mg) (base := base) F_deep B_deep g_deep z_max 22
  have G_many := ok_many (P := P) (w := w) (mg := mg) (base := base) F_many B_many g_many 22
  have G_due_said := ok_due_said F_due_said F_numbered B_numbered g_numbered G_numbered z_int z_repr
  have G_said := ok_said F_said CF RF z_repr
  have G_alike := ok_alike F_alike TF U N R_feq
  exact ok_law F_law TF T CM R g_C g_CF CF RF F_pen B_pen g_pen G_pen F_leaf B_leaf g_leaf G_leaf F_condition B_condition g_condition G_condition F_next B_next g_next G_next F_built B_built g_built G_built F_deep B_deep g_deep G_deep F_many B_many g_many G_many F_due_said B_due_said g_due_said G_due_said F_said B_said g_said G_said F_alike B_alike g_alike G_alike z_len z_range z_enumerate
end Spk
open PySem PySem.W PySem.Calls PyProof.Rows
theorem PySem.Challenge.cw_speaklast_k05_filters_built_of_filters_holds : PySem.Challenge.rw_speaklast_k05_filters_built_of_filters.Holds := by
  w_on; o_law
  refine HandSHeadRun.head_any (r := Spk.Rw) (q := view Spk.Rw.prog [32]) (H := Spk.hk) (ob := Spk.obT) (M := 4000) (loose := Spk.loose) (d := HandSHeadRun.topDef Spk.Rw.prog 32) (kwd := []) Spk.obT_eq
    (by kernel_rfl) (fun s => by kernel_rfl) Spk.runs (by kernel_rfl) (by kernel_rfl) (by kernel_rfl) (by rfl) (by first | assumption | decide +kernel) (by decide +kernel) ⟨rfl, rfl, rfl, rfl, rfl, by decide +kernel⟩ ?hw ?hc
  case hw => w_witness2
  case hc =>
    refine Spk.walk_g (l := PySem.Challenge.rw_speaklast_k05_filters_built_of_filters) (n := 63) (k := 27) (x := "_law_script") (CX := L2.CX0) rfl (by decide) (by kernel_rfl) ⟨rfl, by decide, by decide⟩ ?F (fun _ _ _ _ z => z)
    intro w mg fa h Y G hmg0
    obtain ⟨K, KX, c⟩ := Y
    have hmg : mg ("law" : PySem.Str) = some (.ref fa) := by
      have e : (HandSHeadRun.topDef Spk.Rw.prog 32).name = ("law" : PySem.Str) := by kernel_rfl
      rw [← e]
      exact hmg0
    obtain ⟨fd, hb, hF⟩ := Spk.facts (P := (PySem.Challenge.rw_speaklast_k05_filters_built_of_filters).prog) (w := w) KX G hmg c
    exact ⟨K, fd, Spk.sp_law K, KX, hb, fun H a ns hl _ hS => ⟨a, ns, rfl, hS, hl, fun _ => rfl⟩, hF⟩

