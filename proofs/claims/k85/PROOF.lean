import PyProof.Rows.All
import Wide.All
import OpenK.AllK
import Wide.FinOn
import HandS.ForMost
import HandS.SortKw
import HandS.More
import HandS.OwnEq
import HandS.Keys
import KE.SortKeyHeap
import HandS.IsInst
import HandS.TupAny
import HandS.Wide
import HandS.ClsMeth
import HandS.Star
import HandS.CallLocal
import HandS.Codes
import HandS.HeadEnd
import PyProof.ReprRoads
import KE.GoesMore
import HandS.Zip
import HandS.Walk
import HandS.MakeKwOnly
import KE.KStar
import HandS.Style
import HandS.Conv
import HandS.SetFor
import HandS.SetTxt0
import HandS.Strs
import HandS.ExcField
import HandS.ExcIs
import HandS.ExcInit
import KE.KExcIs
import HandS.ForExc
import HandS.ListEq
import HandS.Deep
import HandS.Small
import HandS.Dict
import HandS.Head0
import HandS.Head1
import HandS.Head2
import HandS.HeadHook1
import HandS.HeadHook2
import HandS.HeadNt
import HandS.Text
import KE.IntTextLaws
import HandS.DictComp
import HandS.WordsDict
import PySem.Challenge.RW_speaklast_k85_filters_as_texts
set_option Elab.async false
set_option linter.all false
set_option maxRecDepth 100000
set_option maxHeartbeats 2000000
namespace Spk
open PySem PySem.Spec PyProof.Rows PySem.W L2

/-! ## sorted(xs, key=f), f a def of the program that keeps an L2 promise -/
theorem heap_without (h : Heap) (k : Addr) : ∃ g : Heap, g.get? k = none ∧ ∀ b, b ≠ k → g.get? b = h.get? b := by
  by_cases hk : k < h.objs.size
  · refine ⟨{ h with objs := h.objs.set k ⟨.none, none, .freed, #[]⟩ hk }, ?_, fun b hb => ?_⟩
    · unfold Heap.get?
      simp
    · unfold Heap.get?
      simp only [Array.getElem?_set, if_neg (Ne.symm hb)]
  · refine ⟨h, ?_, fun _ _ => rfl⟩
    unfold Heap.get?
    rw [Array.getElem?_eq_none (Nat.le_of_not_lt hk)]

mutual
theorem dp_same {K : Frag} {H H' : Hp} (e : Same H H') : ∀ (d : PyData) (v : V), Dp K H v d → Dp K H' v d
  | .none, _, h => by cases h; exact .non
  | .bool b, _, h => by cases h; exact .bl b
  | .int i, _, h => by cases h; exact .int i
  | .str x, _, h => by cases h; exact .str x
  | .list ds, _, h => by
    cases h with
    | lst s a => exact .lst (SqL.ext s e) (dps_same e ds _ a)
  | .tuple ds, _, h => by
    cases h with
    | tup s a => exact .tup (SqT.ext s e) (dps_same e ds _ a)
  | .dict _, _, h => by cases h
theorem dps_same {K : Frag} {H H' : Hp} (e : Same H H') : ∀ (ds : List PyData) (vs : List V), DpAll K H vs ds → DpAll K H' vs ds
  | [], _, h => by cases h; exact .nil
  | d :: ds, _, h => by
    cases h with
    | cons a b => exact .cons (dp_same e d _ a) (dps_same e ds _ b)
end

/-- a def that keeps a promise, called somewhere below the running body -/
theorem call_at {X : Cx} {n : Nat} {f : Addr} {sp : Sp} (F : FnR X.prog X.w X.K X.mg X.base CX0 n f sp) {A' : Around} (sb : Sub X n A') {pins : List (Addr × Obj)} {s : Shared} {σ : L2.St} {H : Hp} (I : Inv X pins σ H s)
    {vs : List V} {us : List Value} {Q : VK} {E : Value → Shared → Prop} (r : Vals vs us) (h : sp vs H Q E0) : wpAny (model X.prog X.w) A' (call (.ref f) us) (EP X pins σ Q) E s := by
  have e0 : Env0 X.prog X.w X.K X.mg X.base A' X.stack s H := by
    have e := I.env0
    exact ⟨by rw [sb.fr]; exact e.frames, e.mod, e.bs, e.bsz, e.funs, e.frf, e.hok, e.bare⟩
  refine wpAny_call (codeAny_mono (F A' X.stack s H us vs Q E0 sb.room e0 r h) fun r s' hq => ?_)
  cases r with
  | error e => exact False.elim hq
  | ok fl =>
    cases fl with
    | ret w => exact I.after hq
    | next => exact False.elim hq
    | brk => exact False.elim hq
    | cont => exact False.elim hq

/-- the keys told so far -/
def KeysIn (K : Frag) (H : Hp) : List Value → List PyData → Prop := EachIs fun u d => ∃ v, RelV v u ∧ Dp K H v d

structure KeyLoop (X : Cx) (pins : List (Addr × Obj)) (σ : L2.St) (H : Hp) (a kS : Addr) (e1 : Nat) (kz : List PyData) (i : Nat) (s' : Shared) : Prop where
  ex : ∃ (H' : Hp) (kA : Array Value) (e : Nat), Inv X pins σ H' s' ∧ Same H H' ∧ FpOk X pins H' a ∧ FpOk X pins H' kS ∧ s'.heap.get? kS = some (seqObj "list" kA e) ∧
    s'.heap.get? a = some (seqObj "list" #[] e1) ∧ KeysIn X.K H' kA.toList (kz.take i)

theorem key_turn {X : Cx} {n : Nat} {f : Addr} {sp : Sp} (F : FnR X.prog X.w X.K X.mg X.base CX0 n f sp) {A' : Around} (sb : Sub X n A') {pins : List (Addr × Obj)} {σ : L2.St} {H : Hp} {a kS : Addr} {e1 : Nat} {kz : List PyData} {i : Nat} {s' : Shared}
    (hka : kS ≠ a) {x : V} {u : Value} {d : PyData} (ru : RelV x u) (hd : kz[i]? = some d) (turn : ∀ H', Same H H' → sp [x] H' (fun v H'' => Same H' H'' ∧ Dp X.K H'' v d) E0) (J : KeyLoop X pins σ H a kS e1 kz i s') {E : Value → Shared → Prop} :
    wpAny (model X.prog X.w) A' (call (.ref f) [u]) (fun v s'' => ∃ (kA : Array Value) (e : Nat), s''.heap.get? kS = some (seqObj "list" kA e) ∧ kA.size ≤ i ∧
      ∀ h' : Heap, (∀ b o, b ≠ kS → s''.heap.get? b = some o → h'.get? b = some o) → (∃ e', h'.get? kS = some (seqObj "list" (kA.push v) e')) → KeyLoop X pins σ H a kS e1 kz (i + 1) { s'' with heap := h' }) E s' := by
  obtain ⟨H', kA, e, I, sm, fa, fk, nk, na, ks⟩ := J.ex
  have Ip := I.pinned (fp := [a, kS]) (fun b hb => by
      rcases List.mem_cons.mp hb with rfl | hb
      · exact fa
      · rw [List.mem_singleton.mp hb]; exact fk) (fun b hb => by
      rcases List.mem_cons.mp hb with rfl | hb
      · exact ⟨_, na, fun v z => nomatch z⟩
      · rw [List.mem_singleton.mp hb]; exact ⟨_, nk, fun v z => nomatch z⟩)
  refine wpAny_mono (call_at F sb Ip (.cons ru .nil) (turn H' sm)) (fun v s'' he => ?_) fun _ _ z => z
  obtain ⟨w, H2, I2, rw2, sm2, dp⟩ := he
  have pa := I2.pin (a, _) (List.mem_append_right _ (List.mem_append_right _ (mem_pinsAt (by simp) na)))
  have pk := I2.pin (kS, _) (List.mem_append_right _ (List.mem_append_right _ (mem_pinsAt (by simp) nk)))
  have I3 := I2.unpinned
  have hsz : kA.size ≤ i := by
    have h1 := ks.length
    rw [Array.length_toList, List.length_take] at h1
    omega
  have fk2 : FpOk X pins H2 kS := ⟨pk.2.1, fk.2⟩
  have fa2 : FpOk X pins H2 a := ⟨pa.2.1, fa.2⟩
  refine ⟨kA, e, pk.1, hsz, fun h' keep ⟨e', hk'⟩ => ⟨⟨H2, kA.push v, e', ?_, fun b o q => sm2 b o (sm b o q), fa2, fk2, hk', keep a _ (Ne.symm hka) pa.1, ?_⟩⟩⟩
  · exact I3.turnedL (t' := s''.toks) (ch := [kS]) (fun b o hb q => keep b o (by simpa using hb) q) (fun b hb => by rw [List.mem_singleton.mp hb]; exact fk2)
  · have ek : kz.take (i + 1) = kz.take i ++ [d] := by rw [List.take_add_one, hd]; simp
    have ea : (kA.push v).toList = kA.toList ++ [v] := by simp
    rw [ea, ek]
    unfold KeysIn
    refine each_snoc ⟨w, rw2, dp⟩ ?_
    exact EachIs.mono (fun u d ⟨z, rz, dz⟩ => ⟨z, rz, dp_same sm2 d z dz⟩) ks

/-- the items in the order of their keys -/
def byKeys (xs : List V) (kz : List PyData) : List V := ((xs.zip kz).mergeSort (dataLe false (·.2))).map (·.1)

theorem each_vals : ∀ {vs : List Value} {bs : List (V × PyData)}, EachIs (fun u (b : V × PyData) => RelV b.1 u) vs bs → Vals (bs.map (·.1)) vs := by
  intro vs bs h
  induction h with
  | nil => exact .nil
  | cons r _ ih => exact .cons r ih
theorem each_zip : ∀ {xs : List V} {vs : List Value} {kz : List PyData}, Vals xs vs → kz.length = xs.length → EachIs (fun u (b : V × PyData) => RelV b.1 u) vs (xs.zip kz)
  | _, _, [], .nil, _ => .nil
  | _, _, d :: kz, .cons r t, h => .cons r (each_zip t (by simpa using h))
  | _, _, [], .cons _ _, h => by simp at h
  | _, _, _ :: _, .nil, h => by simp at h

theorem sort_rest {X : Cx} {n : Nat} {f : Addr} {sp : Sp} (F : FnR X.prog X.w X.K X.mg X.base CX0 n f sp) {A' : Around} (sb : Sub X n A') {pins : List (Addr × Obj)} {σ : L2.St} {H : Hp} {a kS : Addr} {e1 : Nat} {kz : List PyData} {s : Shared} {xs : List V} {vs : List Value}
    (hka : kS ≠ a) (r : Vals xs vs) (hlen : kz.length = xs.length) (hZ : xs.length ≤ sizeLine) (hal : AllAlike kz) (hsk : Sortable kz) (hdep : ∀ d, d ∈ kz → A'.units + d.depth < cLine)
    (turn : ∀ (i : Nat) x d, xs[i]? = some x → kz[i]? = some d → ∀ H', Same H H' → sp [x] H' (fun v H'' => Same H' H'' ∧ Dp X.K H'' v d) E0)
    (J : KeyLoop X pins σ H a kS e1 kz 0 s) {P : PySem.Fin → Shared → Prop} {E : Value → Shared → Prop}
    (q : ∀ (H' : Hp) (s' : Shared) (out : List Value) (c : Nat), Inv X pins σ H' s' → Same H H' → FpOk X pins H' a → s'.heap.get? a = some (seqObj "list" out.toArray c) → Vals (byKeys xs kz) out → P (.done (.ret .none)) s') :
    wpAny (model X.prog X.w) A' (ksk_rest a (.ref f) false vs.toArray e1 (.ref kS)) P E s := by
  have hvl : vs.length = xs.length := r.length.symm
  unfold ksk_rest
  refine wpAny_bind (wpAny_rule ?_)
  rw [← Array.forIn_toList]
  refine wpAny_bind (ksk_fold (fun i s' => KeyLoop X pins σ H a kS e1 kz i s') vs 0 s J ?step ?done)
  case step =>
    intro j u s' hu J'
    simp only [Nat.zero_add] at J' ⊢
    have hj : j < vs.length := (List.getElem?_eq_some_iff.mp hu).1
    have hjx : j < xs.length := by omega
    obtain ⟨u', hu', ru⟩ := r.get (i := j) (List.getElem?_eq_getElem hjx)
    rw [hu] at hu'
    cases hu'
    have hjk : j < kz.length := by omega
    refine wpAny_bind (wpAny_attempt (wpAny_mono (key_turn F sb hka ru (List.getElem?_eq_getElem hjk) (turn j _ _ (List.getElem?_eq_getElem hjx) (List.getElem?_eq_getElem hjk)) J') (fun v s'' he => ?_) fun _ _ hF => hF))
    obtain ⟨kA, e, nk, hs, go⟩ := he
    try dsimp only
    have s1 := Heap.SameBut.update s''.heap kS (Obj.mapSeq (·.push v))
    have hks : kA.size ≤ sizeLine := by omega
    refine wpAny_bind (listUpdate_at nk rfl ?_ hks (Nat.le_trans (Nat.le_of_eq (Array.size_push ..)) (Nat.succ_le_succ hks)))
    exact wpAny_pure ⟨rfl, go _ (fun b o hb z => (s1.2 b hb).trans z) ⟨_, get?_update_seq nk (·.push v)⟩⟩
  case done =>
    intro s' J'
    obtain ⟨H', kA, e, I, sm, fa, fk, nk, na, ks⟩ := J'.ex
    rw [Nat.zero_add, hvl, ← hlen, List.take_length] at ks
    have hk' : EachIs (fun v k => ∃ as, Reads s'.heap v k as) kA.toList kz := EachIs.mono (fun u d ⟨z, rz, dz⟩ => Dp.reads I d z u dz rz) ks
    have hsz : kA.size = vs.length := by
      have h1 := hk'.length
      rw [Array.length_toList] at h1
      omega
    refine wpAny_bind (listItems_at nk rfl ?_)
    obtain ⟨g, g0, g1⟩ := heap_without s'.heap kS
    have kp : KeepsBut a g s'.heap := fun b o _ z => by
      by_cases hb : b = kS
      · rw [hb, g0] at z; cases z
      · rw [← g1 b hb]; exact z
    refine keyH_end (κ := dataKind s'.heap kz) (h₁ := g) kp g0 nk na hka (SortsAt.data hk' hal hsk hdep) hsz (by omega) fun h3 tk3 c k3 n3 => ?_
    have keep : ∀ b o, b ∉ [a, kS] → s'.heap.get? b = some o → h3.get? b = some o := fun b o hb z => by
      simp only [List.mem_cons, List.not_mem_nil, or_false, not_or] at hb
      exact k3 b o hb.1 (by rw [g1 b hb.2]; exact z)
    refine q H' _ _ c (I.turnedL (ch := [a, kS]) keep (fun b hb => ?_)) sm fa n3 ?_
    · rcases List.mem_cons.mp hb with rfl | hb
      · exact fa
      · rw [List.mem_singleton.mp hb]; exact fk
    · have ko : KeyedOut false ((xs.zip kz).map (·.2)) vs (sortVals (dataKind s'.heap kz) false kA.toList vs) := by
        rw [List.map_snd_zip (by omega)]
        exact ⟨s'.heap, kA.toList, hal, rfl, hk'⟩
      exact each_vals (keyedOut_each (·.2) ko (each_zip r hlen))

theorem sort_tree {X : Cx} {n : Nat} {f : Addr} {sp : Sp} (F : FnR X.prog X.w X.K X.mg X.base CX0 n f sp) {A' : Around} (sb : Sub X n A') {pins : List (Addr × Obj)} {σ : L2.St} {H : Hp} {kz : List PyData} {s : Shared} {xs : List V} {vs : List Value}
    (I : Inv X pins σ H s) (r : Vals xs vs) (hlen : kz.length = xs.length) (hZ : xs.length ≤ sizeLine) (hal : AllAlike kz) (hsk : Sortable kz) (hdep : ∀ d, d ∈ kz → A'.units + d.depth < cLine)
    (turn : ∀ (i : Nat) x d, xs[i]? = some x → kz[i]? = some d → ∀ H', Same H H' → sp [x] H' (fun v H'' => Same H' H'' ∧ Dp X.K H'' v d) E0)
    {P : PySem.Fin → Shared → Prop} {E : Value → Shared → Prop}
    (q : ∀ (H' : Hp) (s' : Shared), Inv X pins σ (upd H' s.heap.objs.size (.lst (byKeys xs kz))) s' → Same H H' → H' s.heap.objs.size = none → P (.done (.ret .none)) s') :
    wpAny (model X.prog X.w) A' (ksk_tree s.heap.objs.size (.ref f) false) P E { s with heap := s.heap.push (seqObj "list" vs.toArray 0) } := by
  have hvl : vs.length = xs.length := r.length.symm
  have hvz : vs.toArray.size ≤ sizeLine := by rw [List.size_toArray]; omega
  have ho : (s.heap.push (seqObj "list" vs.toArray 0)).get? s.heap.objs.size = some (seqObj "list" vs.toArray 0) := Heap.get?_push_size _ rfl
  have s1 := Heap.SameBut.update (s.heap.push (seqObj "list" vs.toArray 0)) s.heap.objs.size (Obj.mapSeq fun _ => (#[] : Array Value))
  obtain ⟨e1, ho1⟩ : ∃ e1, ((s.heap.push (seqObj "list" vs.toArray 0)).update s.heap.objs.size (Obj.mapSeq fun _ => (#[] : Array Value))).get? s.heap.objs.size = some (seqObj "list" #[] e1) :=
    ⟨_, get?_update_seq ho fun _ => #[]⟩
  have hk : (((s.heap.push (seqObj "list" vs.toArray 0)).update s.heap.objs.size (Obj.mapSeq fun _ => (#[] : Array Value))).push (seqObj "tuple" vs.toArray 0)).objs.size = s.heap.objs.size + 2 := by
    rw [size_push', Heap.size_update, size_push']
  have Ha : H s.heap.objs.size = none := I.hok.fresh (Nat.le_refl _)
  have Hk : H (s.heap.objs.size + 2) = none := I.hok.fresh (Nat.le_add_right _ _)
  unfold ksk_tree
  refine wpAny_bind (listItems_at ho rfl ?_)
  refine wpAny_bind (listUpdate_at ho rfl ?_ hvz (Nat.zero_le _))
  refine wpAny_bind (seqEpoch_at ho1 rfl ?_)
  refine wpAny_bind (wpAny_newTuple ?_ (by show vs.length ≤ _; omega))
  refine wpAny_bind (wpAny_newList ?_ (Nat.zero_le _))
  refine wpAny_holding ?_
  rw [hk]
  refine sort_rest F sb (pins := pins) (σ := σ) (H := H) (a := s.heap.objs.size) (kS := s.heap.objs.size + 2) (Nat.ne_of_gt (Nat.lt_add_of_pos_right (by decide))) r hlen hZ hal hsk hdep turn ⟨H, #[], 0, ?_, Same.refl H, I.fpOk (Nat.le_refl _) Ha, I.fpOk (Nat.le_add_right _ _) Hk, ?_, ?_, ?_⟩ ?_
  · exact I.kept (t' := s.toks) fun b o e => by
      refine Heap.get?_push_of_some _ (Heap.get?_push_of_some _ ?_)
      rw [s1.2 b (Nat.ne_of_lt (Heap.lt_size e))]
      exact Heap.get?_push_of_some _ e
  · have := Heap.get?_push_size (((s.heap.push (seqObj "list" vs.toArray 0)).update s.heap.objs.size (Obj.mapSeq fun _ => (#[] : Array Value))).push (seqObj "tuple" vs.toArray 0)) (o := seqObj "list" #[] 0) rfl
    rw [hk] at this
    exact this
  · exact Heap.get?_push_of_some _ (Heap.get?_push_of_some _ ho1)
  · rw [List.take_zero]
    exact EachIs.nil
  · intro H' s' out c I' sm fa na ro
    refine q H' s' ?_ sm fa.1
    have z : (byKeys xs kz).length ≤ sizeLine := by
      unfold byKeys
      rw [List.length_map, List.length_mergeSort, List.length_zip]
      omega
    exact I'.take (it := s.heap.objs.size) (t' := s'.toks) (fun b ob _ e => e) fa ⟨z, out, c, ro, na⟩

/-- sorted(xs, key=f), xs a list or a tuple: what it asks -/
def rSortKey (K : Frag) (f : Addr) (sp : Sp) : List V → List V → Hp → VK → Prop := fun vs zs H Q => ∃ (l : Addr) (xs : List V) (kz : List PyData), vs = [V.ref l] ∧ zs = [V.ref f] ∧ (SqL K H l xs ∨ SqT K H l xs) ∧
  kz.length = xs.length ∧ AllAlike kz ∧ Sortable kz ∧ (∀ d, d ∈ kz → d.depth ≤ 100) ∧
  (∀ (i : Nat) x d, xs[i]? = some x → kz[i]? = some d → ∀ H', Same H H' → sp [x] H' (fun v H'' => Same H' H'' ∧ Dp K H'' v d) E0) ∧
  ∀ (H' : Hp) (p : Addr), Same H H' → H' p = none → Q (.ref p) (upd H' p (.lst (byKeys xs kz)))

theorem cr_sortKey {X : Cx} {n : Nat} {f : Addr} {sp : Sp} (F : FnR X.prog X.w X.K X.mg X.base CX0 n f sp) (hr : Room (n + 2) X.A) : CallRK X (.builtin "sorted") [Str.ofString "key"] (rSortKey X.K f sp) := by
  intro pins s σ H vs zs us ws Q I r1 r2 h
  obtain ⟨l, xs, kz, rfl, rfl, hl, hlen, hal, hsk, hdep, turn, q⟩ := h
  obtain ⟨u, rfl, ru⟩ := r1.one
  obtain ⟨y, rfl, ry⟩ := r2.one
  cases ru
  cases ry
  show wpAny (model X.prog X.w) X.A (call (.builtin "sorted") [.ref l] [(Str.ofString "key", .ref f)]) (EP X pins σ Q) X.xe s
  have sb : Sub X n X.A.in1.in1 := Sub.in1 (Sub.in1 ⟨hr, rfl⟩)
  obtain ⟨T, o, its, k, hT, ho, hc, hd, r, z⟩ : ∃ (T : String) (o : Obj) (its : List Value) (k : Nat), (T = "list" ∨ T = "tuple") ∧ s.heap.get? l = some o ∧ o.cls = .type T ∧ o.data = .seq its.toArray k ∧ Vals xs its ∧ xs.length ≤ sizeLine := by
    rcases hl with hl | hl
    · obtain ⟨its, r, ⟨o, k, ho, hc, _, hd⟩, z⟩ := I.list hl
      exact ⟨"list", o, its, k, .inl rfl, ho, hc, hd, r, z⟩
    · obtain ⟨its, r, ⟨o, ho, hc, k, hd⟩, z⟩ := I.tuple hl
      exact ⟨"tuple", o, its, k, .inr rfl, ho, hc, hd, r, z⟩
  have hsz : its.length ≤ sizeLine := by rw [← r.length]; exact z
  refine call_function_entry_kw kind_sorted plain_sorted entry_sorted (ksk_s1 _ _) ?_
  unfold Builtin.«sorted»
  refine wpAny_bind (m := checkCount "sorted" 1 1 _) (wpAny_pure ?_)
  refine wpAny_bind (wpAny_collect_seq l hT ho hc hd (fun h' hk => ?_) (by rw [List.size_toArray]; exact hsz))
  have I1 : Inv X pins σ H { s with heap := h' } := I.kept (t' := s.toks) hk
  refine wpAny_bind (wpAny_newList ?_ hsz)
  refine wpAny_bind (wpAny_holding (wpAny_call_entry_kw slot_list_sort ⟨_, Heap.get?_push_size h' rfl, rfl⟩ entry_list_sort ?body (ksk_l1 _ _)))
  case body =>
    rw [ksk_t1]
    refine sort_tree F (s := { s with heap := h' }) sb I1 r hlen z hal hsk (fun d hd => ?_) turn fun H' s' J sm hn => ?_
    · have h1 := hr.un
      have h2 := hdep d hd
      show X.A.units + 1 + 1 + d.depth < cLine
      omega
    · exact ⟨.none, rfl, wpAny_pure ⟨_, rfl, ⟨V.ref h'.objs.size, _, J, rfl, q H' _ sm hn⟩⟩⟩
end Spk

set_option Elab.async false
set_option linter.all false
set_option maxRecDepth 100000
set_option maxHeartbeats 2000000
namespace Spk
open PySem PySem.Spec PyProof.Rows PySem.W L2

/-! ## operators of a class of the program's own -/
section
variable {X : Cx} {n : Nat} {C f : Addr} {sp : Sp}

theorem relR (a : Addr) : RelV (.ref a) (.ref a) := rfl
theorem relB (b : Bool) : RelV (.bl b) (.bool b) := rfl
theorem rel_back {w : V} {r : Value} {Q : Value → Shared → Prop} {s' : Shared} (h : RelV w r) (q : Q r s') : PySem.W.CmpBack Q r s' := by
  cases w with
  | non => cases h; exact q
  | bl b => cases h; exact q
  | int i => obtain ⟨t, rfl⟩ := h; exact q
  | str x => obtain ⟨t, rfl⟩ := h; exact q
  | byt x => obtain ⟨t, rfl⟩ := h; exact q
  | flt x => obtain ⟨t, rfl⟩ := h; exact q
  | ref a => cases h; exact q
  | ty n => cases h; exact q
theorem sub0 {k : Nat} (hr : Room k X.A) : Sub X k X.A := ⟨hr, rfl⟩

/-- an instance as the library's rules want it -/
theorem inst_of {pins : List (Addr × Obj)} {s : Shared} {σ : L2.St} {H : Hp} {a dx : Addr} {fs : List (Str × V)} (I : Inv X pins σ H s) (h : H a = some (.ins C dx fs)) :
    ∃ od, InstAt s.heap a (instObj C dx) C (some od) := by
  obtain ⟨mA, O, _⟩ := ins_get I.hok h
  obtain ⟨od, J, _⟩ := O.look
  exact ⟨od, J⟩

/-- a op b, both instances of C, by C's method -/
def rBin (C : Addr) (sp : Sp) : R2 := fun x y H Q => ∃ a b dx dy fs gs, x = .ref a ∧ y = .ref b ∧ H a = some (.ins C dx fs) ∧ H b = some (.ins C dy gs) ∧ sp [.ref a, .ref b] H Q E0
theorem op_own {op : Operator} (F : FnR X.prog X.w X.K X.mg X.base CX0 n f sp) (hr : Room n X.A) (hc : selfFirst X.K C = true) (hs : findIn X.K (.ref C) (PySem.dunder op.info.2) = some (some (.ref f))) (hf : isFn X.K (.ref f) = true) :
    OpR X (binaryOp op) (rBin C sp) := by
  intro pins s σ H x y v u Q I rx ry h
  obtain ⟨a, b, dx, dy, fs, gs, rfl, rfl, ha, hb, q⟩ := h
  cases rx
  cases ry
  obtain ⟨oa, ja⟩ := inst_of I ha
  obtain ⟨ob, jb⟩ := inst_of I hb
  obtain ⟨m, hF⟩ := I.fr
  refine binop_K hF I.ok.mod.kin ja jb.type hc hs hf ?_
  refine wpAny_mono (call_at F (sub0 hr) I (.cons (relR _) (.cons (relR _) .nil)) q) (fun r s' z => ?_) fun _ _ z => z
  obtain ⟨w, H', I', rw', q'⟩ := id z
  exact rel_back rw' z

/-- ~a -/
def rUno (C : Addr) (sp : Sp) : V → Hp → VK → Prop := fun x H Q => ∃ a dx fs, x = .ref a ∧ H a = some (.ins C dx fs) ∧ sp [.ref a] H Q E0
theorem un_own (F : FnR X.prog X.w X.K X.mg X.base CX0 n f sp) (hr : Room n X.A) (hs : findIn X.K (.ref C) "__invert__" = some (some (.ref f))) (hf : isFn X.K (.ref f) = true) :
    UnR X (unaryOp .Invert) (rUno C sp) := by
  intro pins s σ H x v Q I rx h
  obtain ⟨a, dx, fs, rfl, ha, q⟩ := h
  cases rx
  obtain ⟨oa, ja⟩ := inst_of I ha
  obtain ⟨m, hF⟩ := I.fr
  exact ksp_inv hF I.ok.mod.kin ja hs hf (call_at F (sub0 hr) I (.cons (relR _) .nil) q)

/-- x in a, x not in a -/
def rInO (C : Addr) (sp : Sp) (neg : Bool) : R2 := fun x y H Q => ∃ b dy gs, y = .ref b ∧ H b = some (.ins C dy gs) ∧ sp [.ref b, x] H (fun v H' => ∃ k, v = .bl k ∧ Q (.bl (if neg then !k else k)) H') E0
theorem op_inO (F : FnR X.prog X.w X.K X.mg X.base CX0 n f sp) (hr : Room n X.A) (hs : findIn X.K (.ref C) "__contains__" = some (some (.ref f))) (hf : isFn X.K (.ref f) = true) :
    OpR X (compareOp .In) (rInO C sp false) := by
  intro pins s σ H x y v u Q I rx ry h
  obtain ⟨b, dy, gs, rfl, hb, q⟩ := h
  cases ry
  obtain ⟨ob, jb⟩ := inst_of I hb
  obtain ⟨m, hF⟩ := I.fr
  refine in_K hF I.ok.mod.kin jb hs hf ?_
  refine wpAny_mono (call_at F (sub0 hr) I (.cons (relR _) (.cons rx .nil)) q) (fun r s' z => ?_) fun _ _ z => z
  obtain ⟨w, H', I', rw', k, rfl, q'⟩ := z
  cases rw'
  exact wpAny_truthy_bool ⟨_, H', I', relB _, q'⟩
theorem op_notInO (F : FnR X.prog X.w X.K X.mg X.base CX0 n f sp) (hr : Room n X.A) (hs : findIn X.K (.ref C) "__contains__" = some (some (.ref f))) (hf : isFn X.K (.ref f) = true) :
    OpR X (compareOp .NotIn) (rInO C sp true) := by
  intro pins s σ H x y v u Q I rx ry h
  obtain ⟨b, dy, gs, rfl, hb, q⟩ := h
  cases ry
  obtain ⟨ob, jb⟩ := inst_of I hb
  obtain ⟨m, hF⟩ := I.fr
  refine notIn_K hF I.ok.mod.kin jb hs hf ?_
  refine wpAny_mono (call_at F (sub0 hr) I (.cons (relR _) (.cons rx .nil)) q) (fun r s' z => ?_) fun _ _ z => z
  obtain ⟨w, H', I', rw', k, rfl, q'⟩ := z
  cases rw'
  exact wpAny_truthy_bool ⟨_, H', I', relB _, q'⟩

/-- a == y, a an instance of C with its own ==, y anything of a known type that is no subclass of C -/
def rEqO (K : Frag) (C : Addr) (sp : Sp) : R2 := fun x y H Q => ∃ a dx fs t, x = .ref a ∧ H a = some (.ins C dx fs) ∧ TyX K H y t ∧ notFirst K C t = true ∧ sp [.ref a, y] H (fun v H' => ∃ k, v = .bl k ∧ Q (.bl k) H') E0
theorem op_eqO (F : FnR X.prog X.w X.K X.mg X.base CX0 n f sp) (hr : Room n X.A) (hs : findIn X.K (.ref C) "__eq__" = some (some (.ref f))) (hf : isFn X.K (.ref f) = true) :
    OpR X (compareOp .Eq) (rEqO X.K C sp) := by
  intro pins s σ H x y v u Q I rx ry h
  obtain ⟨a, dx, fs, t, rfl, ha, ty, nf, q⟩ := h
  cases rx
  obtain ⟨oa, ja⟩ := inst_of I ha
  obtain ⟨m, hF⟩ := I.fr
  obtain ⟨P, kx, hp, _⟩ := kit_of I ry ty
  show wpAny (model X.prog X.w) X.A (richCompare .Eq (.ref a) u) (EP X pins σ Q) X.xe s
  refine cmp_K (op := .Eq) hr.units0 hF I.ok.mod.kin ja (kx.ty _ _ I.kIn hp) nf hs hf ?_
  refine wpAny_mono (call_at F (sub0 hr) I (.cons (relR _) (.cons ry .nil)) q) (fun r s' z => ?_) fun _ _ z => z
  obtain ⟨w, H', I', rw', k, rfl, q'⟩ := z
  cases rw'
  exact ⟨_, H', I', relB _, q'⟩

/-! ### a != y: object.__ne__ turns the own == round -/
theorem ifBoundB {M : Model} {A : Around} {E : Value → Shared → Prop} {s : Shared} {K : Frag} {x : Addr} {ox : Obj} {od : Option Obj} {name : Str} {id : String} {args : List Value} {Q : Option Value → Shared → Prop} (Xk : K.In s.heap) (I : InstAt s.heap x ox C od)
    (hs : findIn K (.ref C) name = some (some (.builtin id))) (hb : ∀ self, bindSpecial (.builtin id) self = pure (.builtin id, [self]))
    (h : wpAny M A (call (.builtin id) (.ref x :: args)) (fun v => Q (some v)) E s) : wpAny M A (callSpecialIfBound? (.ref x) name args) Q E s := by
  simp only [callSpecialIfBound?, bindSpecialIfBound?]
  refine wpAny_holding (wpAny_bind (wpAny_bind (wpAny_bind (I.type.here ((looks_findIn Xk hs).here ?_)))))
  simp only [hb]
  have fin : wpAny M A (call (.builtin id) ([.ref x] ++ args) >>= fun v => pure (some v)) Q E s :=
    wpAny_bind (wpAny_mono h (fun v s' z => wpAny_pure z) fun _ _ z => z)
  refine wpAny_bind (wpAny_askSetting (wpAny_ite ?_))
  split
  · exact wpAny_bind (wpAny_pure (wpAny_pure fin))
  · exact wpAny_tryCatch (wpAny_bind (wpAny_pure (wpAny_pure fin)))

theorem call_ne {pins : List (Addr × Obj)} {s : Shared} {σ : L2.St} {H : Hp} {a dx : Addr} {fs : List (Str × V)} {y : V} {u : Value} {Q : VK} {E : Value → Shared → Prop} {A : Around} (F : FnR X.prog X.w X.K X.mg X.base CX0 n f sp) (sb : Sub X (n + 1) A)
    (hs : findIn X.K (.ref C) "__eq__" = some (some (.ref f))) (hf : isFn X.K (.ref f) = true) (hob : subIn X.K (.ref C) (.type "object") = some true)
    (I : Inv X pins σ H s) (ha : H a = some (.ins C dx fs)) (ry : RelV y u) (q : sp [.ref a, y] H (fun v H' => ∃ k, v = .bl k ∧ Q (.bl (!k)) H') E0) :
    wpAny (model X.prog X.w) A (call (.builtin "object.__ne__") [.ref a, u]) (EP X pins σ fun v H' => (∃ k, v = .bl k) ∧ Q v H') E s := by
  obtain ⟨oa, ja⟩ := inst_of I ha
  have li : Looks (model X.prog X.w) s.heap (isInstance (.ref a) (.type "object")) true := ja.type.andThen (looks_subIn I.kIn hob)
  refine wpAny_call (codeAny_call_builtin PySem.F.cmp_object.ne.plain PySem.F.cmpEntry_ne (check_slot PySem.F.cmpKind_ne PySem.F.cmpSplit_ne li (PySem.F.cmpArgs_ne _ _) ?_))
  have body : wpAny (model X.prog X.w) A.in1 (Builtin.«object.__ne__» ⟨[.ref a, u], []⟩) (fun fin s' => ∃ v, fin = .done (.ret v) ∧ EP X pins σ (fun v H' => (∃ k, v = .bl k) ∧ Q v H') v s') (fun _ _ => False) s := by
    unfold Builtin.«object.__ne__»
    have hu : A.in1.units < cLine := sb.in1.room.units0
    refine wpAny_bind (wpAny_pure ?_)
    dsimp only
    refine wpAny_bind (wpAny_cRoomFor hu ?_)
    refine wpAny_bind (ifBound_K I.kIn ja hs hf (wpAny_mono (call_at F sb.in1 I (.cons (relR _) (.cons ry .nil)) q) (fun r s' z => ?_) fun _ _ z => z))
    obtain ⟨w, H', I', rw', k, rfl, q'⟩ := z
    cases rw'
    dsimp only
    refine wpAny_bind (wpAny_truthy_bool ?_)
    exact wpAny_pure ⟨_, rfl, _, H', I', relB _, ⟨_, rfl⟩, q'⟩
  refine wpAny_mono body (fun fin s' z => ?_) fun _ _ z => z.elim
  obtain ⟨v, rfl, z⟩ := z
  exact z
end
end Spk

set_option Elab.async false
set_option linter.all false
set_option maxRecDepth 100000
set_option maxHeartbeats 2000000
namespace Spk
open PySem PySem.Spec PyProof.Rows PySem.W L2
open AutoSeq1 (wpAny_loadPart')
open MeetsSeq MeetsSeq2 MeetsSeq3 SeqRoads2

/-! ## built-in == and != decline an instance of an own class -/
section
variable {prog : Program} {w : World} {x C dx : Addr}
theorem int_eq_dec (b : Int) (u : Tok) : Meets (Builtin.«int.__eq__» ⟨[.int b u, .ref x], []⟩) (fun _ R s => s.heap.get? x = some (instObj C dx) ∧ R (.ok (.ret .notImplemented)) s) :=
  .of_wp fun prog w A R s h => by obtain ⟨hp, g, d, tk, os⟩ := s; obtain ⟨hl, h⟩ := h; unfold instObj at hl; wp_walk using wpAny_loadPart' hl, wpAny_load hl; exact ⟨_, rfl, h⟩
theorem int_ne_dec (b : Int) (u : Tok) : Meets (Builtin.«int.__ne__» ⟨[.int b u, .ref x], []⟩) (fun _ R s => s.heap.get? x = some (instObj C dx) ∧ R (.ok (.ret .notImplemented)) s) :=
  .of_wp fun prog w A R s h => by obtain ⟨hp, g, d, tk, os⟩ := s; obtain ⟨hl, h⟩ := h; unfold instObj at hl; wp_walk using wpAny_loadPart' hl, wpAny_load hl; exact ⟨_, rfl, h⟩
theorem bool_eq_dec (b : Bool) : Meets (Builtin.«int.__eq__» ⟨[.bool b, .ref x], []⟩) (fun _ R s => s.heap.get? x = some (instObj C dx) ∧ R (.ok (.ret .notImplemented)) s) :=
  .of_wp fun prog w A R s h => by obtain ⟨hp, g, d, tk, os⟩ := s; obtain ⟨hl, h⟩ := h; unfold instObj at hl; wp_walk using wpAny_loadPart' hl, wpAny_load hl; exact ⟨_, rfl, h⟩
theorem bool_ne_dec (b : Bool) : Meets (Builtin.«int.__ne__» ⟨[.bool b, .ref x], []⟩) (fun _ R s => s.heap.get? x = some (instObj C dx) ∧ R (.ok (.ret .notImplemented)) s) :=
  .of_wp fun prog w A R s h => by obtain ⟨hp, g, d, tk, os⟩ := s; obtain ⟨hl, h⟩ := h; unfold instObj at hl; wp_walk using wpAny_loadPart' hl, wpAny_load hl; exact ⟨_, rfl, h⟩
theorem str_eq_dec (b : Str) (u : Tok) : Meets (Builtin.«str.__eq__» ⟨[.str b u, .ref x], []⟩) (fun _ R s => s.heap.get? x = some (instObj C dx) ∧ R (.ok (.ret .notImplemented)) s) :=
  .of_wp fun prog w A R s h => by obtain ⟨hp, g, d, tk, os⟩ := s; obtain ⟨hl, h⟩ := h; unfold instObj at hl; wp_walk using wpAny_loadPart' hl, wpAny_load hl; exact ⟨_, rfl, h⟩
theorem str_ne_dec (b : Str) (u : Tok) : Meets (Builtin.«str.__ne__» ⟨[.str b u, .ref x], []⟩) (fun _ R s => s.heap.get? x = some (instObj C dx) ∧ R (.ok (.ret .notImplemented)) s) :=
  .of_wp fun prog w A R s h => by obtain ⟨hp, g, d, tk, os⟩ := s; obtain ⟨hl, h⟩ := h; unfold instObj at hl; wp_walk using wpAny_loadPart' hl, wpAny_load hl; exact ⟨_, rfl, h⟩
end

/-- values of built-in kinds that an instance is compared with -/
inductive Odd (H : Hp) : V → String → Prop where
  | non : Odd H .non "NoneType"
  | bl (b : Bool) : Odd H (.bl b) "bool"
  | int (i : Int) : Odd H (.int i) "int"
  | str (x : Str) : Odd H (.str x) "str"
  | lst {a : Addr} {xs : List V} (h : H a = some (.lst xs)) : Odd H (.ref a) "list"
  | tup {a : Addr} {xs : List V} (h : H a = some (.tup xs)) : Odd H (.ref a) "tuple"
theorem Odd.ty {K : Frag} {H : Hp} {y : V} {T : String} (h : Odd H y T) : TyX K H y (.type T) := by
  cases h with
  | non => exact .base .non
  | bl b => exact .base (.bl b)
  | int i => exact .base (.int i)
  | str x => exact .base (.str x)
  | lst h => exact .base (.lst h)
  | tup h => exact .base (.tup h)

/-- what the text says of a class: it is over no built-in type -/
structure Bare (K : Frag) (C : Addr) : Prop where
  o : subIn K (.ref C) (.type "object") = some true
  n : subIn K (.ref C) (.type "NoneType") = some false
  b : subIn K (.ref C) (.type "bool") = some false
  i : subIn K (.ref C) (.type "int") = some false
  s : subIn K (.ref C) (.type "str") = some false
  l : subIn K (.ref C) (.type "list") = some false
  t : subIn K (.ref C) (.type "tuple") = some false
theorem Bare.odd {K : Frag} {C : Addr} {H : Hp} {y : V} {T : String} (B : Bare K C) (h : Odd H y T) : subIn K (.ref C) (.type T) = some false := by
  cases h with
  | non => exact B.n
  | bl b => exact B.b
  | int i => exact B.i
  | str x => exact B.s
  | lst h => exact B.l
  | tup h => exact B.t

section
variable {X : Cx} {pins : List (Addr × Obj)} {s : Shared} {σ : L2.St} {H : Hp} {a C dx : Addr} {fs : List (Str × V)} {y : V} {u : Value} {T : String} {A : Around} {E : Value → Shared → Prop} {Q : Option Value → Shared → Prop}
theorem list_dec {l : Addr} {T : String} {name : Str} {id : String} {B : Builtin} (I : Inv X pins σ H s) (ha : H a = some (.ins C dx fs)) (hno : subIn X.K (.ref C) (.type T) = some false) (slot : Slot T name id) (hT : s.TypeIs (.ref l) T)
    (entry : entryFor table id = some B) (args : argsOk id ⟨[.ref l, .ref a], []⟩)
    (hB : ∀ (A : Around) (P : PySem.Fin → Shared → Prop) (E : Value → Shared → Prop), Looks (model X.prog X.w) s.heap (isInstance (.ref a) (.type T)) false → P (.done (.ret .notImplemented)) s → wpAny (model X.prog X.w) A (B ⟨[.ref l, .ref a], []⟩) P E s)
    (q : Q none s) : wpAny (model X.prog X.w) A (tryCompare (.ref l) name (.ref a)) Q E s := by
  obtain ⟨oa, ja⟩ := inst_of I ha
  have li : Looks (model X.prog X.w) s.heap (isInstance (.ref a) (.type T)) false := ja.type.andThen (looks_subIn I.kIn hno)
  refine wpAny_tryCompare_declines hT slot ?_
  refine GQ.call_here slot hT entry args ?_
  exact hB _ _ _ li ⟨rfl, q⟩
theorem try_dec_eq (B : Bare X.K C) (I : Inv X pins σ H s) (ha : H a = some (.ins C dx fs)) (o : Odd H y T) (ry : RelV y u) (q : Q none s) : wpAny (model X.prog X.w) A (tryCompare u "__eq__" (.ref a)) Q E s := by
  obtain ⟨oa, ja⟩ := inst_of I ha
  cases o with
  | non =>
    cases ry
    exact wpAny_tryCompare_declines (T := "NoneType") rfl PySem.F.slot_NoneType_eq (call_gives PySem.F.slot_NoneType_eq rfl PySem.F.entry_NoneType_eq (PySem.F.args_NoneType_eq_2 _ _) (SeqAt.NoneType___eq___none_ref_0 a) (show _ ∧ _ from ⟨rfl, q⟩))
  | bl b =>
    cases ry
    exact wpAny_tryCompare_declines (T := "bool") rfl PySem.F.slot_bool_eq (call_meets PySem.F.slot_bool_eq rfl PySem.F.entry_int_eq (PySem.F.args_int_eq_2 _ _) (bool_eq_dec (C := C) (dx := dx) b) ⟨ja.at_, rfl, q⟩)
  | int i =>
    obtain ⟨t, rfl⟩ := ry
    exact wpAny_tryCompare_declines (T := "int") (typeIs_int s i t) PySem.F.slot_int_eq (call_meets PySem.F.slot_int_eq (typeIs_int s i t) PySem.F.entry_int_eq (PySem.F.args_int_eq_2 _ _) (int_eq_dec (C := C) (dx := dx) i t) ⟨ja.at_, rfl, q⟩)
  | str x =>
    obtain ⟨t, rfl⟩ := ry
    exact wpAny_tryCompare_declines (T := "str") (typeIs_str s x t) PySem.F.slot_str_eq (call_meets PySem.F.slot_str_eq (typeIs_str s x t) PySem.F.entry_str_eq (PySem.F.args_str_eq_2 _ _) (str_eq_dec (C := C) (dx := dx) x t) ⟨ja.at_, rfl, q⟩)
  | lst h =>
    cases ry
    obtain ⟨_, its, k, _, e⟩ := (show ObjOk X.prog X.w H s.heap _ (.lst _) from I.hok _ _ h)
    refine list_dec I ha B.l PySem.F.slot_list_eq ⟨_, e, rfl⟩ PySem.F.entry_list_eq (PySem.F.args_list_eq_2 _ _) (fun A P E li q => ?_) q
    obtain ⟨hp, g, d, tk, os⟩ := s
    wp_walk using li.here
    exact q
  | tup h =>
    cases ry
    obtain ⟨_, its, _, o, e, c⟩ := (show ObjOk X.prog X.w H s.heap _ (.tup _) from I.hok _ _ h)
    refine list_dec I ha B.t PySem.F.slot_tuple_eq ⟨_, e, c.1⟩ PySem.F.entry_tuple_eq (PySem.F.args_tuple_eq_2 _ _) (fun A P E li q => ?_) q
    obtain ⟨hp, g, d, tk, os⟩ := s
    wp_walk using li.here
    exact q
theorem try_dec_ne (B : Bare X.K C) (I : Inv X pins σ H s) (ha : H a = some (.ins C dx fs)) (o : Odd H y T) (ry : RelV y u) (q : Q none s) : wpAny (model X.prog X.w) A (tryCompare u "__ne__" (.ref a)) Q E s := by
  obtain ⟨oa, ja⟩ := inst_of I ha
  cases o with
  | non =>
    cases ry
    exact wpAny_tryCompare_declines (T := "NoneType") rfl PySem.F.slot_NoneType_ne (call_gives PySem.F.slot_NoneType_ne rfl PySem.F.entry_NoneType_ne (PySem.F.args_NoneType_ne_2 _ _) (SeqAt.NoneType___ne___none_ref_0 a) (show _ ∧ _ from ⟨rfl, q⟩))
  | bl b =>
    cases ry
    exact wpAny_tryCompare_declines (T := "bool") rfl PySem.F.slot_bool_ne (call_meets PySem.F.slot_bool_ne rfl PySem.F.entry_int_ne (PySem.F.args_int_ne_2 _ _) (bool_ne_dec (C := C) (dx := dx) b) ⟨ja.at_, rfl, q⟩)
  | int i =>
    obtain ⟨t, rfl⟩ := ry
    exact wpAny_tryCompare_declines (T := "int") (typeIs_int s i t) PySem.F.slot_int_ne (call_meets PySem.F.slot_int_ne (typeIs_int s i t) PySem.F.entry_int_ne (PySem.F.args_int_ne_2 _ _) (int_ne_dec (C := C) (dx := dx) i t) ⟨ja.at_, rfl, q⟩)
  | str x =>
    obtain ⟨t, rfl⟩ := ry
    exact wpAny_tryCompare_declines (T := "str") (typeIs_str s x t) PySem.F.slot_str_ne (call_meets PySem.F.slot_str_ne (typeIs_str s x t) PySem.F.entry_str_ne (PySem.F.args_str_ne_2 _ _) (str_ne_dec (C := C) (dx := dx) x t) ⟨ja.at_, rfl, q⟩)
  | lst h =>
    cases ry
    obtain ⟨_, its, k, _, e⟩ := (show ObjOk X.prog X.w H s.heap _ (.lst _) from I.hok _ _ h)
    refine list_dec I ha B.l PySem.F.slot_list_ne ⟨_, e, rfl⟩ PySem.F.entry_list_ne (PySem.F.args_list_ne_2 _ _) (fun A P E li q => ?_) q
    obtain ⟨hp, g, d, tk, os⟩ := s
    wp_walk using li.here
    exact q
  | tup h =>
    cases ry
    obtain ⟨_, its, _, o, e, c⟩ := (show ObjOk X.prog X.w H s.heap _ (.tup _) from I.hok _ _ h)
    refine list_dec I ha B.t PySem.F.slot_tuple_ne ⟨_, e, c.1⟩ PySem.F.entry_tuple_ne (PySem.F.args_tuple_ne_2 _ _) (fun A P E li q => ?_) q
    obtain ⟨hp, g, d, tk, os⟩ := s
    wp_walk using li.here
    exact q
end

/-! ### the comparison itself -/
section
variable {X : Cx} {n : Nat} {C f : Addr} {sp : Sp}
theorem rc_right {op : CmpOp} {M : Model} {A : Around} {E : Value → Shared → Prop} {s : Shared} {u b : Value} {T : String} {Q : Value → Shared → Prop} (h1 : oneThing? op u b = none) (hu : A.units < cLine)
    (lu : Looks M s.heap (typeOf u) (.type T)) (lb : Looks M s.heap (typeOf b) (.ref C)) (ls : Looks M s.heap (isSubtype (.ref C) (.type T)) false)
    (d : ∀ Q' : Option Value → Shared → Prop, Q' none s → wpAny M A (tryCompare u (cmpInfo op).2.1 b) Q' E s)
    (h : wpAny M A (tryCompare b (cmpInfo op).2.2 u) (fun r s' => ∃ v, r = some v ∧ Q v s') E s) : wpAny M A (richCompare op u b) Q E s := by
  unfold richCompare
  simp only [h1]
  refine wpAny_holding (wpAny_bind (wpAny_cRoomFor hu ?_))
  refine wpAny_bind (lu.here (wpAny_bind (lb.here ?_)))
  rw [if_pos (by simp)]
  refine wpAny_bind (ls.here ?_)
  simp only [Bool.false_eq_true, if_false]
  refine wpAny_bind (d _ ?_)
  simp only [Bool.not_false, if_true]
  refine wpAny_bind (wpAny_mono h (fun r s' z => ?_) fun _ _ z => z)
  obtain ⟨v, rfl, q⟩ := z
  exact wpAny_pure q
theorem rc_left {op : CmpOp} {M : Model} {A : Around} {E : Value → Shared → Prop} {s : Shared} {a b tb : Value} {Q : Value → Shared → Prop} (h1 : oneThing? op a b = none) (hu : A.units < cLine)
    (la : Looks M s.heap (typeOf a) (.ref C)) (lb : Looks M s.heap (typeOf b) tb) (ls : tb = .ref C ∨ Looks M s.heap (isSubtype tb (.ref C)) false)
    (h : wpAny M A (tryCompare a (cmpInfo op).2.1 b) (fun r s' => ∃ v, r = some v ∧ Q v s') E s) : wpAny M A (richCompare op a b) Q E s := by
  unfold richCompare
  simp only [h1]
  refine wpAny_holding (wpAny_bind (wpAny_cRoomFor hu ?_))
  refine wpAny_bind (la.here (wpAny_bind (lb.here ?_)))
  have go : ∀ k : Sem Bool, Looks M s.heap k false → wpAny M A (do
      let rightFirst ← k
      if rightFirst then
        if let some v ← tryCompare b (cmpInfo op).2.2 a then rule "compare.subclass-reflected-first"; return v
      if let some v ← tryCompare a (cmpInfo op).2.1 b then return v
      if !rightFirst then
        if let some v ← tryCompare b (cmpInfo op).2.2 a then return v
      match op with
      | .Eq => rule "compare.eq-identity"; return .bool (← isSame a b)
      | .NotEq => rule "compare.ne-identity"; return .bool (!(← isSame a b))
      | _ =>
        rule "compare.unsupported"
        raiseError "TypeError" s!"'{(cmpInfo op).1}' not supported between instances of '{← typeNameOf a}' and '{← typeNameOf b}'") Q E s := by
    intro k lk
    refine wpAny_bind (lk.here ?_)
    simp only [Bool.false_eq_true, if_false]
    refine wpAny_bind (wpAny_mono h (fun r s' z => ?_) fun _ _ z => z)
    obtain ⟨v, rfl, q⟩ := z
    exact wpAny_pure q
  rcases ls with rfl | ls
  · rw [if_neg (by simp)]
    exact go _ .now
  · by_cases e : (Value.ref C != tb) = true
    · rw [if_pos e]
      exact go _ ls
    · rw [if_neg e]
      exact go _ .now

theorem try_ne {pins : List (Addr × Obj)} {s : Shared} {σ : L2.St} {H : Hp} {a dx : Addr} {fs : List (Str × V)} {y : V} {u : Value} {Q : VK} {E : Value → Shared → Prop} (F : FnR X.prog X.w X.K X.mg X.base CX0 n f sp) (hr : Room (n + 1) X.A)
    (hs : findIn X.K (.ref C) "__eq__" = some (some (.ref f))) (hn : findIn X.K (.ref C) "__ne__" = some (some (.builtin "object.__ne__"))) (hf : isFn X.K (.ref f) = true) (B : Bare X.K C)
    (I : Inv X pins σ H s) (ha : H a = some (.ins C dx fs)) (ry : RelV y u) (q : sp [.ref a, y] H (fun v H' => ∃ k, v = .bl k ∧ Q (.bl (!k)) H') E0) :
    wpAny (model X.prog X.w) X.A (tryCompare (.ref a) "__ne__" u) (fun r s' => ∃ v, r = some v ∧ EP X pins σ Q v s') E s := by
  obtain ⟨oa, ja⟩ := inst_of I ha
  unfold tryCompare
  refine wpAny_bind (ifBoundB I.kIn ja hn PySem.F.cmp_object.ne.bind (wpAny_mono (call_ne F (sub0 hr) hs hf B.o I ha ry q) (fun v s' z => ?_) fun _ _ z => z))
  obtain ⟨w, H', I', rw', ⟨k, rfl⟩, q'⟩ := z
  cases rw'
  exact wpAny_pure ⟨_, rfl, _, H', I', relB _, q'⟩

/-- what the text says of a class with its own == and none of the other comparisons -/
structure OwnEq (K : Frag) (C f : Addr) : Prop where
  eq : findIn K (.ref C) "__eq__" = some (some (.ref f))
  ne : findIn K (.ref C) "__ne__" = some (some (.builtin "object.__ne__"))
  fn : isFn K (.ref f) = true
  bare : Bare K C

/-- a != y, a an instance of C -/
def rNeO (K : Frag) (C : Addr) (sp : Sp) : R2 := fun x y H Q => ∃ a dx fs t, x = .ref a ∧ H a = some (.ins C dx fs) ∧ TyX K H y t ∧ notFirst K C t = true ∧ sp [.ref a, y] H (fun v H' => ∃ k, v = .bl k ∧ Q (.bl (!k)) H') E0
theorem op_neO (F : FnR X.prog X.w X.K X.mg X.base CX0 n f sp) (hr : Room (n + 1) X.A) (O : OwnEq X.K C f) : OpR X (compareOp .NotEq) (rNeO X.K C sp) := by
  intro pins s σ H x y v u Q I rx ry h
  obtain ⟨a, dx, fs, t, rfl, ha, ty, nf, q⟩ := h
  cases rx
  obtain ⟨oa, ja⟩ := inst_of I ha
  obtain ⟨P, kx, hp, _⟩ := kit_of I ry ty
  show wpAny (model X.prog X.w) X.A (richCompare .NotEq (.ref a) u) (EP X pins σ Q) X.xe s
  refine rc_left (op := .NotEq) (C := C) (tb := t) (oneThing_ref ..) hr.units0 ja.type (kx.ty _ _ I.kIn hp) ?_ (try_ne F hr O.eq O.ne O.fn O.bare I ha ry q)
  rcases Bool.or_eq_true_iff.mp nf with e | e
  · exact .inl (beq_iff_eq.mp e)
  · exact .inr (looks_subIn I.kIn (beq_iff_eq.mp e))

/-- y == a, y != a, y of a built-in kind, a an instance of C -/
def rEqR (K : Frag) (C : Addr) (sp : Sp) : R2 := fun y x H Q => ∃ a dx fs T, x = .ref a ∧ H a = some (.ins C dx fs) ∧ Odd H y T ∧ sp [.ref a, y] H (fun v H' => ∃ k, v = .bl k ∧ Q (.bl k) H') E0
def rNeR (K : Frag) (C : Addr) (sp : Sp) : R2 := fun y x H Q => ∃ a dx fs T, x = .ref a ∧ H a = some (.ins C dx fs) ∧ Odd H y T ∧ sp [.ref a, y] H (fun v H' => ∃ k, v = .bl k ∧ Q (.bl (!k)) H') E0
theorem one_odd {op : CmpOp} {H : Hp} {y : V} {T : String} {u : Value} {a : Addr} (o : Odd H y T) (ry : RelV y u) : oneThing? op u (.ref a) = none := by
  cases o with
  | non => cases ry; rfl
  | bl b => cases ry; rfl
  | int i => obtain ⟨t, rfl⟩ := ry; rfl
  | str x => obtain ⟨t, rfl⟩ := ry; rfl
  | lst h => cases ry; exact oneThing_ref ..
  | tup h => cases ry; exact oneThing_ref ..
theorem op_eqR (F : FnR X.prog X.w X.K X.mg X.base CX0 n f sp) (hr : Room (n + 1) X.A) (O : OwnEq X.K C f) : OpR X (compareOp .Eq) (rEqR X.K C sp) := by
  intro pins s σ H y x u v Q I ry rx h
  obtain ⟨a, dx, fs, T, rfl, ha, o, q⟩ := h
  cases rx
  obtain ⟨oa, ja⟩ := inst_of I ha
  obtain ⟨P, kx, hp, _⟩ := kit_of I ry (o.ty (K := X.K))
  show wpAny (model X.prog X.w) X.A (richCompare .Eq u (.ref a)) (EP X pins σ Q) X.xe s
  refine rc_right (op := .Eq) (C := C) (T := T) (one_odd o ry) hr.units0 (kx.ty _ _ I.kIn hp) ja.type (looks_subIn I.kIn (O.bare.odd o)) (fun Q' z => try_dec_eq O.bare I ha o ry z) ?_
  unfold tryCompare
  refine wpAny_bind (ifBound_K I.kIn ja O.eq O.fn (wpAny_mono (call_at F (sub0 (hr.mono (Nat.le_succ _))) I (.cons (relR _) (.cons ry .nil)) q) (fun r s' z => ?_) fun _ _ z => z))
  obtain ⟨w, H', I', rw', k, rfl, q'⟩ := z
  cases rw'
  exact wpAny_pure ⟨_, rfl, _, H', I', relB _, q'⟩
theorem op_neR (F : FnR X.prog X.w X.K X.mg X.base CX0 n f sp) (hr : Room (n + 1) X.A) (O : OwnEq X.K C f) : OpR X (compareOp .NotEq) (rNeR X.K C sp) := by
  intro pins s σ H y x u v Q I ry rx h
  obtain ⟨a, dx, fs, T, rfl, ha, o, q⟩ := h
  cases rx
  obtain ⟨oa, ja⟩ := inst_of I ha
  obtain ⟨P, kx, hp, _⟩ := kit_of I ry (o.ty (K := X.K))
  show wpAny (model X.prog X.w) X.A (richCompare .NotEq u (.ref a)) (EP X pins σ Q) X.xe s
  exact rc_right (op := .NotEq) (C := C) (T := T) (one_odd o ry) hr.units0 (kx.ty _ _ I.kIn hp) ja.type (looks_subIn I.kIn (O.bare.odd o)) (fun Q' z => try_dec_ne O.bare I ha o ry z) (try_ne F hr O.eq O.ne O.fn O.bare I ha ry q)
end
end Spk

set_option Elab.async false
set_option linter.all false
set_option maxRecDepth 100000
set_option maxHeartbeats 2000000
namespace Spk
open PySem PySem.Spec PyProof.Rows PySem.W L2
open PySem.Sem (wp)

/-! ## bool(t) of a tuple, bool(a) and the truth of an instance by its own __bool__ -/
theorem bool_new_in {prog : Program} {w : World} (x : Value) : MeetsIn prog w (Builtin.«bool.__new__» ⟨[.type "bool", x], []⟩)
    (fun A R s => wpAny (model prog w) A.in1 (truthy x) (fun b s' => R (.ok (.ret (.bool b))) s') (fun e s' => R (.error e) s') s) := fun A R s h => by
  have f1 := F.conv_sub_bool
  obtain ⟨hp, g, d, tk, os⟩ := s
  repeat (any_goals (first | assumption | (with_reducible refine wpAny_bind (m := truthy x) (wpAny_mono h (fun b s' z => ?_) fun _ _ z => z)) | wp_step))
  all_goals first | exact ⟨_, rfl, z⟩ | exact z | skip

section
variable {X : Cx} {n : Nat} {C f : Addr} {sp : Sp}
theorem call_bool_by {A : Around} {E : Value → Shared → Prop} {s : Shared} {x : Value} {Q : Value → Shared → Prop} (h : wpAny (model X.prog X.w) A.in1.in1 (truthy x) (fun b s' => Q (.bool b) s') E s) :
    wpAny (model X.prog X.w) A (call (.type "bool") [x]) Q E s :=
  callType_newIn PySem.F.called_bool PySem.F.newNe_bool (PySem.F.typeCall_bool_1 x) (PySem.F.newCall_bool_1 x) (fun obj => PySem.F.args_object_init_2 obj x) PySem.F.entry_bool_new (bool_new_in x)
    (wpAny_mono h (fun b s' z => ⟨rfl, z⟩) fun _ _ z => z)

/-- bool(t), t a tuple -/
theorem call_boolT : CallR X (.type "bool") (fun xs H Q => ∃ (a : Addr) (zs : List V), xs = [.ref a] ∧ SqT X.K H a zs ∧ Q (.bl (!zs.isEmpty)) H) := by
  intro pins s σ H xs us Q I r h
  obtain ⟨a, zs, rfl, hq, q⟩ := h
  obtain rfl := Vals.ref1 r
  obtain ⟨its, rv, pl, hz⟩ := I.tuple hq
  have hl := line63
  have hlen := rv.length
  refine call_bool_by (truthy_tuple pl (by simp only [List.size_toArray]; omega) ?_)
  exact ⟨.bl (!zs.isEmpty), H, I.tok _, by rw [isEmpty_of rv]; rfl, q⟩

/-- the truth of an instance of C -/
def rTruO (C : Addr) (sp : Sp) : V → Hp → (Bool → Hp → Prop) → Prop := fun x H Q => ∃ a dx fs, x = .ref a ∧ H a = some (.ins C dx fs) ∧ sp [.ref a] H (fun v H' => ∃ k, v = .bl k ∧ Q k H') E0
theorem truthy_own {A : Around} {E : Value → Shared → Prop} {pins : List (Addr × Obj)} {s : Shared} {σ : L2.St} {H : Hp} {x : V} {u : Value} {Q : Bool → Hp → Prop} (F : FnR X.prog X.w X.K X.mg X.base CX0 n f sp) (sb : Sub X n A)
    (hs : findIn X.K (.ref C) "__bool__" = some (some (.ref f))) (hf : isFn X.K (.ref f) = true) (I : Inv X pins σ H s) (rx : RelV x u) (h : rTruO C sp x H Q) : wpAny (model X.prog X.w) A (truthy u) (TP X pins σ Q) E s := by
  obtain ⟨a, dx, fs, rfl, ha, q⟩ := h
  cases rx
  obtain ⟨oa, ja⟩ := inst_of I ha
  obtain ⟨m, hF⟩ := I.fr
  refine truthy_K hF I.ok.mod.kin ja hs hf (wpAny_mono (call_at F sb I (.cons (relR _) .nil) q) (fun r s' z => ?_) fun _ _ z => z)
  obtain ⟨w, H', I', rw', k, rfl, q'⟩ := z
  cases rw'
  exact ⟨H', I', q'⟩
/-- bool(a) -/
theorem call_boolO (F : FnR X.prog X.w X.K X.mg X.base CX0 n f sp) (hr : Room (n + 2) X.A) (hs : findIn X.K (.ref C) "__bool__" = some (some (.ref f))) (hf : isFn X.K (.ref f) = true) :
    CallR X (.type "bool") (fun xs H Q => ∃ x, xs = [x] ∧ rTruO C sp x H (fun k H' => Q (.bl k) H')) := by
  intro pins s σ H xs us Q I r h
  obtain ⟨x, rfl, h⟩ := h
  obtain ⟨u, rfl, ru⟩ := r.one
  refine call_bool_by (wpAny_mono (truthy_own F (Sub.in1 (Sub.in1 (sub0 hr))) hs hf I ru h) (fun b s' z => ?_) fun _ _ z => z)
  obtain ⟨H', I', q'⟩ := z
  exact ⟨_, H', I', relB _, q'⟩
end
end Spk

set_option linter.all false
namespace Spk
abbrev Stc := Option Int × Option Int
def has1 (s : Stc) (n : Int) : Bool := (match s.1 with | none => true | some l => decide (l ≤ n)) && (match s.2 with | none => true | some h => decide (n ≤ h))
def hasL (ss : List Stc) (n : Int) : Bool := ss.any fun s => has1 s n
def NE (s : Stc) : Prop := ∀ l h, s.1 = some l → s.2 = some h → l ≤ h
def Apart (a b : Stc) : Prop := ∃ h l, a.2 = some h ∧ b.1 = some l ∧ h + 1 < l
structure Canon (ps : List Stc) : Prop where
  ne : ∀ s, s ∈ ps → NE s
  ap : ps.Pairwise Apart
def touchB (hi lo : Option Int) : Bool := match lo, hi with
  | none, _ => true
  | _, none => true
  | some l, some h => decide (l ≤ h + 1)
def laterE (a b : Option Int) : Option Int := match a, b with
  | none, _ => none
  | _, none => none
  | some x, some y => some (if y > x then y else x)
def joinF (acc : List Stc) (s : Stc) : List Stc := match acc.getLast? with
  | none => acc ++ [s]
  | some p => if touchB p.2 s.1 = true then acc.dropLast ++ [(p.1, laterE p.2 s.2)] else acc ++ [s]
def lowLe (a b : Option Int) : Prop := match a, b with
  | none, _ => True
  | some _, none => False
  | some i, some j => i ≤ j
theorem has1_of {s : Stc} {n : Int} (h1 : ∀ k, s.1 = some k → k ≤ n) (h2 : ∀ k, s.2 = some k → n ≤ k) : has1 s n = true := by
  obtain ⟨l, r⟩ := s
  cases l <;> cases r <;> simp_all [has1]
theorem hasL_append (a b : List Stc) (n : Int) : hasL (a ++ b) n = (hasL a n || hasL b n) := by simp [hasL, List.any_append]
theorem hasL_one (s : Stc) (n : Int) : hasL [s] n = has1 s n := by simp [hasL]
theorem hasL_cons (s : Stc) (b : List Stc) (n : Int) : hasL (s :: b) n = (has1 s n || hasL b n) := by simp [hasL]
theorem hasL_nil (n : Int) : hasL [] n = false := rfl

theorem join_has (p s : Stc) (n : Int) (hp : NE p) (hs : NE s) (hl : lowLe p.1 s.1) (ht : touchB p.2 s.1 = true) : has1 (p.1, laterE p.2 s.2) n = (has1 p n || has1 s n) := by
  obtain ⟨pl, ph⟩ := p
  obtain ⟨sl, sh⟩ := s
  rw [Bool.eq_iff_iff]
  cases pl <;> cases ph <;> cases sl <;> cases sh <;> simp_all [has1, laterE, touchB, lowLe, NE]
  all_goals (try split)
  all_goals (try omega)
theorem join_ne (p s : Stc) (hp : NE p) : NE (p.1, laterE p.2 s.2) := by
  obtain ⟨pl, ph⟩ := p
  obtain ⟨sl, sh⟩ := s
  intro l h h1 h2
  cases ph <;> cases sh <;> simp_all [laterE]
  have := hp l _ rfl rfl
  split at h2 <;> omega
theorem notouch {p s : Stc} (h : touchB p.2 s.1 = false) : Apart p s := by
  obtain ⟨pl, ph⟩ := p
  obtain ⟨sl, sh⟩ := s
  cases ph <;> cases sl <;> simp_all [touchB, Apart]
theorem apart_trans {a p s : Stc} (h1 : Apart a p) (hp : NE p) (h2 : Apart p s) : Apart a s := by
  obtain ⟨h, l, e1, e2, q⟩ := h1
  obtain ⟨h', l', e3, e4, q'⟩ := h2
  have := hp l h' e2 e3
  exact ⟨h, l', e1, e4, by omega⟩
theorem canon_snoc {acc : List Stc} {p s : Stc} (h : Canon (acc ++ [p])) (hs : NE s) (ha : Apart p s) : Canon (acc ++ [p] ++ [s]) := by
  refine ⟨fun x hx => ?_, ?_⟩
  · rcases List.mem_append.mp hx with hx | hx
    · exact h.ne x hx
    · rw [List.mem_singleton.mp hx]; exact hs
  · refine List.pairwise_append.mpr ⟨h.ap, List.pairwise_singleton .., fun a ha' b hb => ?_⟩
    rw [List.mem_singleton.mp hb]
    rcases List.mem_append.mp ha' with q | q
    · exact apart_trans ((List.pairwise_append.mp h.ap).2.2 a q p (by simp)) (h.ne p (by simp)) ha
    · rw [List.mem_singleton.mp q]; exact ha
theorem canon_last {acc : List Stc} {p s : Stc} (h : Canon (acc ++ [p])) : Canon (acc ++ [(p.1, laterE p.2 s.2)]) := by
  refine ⟨fun x hx => ?_, ?_⟩
  · rcases List.mem_append.mp hx with hx | hx
    · exact h.ne x (List.mem_append_left _ hx)
    · rw [List.mem_singleton.mp hx]; exact join_ne p s (h.ne p (by simp))
  · refine List.pairwise_append.mpr ⟨(List.pairwise_append.mp h.ap).1, List.pairwise_singleton .., fun a ha b hb => ?_⟩
    rw [List.mem_singleton.mp hb]
    exact (List.pairwise_append.mp h.ap).2.2 a ha p (by simp)
/-- one step of the joining -/
theorem join_step {acc pre : List Stc} {s : Stc} (hc : Canon acc) (hm : ∀ n, hasL acc n = hasL pre n) (hl : ∀ a, a ∈ acc → lowLe a.1 s.1) (hs : NE s) :
    Canon (joinF acc s) ∧ (∀ n, hasL (joinF acc s) n = hasL (pre ++ [s]) n) ∧ ∀ a, a ∈ joinF acc s → a.1 = s.1 ∨ ∃ b, b ∈ acc ∧ a.1 = b.1 := by
  rcases List.eq_nil_or_concat acc with rfl | ⟨ac, p, rfl⟩
  · refine ⟨⟨fun x hx => ?_, ?_⟩, fun n => ?_, fun a ha => ?_⟩
    · have : x = s := by simpa [joinF] using hx
      rw [this]; exact hs
    · simp [joinF]
    · rw [hasL_append, ← hm n]; simp [joinF, hasL]
    · left
      have : a = s := by simpa [joinF] using ha
      rw [this]
  · simp only [List.concat_eq_append] at *
    have hg : (ac ++ [p]).getLast? = some p := by simp
    unfold joinF
    rw [hg]
    dsimp only
    by_cases ht : touchB p.2 s.1 = true
    · rw [if_pos ht, List.dropLast_concat]
      refine ⟨canon_last (s := s) hc, fun n => ?_, fun a ha => ?_⟩
      · have h1 := hm n
        rw [hasL_append, hasL_one] at h1
        rw [hasL_append, hasL_one, hasL_append, hasL_one, join_has p s n (hc.ne p (by simp)) hs (hl p (by simp)) ht, ← h1, Bool.or_assoc]
      · right
        rcases List.mem_append.mp ha with ha | ha
        · exact ⟨a, by simp [ha], rfl⟩
        · rw [List.mem_singleton.mp ha]; exact ⟨p, by simp, rfl⟩
    · rw [if_neg ht]
      have ht' : touchB p.2 s.1 = false := by simpa using ht
      refine ⟨canon_snoc hc hs (notouch ht'), fun n => ?_, fun a ha => ?_⟩
      · rw [hasL_append (ac ++ [p]) [s], hasL_append pre [s], hm n]
      · rcases List.mem_append.mp ha with ha | ha
        · right; exact ⟨a, ha, rfl⟩
        · left; rw [List.mem_singleton.mp ha]
theorem lowLe_trans {a b c : Option Int} (h1 : lowLe a b) (h2 : lowLe b c) : lowLe a c := by
  cases a <;> cases b <;> cases c <;> simp_all [lowLe]
  omega
/-- the invariant of the loop -/
structure Joins (acc pre rest : List Stc) : Prop where
  canon : Canon acc
  has : ∀ n, hasL acc n = hasL pre n
  low : ∀ a, a ∈ acc → ∀ s, s ∈ rest → lowLe a.1 s.1
theorem joins_step {acc pre rest : List Stc} {s : Stc} (h : Joins acc pre (s :: rest)) (hs : NE s) (hw : (s :: rest).Pairwise fun a b => lowLe a.1 b.1) : Joins (joinF acc s) (pre ++ [s]) rest := by
  obtain ⟨c, m, l⟩ := join_step h.canon h.has (fun a ha => h.low a ha s (by simp)) hs
  refine ⟨c, m, fun a ha t ht => ?_⟩
  have hst : lowLe s.1 t.1 := (List.pairwise_cons.mp hw).1 t ht
  rcases l a ha with e | ⟨b, hb, e⟩
  · rw [e]; exact hst
  · rw [e]; exact h.low b hb t (by simp [ht])

/-! ### one set, one list of parts -/
theorem canon_tail {s : Stc} {ps : List Stc} (h : Canon (s :: ps)) : Canon ps := ⟨fun x hx => h.ne x (by simp [hx]), (List.pairwise_cons.mp h.ap).2⟩
/-- nothing of the later parts lies at or ahead of the number behind the first one's end -/
theorem later_no {s : Stc} {ps : List Stc} (h : Canon (s :: ps)) {n e : Int} (he : s.2 = some e) (hn : n ≤ e + 1) : hasL ps n = false := by
  unfold hasL
  rw [List.any_eq_false]
  intro t ht
  obtain ⟨h', l, e1, e2, q⟩ := (List.pairwise_cons.mp h.ap).1 t ht
  rw [he] at e1
  cases e1
  simp only [has1, e2, Bool.and_eq_true, decide_eq_true_eq, not_and]
  intro h1
  omega
theorem no_later {s : Stc} {ps : List Stc} (h : Canon (s :: ps)) (he : s.2 = none) : ps = [] := by
  cases ps with
  | nil => rfl
  | cons t ps =>
    obtain ⟨h', l, e1, _⟩ := (List.pairwise_cons.mp h.ap).1 t (by simp)
    rw [he] at e1
    cases e1
/-- ahead of the first part's low end there is nothing -/
theorem ahead_no {s : Stc} {ps : List Stc} (h : Canon (s :: ps)) {n l : Int} (hl : s.1 = some l) (hn : n < l) : hasL (s :: ps) n = false := by
  rw [hasL_cons]
  have h1 : has1 s n = false := by
    simp only [has1, hl, Bool.and_eq_false_iff, decide_eq_false_iff_not]
    left
    omega
  rw [h1, Bool.false_or]
  cases e : s.2 with
  | none => rw [no_later h e]; rfl
  | some x =>
    have := h.ne s (by simp) l x hl e
    exact later_no h e (by omega)
theorem has_low {s : Stc} (h : NE s) {l : Int} (hl : s.1 = some l) : has1 s l = true := by
  cases e : s.2 with
  | none => simp [has1, hl, e]
  | some x =>
    have := h l x hl e
    simp [has1, hl, e, this]
theorem has_some {s : Stc} (h : NE s) (m : Int) : ∃ n, n ≤ m ∧ (s.1 = none → has1 s n = true) := by
  cases e : s.2 with
  | none => exact ⟨m, Int.le_refl _, fun h1 => by simp [has1, h1, e]⟩
  | some x =>
    by_cases q : m ≤ x
    · exact ⟨m, Int.le_refl _, fun h1 => by simp [has1, h1, e, q]⟩
    · exact ⟨x, by omega, fun h1 => by simp [has1, h1, e]⟩
theorem ne_has {s : Stc} (h : NE s) : ∃ n, has1 s n = true := by
  cases e : s.1 with
  | none =>
    obtain ⟨n, _, q⟩ := has_some h 0
    exact ⟨n, q e⟩
  | some l => exact ⟨l, has_low h e⟩
theorem low_same {s t : Stc} {ps qs : List Stc} (h : Canon (s :: ps)) (h' : Canon (t :: qs)) (e : ∀ n, hasL (s :: ps) n = hasL (t :: qs) n) : lowLe t.1 s.1 := by
  cases hs : s.1 with
  | none =>
    cases ht : t.1 with
    | none => trivial
    | some l =>
      obtain ⟨n, hn, q⟩ := has_some (h.ne s (by simp)) (l - 1)
      have h1 := e n
      rw [ahead_no h' ht (by omega), hasL_cons, q hs] at h1
      simp at h1
  | some a =>
    cases ht : t.1 with
    | none => trivial
    | some b =>
      by_cases q : b ≤ a
      · exact q
      · have h1 := e a
        rw [ahead_no h' ht (by omega), hasL_cons, has_low (h.ne s (by simp)) hs] at h1
        simp at h1
theorem lowLe_antisymm {a b : Option Int} (h1 : lowLe a b) (h2 : lowLe b a) : a = b := by
  cases a <;> cases b <;> simp_all [lowLe]
  omega
/-- behind the end of the first one there is a number that is not in it -/
theorem high_same {s t : Stc} {ps qs : List Stc} (h : Canon (s :: ps)) (h' : Canon (t :: qs)) (e : ∀ n, hasL (s :: ps) n = hasL (t :: qs) n) (hl : s.1 = t.1) {x : Int} (hx : s.2 = some x) : ∃ y, t.2 = some y ∧ y ≤ x := by
  have h1 := e (x + 1)
  have n1 : has1 s (x + 1) = false := by
    simp only [has1, hx, Bool.and_eq_false_iff, decide_eq_false_iff_not]
    right
    omega
  rw [hasL_cons, n1, later_no h hx (Int.le_refl _), hasL_cons] at h1
  have h2 : has1 t (x + 1) = false := by
    cases q : has1 t (x + 1) with
    | false => rfl
    | true => rw [q] at h1; simp at h1
  have low : ∀ l, t.1 = some l → l ≤ x + 1 := fun l hl' => by
    rw [← hl] at hl'
    have := h.ne s (by simp) l x hl' hx
    omega
  cases ht : t.2 with
  | none =>
    exfalso
    cases hl' : t.1 with
    | none => simp [has1, hl', ht] at h2
    | some l =>
      have := low l hl'
      simp [has1, hl', ht, this] at h2
  | some y =>
    refine ⟨y, rfl, ?_⟩
    by_cases q : y ≤ x
    · exact q
    · exfalso
      have q' : x + 1 ≤ y := by omega
      cases hl' : t.1 with
      | none => simp [has1, hl', ht, q'] at h2
      | some l =>
        have := low l hl'
        simp [has1, hl', ht, this, q'] at h2
theorem canon_unique : ∀ {ps qs : List Stc}, Canon ps → Canon qs → (∀ n, hasL ps n = hasL qs n) → ps = qs
  | [], [], _, _, _ => rfl
  | [], t :: qs, _, h', e => by
    obtain ⟨n, q⟩ := ne_has (h'.ne t (by simp))
    have := e n
    rw [hasL_cons, q] at this
    simp [hasL_nil] at this
  | s :: ps, [], h, _, e => by
    obtain ⟨n, q⟩ := ne_has (h.ne s (by simp))
    have := e n
    rw [hasL_cons, q] at this
    simp [hasL_nil] at this
  | s :: ps, t :: qs, h, h', e => by
    have hl : s.1 = t.1 := lowLe_antisymm (low_same h' h fun n => (e n).symm) (low_same h h' e)
    have hh : s.2 = t.2 := by
      cases hs : s.2 with
      | none =>
        cases ht : t.2 with
        | none => rfl
        | some y =>
          obtain ⟨z, q, _⟩ := high_same h' h (fun n => (e n).symm) hl.symm ht
          rw [hs] at q; cases q
      | some x =>
        obtain ⟨y, hy, q⟩ := high_same h h' e hl hs
        obtain ⟨z, hz, q'⟩ := high_same h' h (fun n => (e n).symm) hl.symm hy
        rw [hs] at hz
        cases hz
        rw [hy]
        congr 1
        omega
    have est : s = t := Prod.ext hl hh
    subst est
    refine congrArg _ (canon_unique (canon_tail h) (canon_tail h') fun n => ?_)
    cases hs : s.2 with
    | none => rw [no_later h hs, no_later h' hs]
    | some x =>
      by_cases q : n ≤ x + 1
      · rw [later_no h hs q, later_no h' hs q]
      · have n1 : has1 s n = false := by
          simp only [has1, hs, Bool.and_eq_false_iff, decide_eq_false_iff_not]
          right
          omega
        have := e n
        rwa [hasL_cons, hasL_cons, n1, Bool.false_or, Bool.false_or] at this

/-! ### the halving search -/
theorem search_low {ps : List Stc} (h : Canon ps) {m : Nat} {s : Stc} (hm : ps[m]? = some s) {l n : Int} (hl : s.1 = some l) (hn : n < l) {j : Nat} {t : Stc} (hj : m ≤ j) (ht : ps[j]? = some t) : has1 t n = false := by
  have hs := h.ne s (List.mem_of_getElem? hm)
  by_cases e : m = j
  · subst e
    rw [hm] at ht
    cases ht
    simp only [has1, hl, Bool.and_eq_false_iff, decide_eq_false_iff_not]
    left
    omega
  · obtain ⟨h1, h2, h3⟩ := List.getElem?_eq_some_iff.mp hm |>.elim fun a b => (⟨a, b, trivial⟩ : ∃ (a : m < ps.length) (_ : ps[m] = s), True)
    obtain ⟨g1, g2⟩ := List.getElem?_eq_some_iff.mp ht
    have := List.pairwise_iff_getElem.mp h.ap m j h1 g1 (by omega)
    rw [h2, g2] at this
    obtain ⟨x, y, e1, e2, q⟩ := this
    have := hs l x hl e1
    simp only [has1, e2, Bool.and_eq_false_iff, decide_eq_false_iff_not]
    left
    omega
theorem search_high {ps : List Stc} (h : Canon ps) {m : Nat} {s : Stc} (hm : ps[m]? = some s) {l n : Int} (hl : s.2 = some l) (hn : l < n) {j : Nat} {t : Stc} (hj : j ≤ m) (ht : ps[j]? = some t) : has1 t n = false := by
  have hs := h.ne s (List.mem_of_getElem? hm)
  by_cases e : j = m
  · subst e
    rw [hm] at ht
    cases ht
    simp only [has1, hl, Bool.and_eq_false_iff, decide_eq_false_iff_not]
    right
    omega
  · obtain ⟨h1, h2⟩ := List.getElem?_eq_some_iff.mp hm
    obtain ⟨g1, g2⟩ := List.getElem?_eq_some_iff.mp ht
    have := List.pairwise_iff_getElem.mp h.ap j m g1 h1 (by omega)
    rw [h2, g2] at this
    obtain ⟨x, y, e1, e2, q⟩ := this
    have := hs y l e2 hl
    simp only [has1, e1, Bool.and_eq_false_iff, decide_eq_false_iff_not]
    right
    omega

/-! ### the points at which two sets are looked at -/
def endsOf (s : Stc) : List Int := (match s.1 with | none => [] | some l => [l - 1, l, l + 1]) ++ (match s.2 with | none => [] | some h => [h - 1, h, h + 1])
def points (ss : List Stc) : List Int := [0, 1, -1, 10000000000000, -10000000000000] ++ ss.flatMap endsOf
/-- the cuts: the first numbers behind which something changes -/
def cutsOf (s : Stc) : List Int := (match s.1 with | none => [] | some l => [l]) ++ (match s.2 with | none => [] | some h => [h + 1])
def cuts (ss : List Stc) : List Int := ss.flatMap cutsOf
theorem cut_point {ss : List Stc} {c : Int} (h : c ∈ cuts ss) : c ∈ points ss ∧ c - 1 ∈ points ss := by
  obtain ⟨s, hs, hc⟩ := List.mem_flatMap.mp h
  have key : c ∈ endsOf s ∧ c - 1 ∈ endsOf s := by
    obtain ⟨l, r⟩ := s
    cases l <;> cases r <;> simp_all [cutsOf, endsOf] <;> omega
  exact ⟨List.mem_append_right _ (List.mem_flatMap.mpr ⟨s, hs, key.1⟩), List.mem_append_right _ (List.mem_flatMap.mpr ⟨s, hs, key.2⟩)⟩
theorem has_by_cuts {s : Stc} {n m : Int} (h : ∀ c, c ∈ cutsOf s → (c ≤ n ↔ c ≤ m)) : has1 s n = has1 s m := by
  obtain ⟨l, r⟩ := s
  rw [Bool.eq_iff_iff]
  cases l <;> cases r <;> simp_all [cutsOf, has1] <;> omega
theorem hasL_by_cuts {ss : List Stc} {n m : Int} (h : ∀ c, c ∈ cuts ss → (c ≤ n ↔ c ≤ m)) : hasL ss n = hasL ss m := by
  induction ss with
  | nil => rfl
  | cons s ss ih =>
    rw [hasL_cons, hasL_cons, has_by_cuts (s := s) fun c hc => h c (List.mem_flatMap.mpr ⟨s, by simp, hc⟩), ih fun c hc => h c ?_]
    obtain ⟨t, ht, hc⟩ := List.mem_flatMap.mp hc
    exact List.mem_flatMap.mpr ⟨t, by simp [ht], hc⟩
theorem greatest {l : List Int} {n : Int} (h : ∃ c, c ∈ l ∧ c ≤ n) : ∃ c, c ∈ l ∧ c ≤ n ∧ ∀ d, d ∈ l → d ≤ n → d ≤ c := by
  induction l with
  | nil => obtain ⟨c, hc, _⟩ := h; simp at hc
  | cons a l ih =>
    by_cases q : ∃ c, c ∈ l ∧ c ≤ n
    · obtain ⟨c, hc, hn, m⟩ := ih q
      by_cases qa : a ≤ n ∧ c ≤ a
      · refine ⟨a, by simp, qa.1, fun d hd hdn => ?_⟩
        rcases List.mem_cons.mp hd with rfl | hd
        · exact Int.le_refl _
        · have := m d hd hdn; omega
      · refine ⟨c, by simp [hc], hn, fun d hd hdn => ?_⟩
        rcases List.mem_cons.mp hd with rfl | hd
        · omega
        · exact m d hd hdn
    · obtain ⟨c, hc, hn⟩ := h
      rcases List.mem_cons.mp hc with rfl | hc
      · refine ⟨c, by simp, hn, fun d hd hdn => ?_⟩
        rcases List.mem_cons.mp hd with rfl | hd
        · exact Int.le_refl _
        · exact absurd ⟨d, hd, hdn⟩ q
      · exact absurd ⟨c, hc, hn⟩ q
theorem least {l : List Int} (h : l ≠ []) : ∃ c, c ∈ l ∧ ∀ d, d ∈ l → c ≤ d := by
  induction l with
  | nil => exact absurd rfl h
  | cons a l ih =>
    by_cases q : l = []
    · subst q
      exact ⟨a, by simp, fun d hd => by rw [List.mem_singleton.mp hd]; exact Int.le_refl _⟩
    · obtain ⟨c, hc, m⟩ := ih q
      by_cases qa : a ≤ c
      · refine ⟨a, by simp, fun d hd => ?_⟩
        rcases List.mem_cons.mp hd with rfl | hd
        · exact Int.le_refl _
        · have := m d hd; omega
      · refine ⟨c, by simp [hc], fun d hd => ?_⟩
        rcases List.mem_cons.mp hd with rfl | hd
        · omega
        · exact m d hd
/-- each number has a point that no stretch tells from it -/
theorem point_of (ss : List Stc) (n : Int) : ∃ m, m ∈ points ss ∧ ∀ c, c ∈ cuts ss → (c ≤ n ↔ c ≤ m) := by
  by_cases q : ∃ c, c ∈ cuts ss ∧ c ≤ n
  · obtain ⟨c, hc, hn, m⟩ := greatest q
    refine ⟨c, (cut_point hc).1, fun d hd => ⟨fun h => m d hd h, fun h => by omega⟩⟩
  · by_cases q0 : cuts ss = []
    · refine ⟨0, by simp [points], fun c hc => ?_⟩
      rw [q0] at hc
      simp at hc
    · obtain ⟨c, hc, m⟩ := least q0
      refine ⟨c - 1, (cut_point hc).2, fun d hd => ⟨fun h => absurd ⟨d, hd, h⟩ q, fun h => ?_⟩⟩
      have := m d hd
      omega
theorem cuts_append (a b : List Stc) : cuts (a ++ b) = cuts a ++ cuts b := by simp [cuts, List.flatMap_append]
/-- sets that agree at the points of both are the same -/
theorem agree_all {a b : List Stc} (h : ∀ m, m ∈ points (a ++ b) → hasL a m = hasL b m) (n : Int) : hasL a n = hasL b n := by
  obtain ⟨m, hm, hc⟩ := point_of (a ++ b) n
  rw [cuts_append] at hc
  rw [hasL_by_cuts (ss := a) fun c q => hc c (List.mem_append_left _ q), hasL_by_cuts (ss := b) fun c q => hc c (List.mem_append_right _ q)]
  exact h m hm
end Spk

set_option Elab.async false
set_option linter.all false
set_option maxRecDepth 100000
set_option maxHeartbeats 1000000
namespace Spk
open PySem L2

/-! ## readings by steps: one lemma a construct -/
section
variable {σ : L2.St} {H : Hp} {D : Ends} {ta tb te : TE} {Q : VK} {t u : TS} {tt uu : TT} {v x y : V} {i : Nat} {K : PySem.W.Frag}
theorem i_seq (h : t { D with nx := u D } σ H) : tSeq t u D σ H := h
theorem i_next (h : D.nx σ H) : tNext D σ H := h
theorem i_asg {g : TG} (h : te σ H fun x H1 => g x σ H1 D.nx) : tAsg te g D σ H := h
theorem i_name {P : L2.St → Hp → Prop} (h : P (σ.set i (some v)) H) : gName i v σ H P := h
theorem i_ret (h : te σ H D.rt) : tRet te D σ H := h
theorem i_drop (h : te σ H fun _ H1 => D.nx σ H1) : tDrop te D σ H := h
theorem i_ifS (h : tt σ H fun b H1 => if b = true then t D σ H1 else u D σ H1) : tIfS tt t u D σ H := h
theorem i_if (h : tt σ H fun c H1 => if c = true then ta σ H1 Q else tb σ H1 Q) : tIf tt ta tb σ H Q := h
theorem i_var (h : σ[i]? = some (some v)) (q : Q v H) : tVar i σ H Q := ⟨v, h, q⟩
theorem i_c (q : Q v H) : tC v σ H Q := q
theorem i_op {r : R2} (h : ta σ H fun x H1 => tb σ H1 fun y H2 => r x y H2 Q) : tOp r ta tb σ H Q := h
theorem i_un {r : V → Hp → VK → Prop} (h : ta σ H fun x H1 => r x H1 Q) : tUn r ta σ H Q := h
theorem i_rI0 {g : Int → Int → V} {a b : Int} (q : Q (g a b) H) : rI0 g (.int a) (.int b) H Q := ⟨a, b, rfl, rfl, q⟩
theorem i_rI {C : Int → Int → Prop} {g : Int → Int → V} {a b : Int} (hc : C a b) (q : Q (g a b) H) : rI C g (.int a) (.int b) H Q := ⟨a, b, rfl, rfl, hc, q⟩
theorem i_rU {g : Int → V} {a : Int} (q : Q (g a) H) : rU g (.int a) H Q := ⟨a, rfl, q⟩
theorem i_rEq (hs : scal x y = true) (q : Q (.bl (decide (x = y))) H) : rEq x y H Q := ⟨hs, q⟩
theorem i_rNe (hs : scal x y = true) (q : Q (.bl (!decide (x = y))) H) : rNe x y H Q := ⟨hs, q⟩
theorem i_test {P : Bool → Hp → Prop} (h : ta σ H fun x H' => ∃ k, x = .bl k ∧ P k H') : tTest ta σ H P := h
theorem i_tB {P : Bool → Hp → Prop} (h : ta σ H fun x H' => ∃ k, x = .bl k ∧ P k H') : tB ta σ H P := h
theorem i_and {P : Bool → Hp → Prop} (h : tt σ H fun c H1 => if c = true then uu σ H1 P else P false H1) : tAnd tt uu σ H P := h
theorem i_or {P : Bool → Hp → Prop} (h : tt σ H fun c H1 => if c = true then P true H1 else uu σ H1 P) : tOr tt uu σ H P := h
theorem i_not {P : Bool → Hp → Prop} (h : tt σ H fun c H1 => P (!c) H1) : tNot tt σ H P := h
theorem i_andV (h : ta σ H fun x H1 => ∃ c, x = .bl c ∧ if c = true then tb σ H1 Q else Q (.bl false) H1) : tAndV ta tb σ H Q := h
theorem i_orV (h : ta σ H fun x H1 => ∃ c, x = .bl c ∧ if c = true then Q (.bl true) H1 else tb σ H1 Q) : tOrV ta tb σ H Q := h
theorem i_notV (h : ta σ H fun x H1 => ∃ c, x = .bl c ∧ Q (.bl (!c)) H1) : tNotV ta σ H Q := h
theorem i_nil {P : List V → Hp → Prop} (h : P [] H) : tNil σ H P := h
theorem i_cons {tr : TA} {P : List V → Hp → Prop} (h : ta σ H fun x H1 => tr σ H1 fun xs H2 => P (x :: xs) H2) : tCons ta tr σ H P := h
theorem i_cb {r : List V → Hp → VK → Prop} {ts : TA} (h : ts σ H fun vs H1 => r vs H1 Q) : tCB r ts σ H Q := h
theorem i_call {sp : Sp} {E : XK} {ts : TA} (h : ts σ H fun vs H1 => sp (vs ++ []) H1 Q E) : tCall sp [] E ts σ H Q := h
theorem i_bl {c : Bool} {P : Bool → Prop} (h : P c) : ∃ k, V.bl c = .bl k ∧ P k := ⟨c, rfl, h⟩
/-- a new object: the heap behind it is only known by what stood and what is new -/
theorem i_new {o : HO} (h : ∀ p H1, Same H H1 → H p = none → H1 p = some o → Q (.ref p) H1) : ∀ p, H p = none → Q (.ref p) (upd H p o) := fun p hp =>
  h p _ (fun b u e => by rw [upd_ne (ne_of_none e hp)]; exact e) hp upd_same
theorem i_tup {ts : TA} (h : ts σ H fun xs H1 => xs.length ≤ sizeLine ∧ ∀ p, H1 p = none → Q (.ref p) (upd H1 p (.tup xs))) : tTup ts σ H Q := h
theorem i_lst {ts : TA} (h : ts σ H fun xs H1 => xs.length ≤ sizeLine ∧ ∀ p, H1 p = none → Q (.ref p) (upd H1 p (.lst xs))) : tLst ts σ H Q := h
theorem i_sz {xs : List V} {o : HO} (hn : xs.length ≤ 1000) (h : ∀ p H1, Same H H1 → H p = none → H1 p = some o → Q (.ref p) H1) : xs.length ≤ sizeLine ∧ ∀ p, H p = none → Q (.ref p) (upd H p o) :=
  ⟨Nat.le_trans hn (by decide), i_new h⟩
theorem new_heap {o : HO} {p : Addr} (hp : H p = none) : ∃ H1, upd H p o = H1 ∧ Same H H1 ∧ H1 p = some o := ⟨_, rfl, fun b u e => by rw [upd_ne (ne_of_none e hp)]; exact e, upd_same⟩
theorem size_of {n : Nat} (h : n ≤ 100000) : n ≤ sizeLine := Nat.le_trans h (by decide)
theorem size_lt {n : Nat} (h : n ≤ 100000) : n < sizeLine := Nat.lt_of_le_of_lt h (by decide)
theorem i_ixT {p : Addr} {xs : List V} {a : Int} (h : H p = some (.tup xs)) (hv : atI xs a = some v) (q : Q v H) : rIxT K (.ref p) (.int a) H Q := ⟨p, xs, a, v, rfl, rfl, SqT.of h, hv, q⟩
theorem i_ixL {p : Addr} {xs : List V} {a : Int} (h : H p = some (.lst xs)) (hv : atI xs a = some v) (q : Q v H) : rIxL K (.ref p) (.int a) H Q := ⟨p, xs, a, v, rfl, rfl, SqL.of h, hv, q⟩
/-- a for's body and what follows, from the walk on -/
def forK (g : TG) (tb : TS) (D : Ends) (σ : L2.St) : It → Hp → Prop := fun J H1 => ∃ W : Nat → Nat → L2.St → Hp → Prop, (∃ m, W 0 m σ H1) ∧
  ∀ i m σ H, W i m σ H → (J.stop i H ∧ D.nx σ H) ∨ (J.go i H ∧ ∃ N : L2.St → Hp → Prop, (∀ σ' H', N σ' H' → ∃ m', m' < m ∧ W (i + 1) m' σ' H') ∧
    ∀ x H', J.yld i H x H' → g x σ H' fun σ2 H2 => tb { D with nx := N, ct := N, bk := D.nx } σ2 H2)
theorem i_for {wi : TI} {g : TG} (h : wi σ H (forK g t D σ)) : tFor wi g t D σ H := h
theorem i_iL {R : It → Hp → Prop} (h : te σ H fun x H1 => ∃ a, x = .ref a ∧ (∃ xs, SqL K H1 a xs) ∧ R (Itl K a) H1) : iList K te σ H R := h
theorem i_iT {R : It → Hp → Prop} (h : te σ H fun x H1 => ∃ a, x = .ref a ∧ (∃ xs, SqT K H1 a xs) ∧ R (Itt K a) H1) : iTup K te σ H R := h
theorem i_yes {P : Bool → Hp → Prop} (h : P true H) : tYes σ H P := h
theorem i_gsub {to ti : TE} {ts : TSet} {P : L2.St → Hp → Prop} (h : to σ H fun o H1 => ti σ H1 fun i H2 => ts o i v H2 fun H3 => P σ H3) : gSub to ti ts v σ H P := h
theorem pow_ok {a b : Nat} (ha : a ≤ 1000000) (hb : b ≤ 1000000) : CPow (b : Int) (a : Int) := ⟨by omega, by omega, by omega⟩
theorem cmulL {i j : Int} (h : decide (-(2 ^ 64) < i ∧ i < 2 ^ 64) = true) : CMul i j := .inl (of_decide_eq_true h)
theorem i_setL {p : Addr} {xs : List V} {k : Int} {j : Nat} {P : Hp → Prop} (h : H p = some (.lst xs)) (hj : ixN xs.length k = some j) (q : P (upd H p (.lst (xs.set j v)))) : rSetL (.ref p) (.int k) v H P := ⟨p, xs, k, j, rfl, rfl, h, hj, q⟩
theorem i_rng1 {ts : TA} {R : It → Hp → Prop} (h : ts σ H fun vs H1 => ∃ j : Int, vs = [.int j] ∧ -(2 ^ 62) ≤ j ∧ j < 2 ^ 62 ∧ R (Itr 0 j.toNat) H1) : iRng1 ts σ H R := h
theorem i_cut0 (h : t { D with nx := fun σ' H' => σ' = σ ∧ H' = H } σ H) (k : u D σ H) : C8.tCut t u D σ H := ⟨_, h, fun σ' H' e => by rw [e.1, e.2]; exact k⟩
theorem i_cm {C : Addr} {sp : Sp} {E : XK} {ts : TA} (h : te σ H fun x H1 => x = .ref C ∧ ts σ H1 fun vs H2 => sp (.ref C :: vs) H2 Q E) : ClX.tCMeth C sp E te ts σ H Q := h
theorem i_ckw {r : List V → List V → Hp → VK → Prop} {ts tk : TA} (h : ts σ H fun vs H1 => tk σ H1 fun zs H2 => r vs zs H2 Q) : tCKw r ts tk σ H Q := h
theorem i_bm {T : String} {r : V → List V → Hp → VK → Prop} {ts : TA} (h : te σ H fun x H1 => tyV K T x H1 ∧ ts σ H1 fun xs H2 => r x xs H2 Q) : tBM K T r te ts σ H Q := h
theorem i_bm0 {T : String} {r : V → List V → Hp → VK → Prop} (h : te σ H fun x H1 => tyV K T x H1 ∧ r x [] H1 Q) : tBM0 K T r te σ H Q := h
theorem i_tyL {p : Addr} {xs : List V} {A : Prop} (h : H p = some (.lst xs)) (q : A) : tyV K "list" (.ref p) H ∧ A := ⟨.inl ⟨rfl, _, SqL.of h⟩, q⟩
theorem i_app {p : Addr} {xs : List V} (h : H p = some (.lst xs)) (hz : xs.length ≤ 100000) (q : Q .non (upd H p (.lst (xs ++ [v])))) : rAppend (.ref p) [v] H Q := ⟨p, xs, v, rfl, rfl, h, size_lt hz, q⟩
theorem i_pop {p : Addr} {xs : List V} (h : H p = some (.lst (xs ++ [v]))) (q : Q v (upd H p (.lst xs))) : rPop (.ref p) [] H Q := ⟨p, _, v, rfl, rfl, h, by simp, by rw [List.dropLast_concat]; exact q⟩
theorem i_truL {p : Addr} {xs : List V} {P : Bool → Hp → Prop} (h : H p = some (.lst xs)) (q : P (!xs.isEmpty) H) : ∃ k, TruV K (.ref p) H k ∧ P k H := ⟨_, .inl ⟨xs, SqL.of h, rfl⟩, q⟩
theorem i_gtup {p : Addr} {xs : List V} {n : Nat} {g : TGs} {P : L2.St → Hp → Prop} (h : H p = some (.tup xs)) (hn : xs.length = n) (q : g xs σ H P) : gTup K n g (.ref p) σ H P := ⟨p, xs, rfl, SqT.of h, hn, q⟩
theorem i_gcons {g : TG} {gs : TGs} {vs : List V} {P : L2.St → Hp → Prop} (q : g v σ H fun σ' H' => gs vs σ' H' P) : gCons g gs (v :: vs) σ H P := ⟨v, vs, rfl, q⟩
theorem i_gnil {P : L2.St → Hp → Prop} (q : P σ H) : gNil [] σ H P := ⟨rfl, q⟩
theorem i_par {ts : TA} {a b : Nat} (h : ts σ H fun vs H1 => ∃ v w, vs = [v, w] ∧ D.nx ((σ.set a (some v)).set b (some w)) H1) : tPar a b ts D σ H := h
theorem ite_d {c A B : Prop} [Decidable c] (h1 : c → A) (h2 : ¬ c → B) : if decide c = true then A else B := by
  by_cases h : c
  · rw [decide_eq_true h, if_pos rfl]; exact h1 h
  · rw [decide_eq_false h, if_neg (by decide)]; exact h2 h
theorem ite_nd {c A B : Prop} [Decidable c] (h1 : ¬ c → A) (h2 : c → B) : if (!decide c) = true then A else B := by
  by_cases h : c
  · rw [decide_eq_true h, if_neg (by decide)]; exact h2 h
  · rw [decide_eq_false h, if_pos (by decide)]; exact h1 h
end
theorem sm_up {H H' : Hp} {a : Addr} {o : HO} (s : Same H H') (h : H a = some o) : H' a = some o := s a o h

/-! ## the data: stretches, parts, sets -/
abbrev ov : Option Int → V := fun o => match o with
  | none => .non
  | some i => .int i
def kx (s : Stc) : Int := match s.1 with | none => 0 | some _ => 1
def ky (s : Stc) : Int := match s.1 with | none => 0 | some i => i
def key (s : Stc) : List V := [.int (kx s), .int (ky s)]
def keyD (s : Stc) : PyData := .tuple [.int (kx s), .int (ky s)]
/-- v is a tuple (low, high) -/
def TupS (H : Hp) (v : V) (s : Stc) : Prop := ∃ a, v = .ref a ∧ H a = some (.tup [ov s.1, ov s.2])
/-- the values are stretches, one by one -/
def Tups (H : Hp) : List V → List Stc → Prop := Paired (TupS H)
theorem TupS.up {H H' : Hp} {v : V} {s : Stc} (e : Same H H') (h : TupS H v s) : TupS H' v s := by
  obtain ⟨a, rfl, h⟩ := h
  exact ⟨a, rfl, e _ _ h⟩
theorem Tups.up {H H' : Hp} {vs : List V} {ss : List Stc} (e : Same H H') (h : Tups H vs ss) : Tups H' vs ss := Paired.mapP h fun _ _ z => z.up e

theorem tups_zip {H : Hp} {xs : List V} {ss : List Stc} (h : Tups H xs ss) : ∀ b, b ∈ xs.zip ss → TupS H b.1 b.2 := by
  induction h with
  | nil => intro b hb; simp at hb
  | cons r t ih =>
    intro b hb
    rw [List.zip_cons_cons] at hb
    rcases List.mem_cons.mp hb with rfl | hb
    · exact r
    · exact ih b hb
theorem tups_of {H : Hp} : ∀ {bs : List (V × Stc)}, (∀ b, b ∈ bs → TupS H b.1 b.2) → Tups H (bs.map (·.1)) (bs.map (·.2))
  | [], _ => .nil
  | b :: bs, h => .cons (h b (by simp)) (tups_of fun c hc => h c (by simp [hc]))
theorem kxy_le {a b : Stc} (h : kx a < kx b ∨ (kx a = kx b ∧ ky a ≤ ky b)) : lowLe a.1 b.1 := by
  obtain ⟨l, r⟩ := a
  obtain ⟨l', r'⟩ := b
  cases l <;> cases l' <;> simp_all [kx, ky, lowLe]
/-- what sorted by start_of gives: the same stretches, by their low ends -/
theorem sorted_low {H : Hp} {xs : List V} {ss : List Stc} (h : Tups H xs ss) : ∃ ss', Tups H (byKeys xs (ss.map keyD)) ss' ∧ ss'.Perm ss ∧ ss'.Pairwise fun a b => lowLe a.1 b.1 := by
  have hlen : xs.length = ss.length := Paired.length h
  have e1 : xs.zip (ss.map keyD) = (xs.zip ss).map fun b => (b.1, keyD b.2) := by rw [List.zip_map_right]; rfl
  have hle : PySem.W.dataLe false (fun b : V × Stc => keyD b.2) = fun p q => decide (kx p.2 < kx q.2 ∨ (kx p.2 = kx q.2 ∧ ky p.2 ≤ ky q.2)) := PySem.W.dataLe_ii (fun b : V × Stc => kx b.2) fun b => ky b.2
  have e2 : byKeys xs (ss.map keyD) = ((xs.zip ss).mergeSort (PySem.W.dataLe false fun b : V × Stc => keyD b.2)).map (·.1) := by
    unfold byKeys
    rw [e1, ← List.map_mergeSort (f := fun b : V × Stc => (b.1, keyD b.2)) (r := PySem.W.dataLe false fun b : V × Stc => keyD b.2) (s := PySem.W.dataLe false fun b : V × PyData => b.2) (fun _ _ _ _ => rfl), List.map_map]
    rfl
  rw [e2, hle]
  have pm := List.mergeSort_perm (xs.zip ss) fun p q => decide (kx p.2 < kx q.2 ∨ (kx p.2 = kx q.2 ∧ ky p.2 ≤ ky q.2))
  have pw := List.pairwise_mergeSort (le := fun p q : V × Stc => decide (kx p.2 < kx q.2 ∨ (kx p.2 = kx q.2 ∧ ky p.2 ≤ ky q.2)))
    (fun a b c h1 h2 => by simp only [decide_eq_true_eq] at *; omega) (fun a b => by simp only [Bool.or_eq_true, decide_eq_true_eq]; omega) (xs.zip ss)
  refine ⟨_, tups_of fun b hb => tups_zip h b (pm.mem_iff.mp hb), ?_, ?_⟩
  · have := pm.map (·.2)
    rwa [List.map_snd_zip (by omega)] at this
  · refine List.pairwise_map.mpr (pw.imp fun {a b} hab => kxy_le (by simpa using hab))
theorem keys_alike (ss : List Stc) : PySem.W.AllAlike (ss.map keyD) := PySem.W.AllAlike.of fun _ _ => by simp [keyD, PySem.W.alike, PySem.W.alikeAll]
theorem keys_sort (ss : List Stc) : PySem.W.Sortable (ss.map keyD) := PySem.W.Sortable.tuples fun _ => ⟨_, _, rfl⟩
theorem keys_deep (ss : List Stc) : ∀ d, d ∈ ss.map keyD → d.depth ≤ 100 := fun d hd => by
  obtain ⟨s, _, rfl⟩ := List.mem_map.mp hd
  simp [keyD, PyData.depth, PyData.depthAll]

/-! ## cls(..) of a local name, C.m() without arguments -/
section
open PySem.Spec PyProof.Rows ClX StX
variable {X : Cx} {CX : CXT} {k i : Nat} {f C p g : Addr} {mc : Value} {sp : Sp} {E : XK} {x m : Str} {q pos apos : Pos} {e o : Expr} {es : List Expr} {ta : TE} {t : TA}
def tMakeL (i : Nat) (C : Addr) (sp : Sp) (E : XK) (t : TA) : TE := fun σ H Q => σ[i]? = some (some (.ref C)) ∧ tMakeR C sp E t σ H Q
theorem pe_makeL (M : Mk X.K C f) (F : FnR X.prog X.w X.K X.mg X.base CX k f sp) (hr : Room (k + 1) X.A) (hN : X.N[i]? = some x) (hv : Vis X.env.scope x) (hx : Passes CX X E) (ha : PA X (e :: es) t)
    (hdb : (x == ("__debug__" : Str)) = false := by decide) (hcd : (x == ("__classdict__" : Str)) = false := by decide)
    (he : starEach (e :: es) X.env = (false, eval e X.env) :: starEach es X.env := by rfl) (hpl : (backTo pos (starEach es X.env)).any (·.1) = false := by rfl) : PE X (.Call (.Name x q) (e :: es) [] pos) (tMakeL i C sp E t) := by
  refine ⟨fun pins s σ H Q I h => ?_⟩
  obtain ⟨hs, ht⟩ := h
  have ld := (pe_var (pos := q) hN hv hdb hcd).run pins s σ H (fun v H1 => v = .ref C ∧ H1 = H) I ⟨.ref C, hs, rfl, rfl⟩
  refine wpAny_Call_Name_kw (thn ld fun u s1 ⟨v, H1, I1, r1, q1⟩ => ?_)
  obtain ⟨rfl, rfl⟩ := q1
  cases r1
  refine PySem.W.callWith_K (h₀ := X.base) I.ok.mod.kin M.kp (thn (ha.run pos pins s1 σ _ _ I1 ht) fun us s2 ⟨vs, H2, I2, r, z⟩ => ⟨I2.kIn, ?_⟩) he hpl
  exact run_makeR M F hr hx I2 r z
theorem pe_cmeth0 {pl : Sem Bool} (he : PE X o ta) (r : CRead X.K C mc) (c : CMet X.K C mc m p g) (F : FnR X.prog X.w X.K X.mg X.base CX k g sp) (hr : Room k X.A) (hx : Passes CX X E)
    (ht : eval (.Call (.Attribute o m apos) [] [] pos) X.env = (do
      let ov ← eval o X.env
      standAt apos.atName
      let (f, first) ← holding [ov] (getMethod ov m pl)
      callWith pos f first (backTo pos (starEach [] X.env)) (backToKw pos (keywordEach [] X.env))) := by rfl) : PE X (.Call (.Attribute o m apos) [] [] pos) (tCMeth C sp E ta tNil) := by
  refine ⟨fun pins s σ H Q I h => ?_⟩
  refine PySem.W.methodCall_KW (pl := pl) (thn (he.run pins s σ H _ I h) fun u s1 ⟨x, H1, I1, rx, ex, z⟩ => ?_) ht
  subst ex
  obtain rfl : u = Value.ref C := rx
  refine getmethcm_ok I1 r c fun s2 I2 => ?_
  exact PySem.W.callWith_M0 (first := []) ⟨pin_at I2, I2.kIn⟩ c.fi (run_cm F hr hx I2 .nil z)
end

/-- def f(a, .., *v) by its text -/
theorem _root_.L2.Fun.okStar {P : Program} {w : World} {K : PySem.W.Frag} {mg : Str → Option Value} {base : Heap} {x qual pv : Str} {st : Stmt} {f : Addr} {fd : FuncData} {N ps : List Str} {k : Nat} {sp : Sp} (F : Fun K x qual st f fd) (S : FnScope N (ps ++ [pv]) (defScope st))
    (hb : ∀ (kV doc pm : Value) (an : Option Addr) (cdv ct : Value) (us rest : List Value), us.length = ps.length →
      bindArgs (PySem.W.fnOf x qual (defArgs st) (defBody st) (defScope st) .none kV doc pm an cdv ct) ⟨us ++ rest, []⟩ = (newTuple rest >>= fun t => pure (ps.zip us ++ [(pv, t)])))
    (hbody : ∀ (cdv : Value) (A : Around) (outer : List Env) (s : Shared) (H : Hp) (vs : List V) (Q : VK) (E : XK), Room k (A.deeper (PyProof.Rows.envOfC qual (defScope st) s.heap.objs.size f cdv)) → sp vs H Q E →
      ∃ t, PSs (cxOf CX0 P w K mg base N qual (defScope st) f cdv A outer s H E).nox (defBody st) t ∧ t { nx := fun _ H' => Q .non H', rt := Q } (L2.start N vs) H) :
    FnR P w K mg base CX0 (k + 1) f (fun vs H Q E => ∃ ws rest, vs = ws ++ rest ∧ ws.length = ps.length ∧ rest.length ≤ sizeLine ∧ ∀ p, H p = none → sp (ws ++ [V.ref p]) (upd H p (.tup rest)) Q E) := by
  obtain ⟨oc, od, kV, doc, pm, an, cdv, ct, osl, rfl, lk, hcd⟩ := F.ex
  refine StX.fn_star lk hcd S StX.cxUp_none (hb kV doc pm an cdv ct) fun A outer s H vs Q E hr hsp => ?_
  obtain ⟨t, h, q⟩ := hbody cdv A outer s H vs Q E hr hsp
  exact ⟨t, h.nox, q⟩
end Spk

set_option Elab.async false
set_option linter.all false
set_option maxRecDepth 100000
set_option maxHeartbeats 1000000
namespace Spk
open PySem PySem.Spec PyProof.Rows PySem.W L2
/-! ## defs that are entered while nothing is being shown: in them lists and tuples may be shown by repr -/

/-- the promise of a def, for such entries alone -/
structure FnG (P : Program) (w : World) (K : Frag) (mg : Str → Option Value) (base : Heap) (CX : CXT) (k : Nat) (f : Addr) (fd : FuncData) (ps : List Str) (sp : Sp) : Prop where
  arity : ∀ vs H Q E, sp vs H Q E → vs.length = ps.length
  goes : ∀ (A : Around), A.guards = some [] → ∀ (outer : List Env) (s : Shared) (H : Hp) (args : Args) (us : List Value) (vs : List V) (Q : VK) (E : XK), Room k A → Env0 P w K mg base A outer s H →
    BindsTo s fd args (ps.zip us) → Vals vs us → sp vs H Q E → codeAny (model P w) A (.call (.ref f) args) (CR CX outer P w H s Q E) s

section
variable {P : Program} {w : World} {K : Frag} {mg : Str → Option Value} {base : Heap} {CX : CXT} {j k : Nat} {f : Addr} {fd : FuncData} {ps : List Str} {sp : Sp}
theorem FnG.of (F : FnOk P w K mg base CX k f fd ps sp) : FnG P w K mg base CX k f fd ps sp :=
  ⟨F.len, fun A _ outer s H args us vs Q E hr e b v h => F.run A outer s H args us vs Q E hr e b v h⟩
theorem FnG.mono (F : FnG P w K mg base CX j f fd ps sp) (h : j ≤ k) : FnG P w K mg base CX k f fd ps sp :=
  ⟨F.arity, fun A g outer s H args us vs Q E hr => F.goes A g outer s H args us vs Q E (hr.mono h)⟩
/-- a def by its body -/
theorem fn_ofG {name qual : Str} {params : Arguments} {body : List Stmt} {scope : Scope} {dV kV doc pm cdv ct oc : Value} {an od : Option Addr} {osl : Array (Option Value)} {N : List Str}
    (lk : K.lookup f = some ⟨oc, od, .func (fnOf name qual params body scope dV kV doc pm an cdv ct), osl⟩) (hcd : codeIn K cdv qual = true) (S : FnScope N ps scope) (ar : ∀ vs H Q E, sp vs H Q E → vs.length = ps.length)
    (hb : ∀ (A : Around), A.guards = some [] → ∀ (outer : List Env) (s : Shared) (H : Hp) (vs : List V) (Q : VK) (E : XK), Room k (A.deeper (envOfC qual scope s.heap.objs.size f cdv)) → sp vs H Q E →
      ∃ t, PSs (cxOf CX P w K mg base N qual scope f cdv A outer s H E) body t ∧ t { nx := fun _ H1 => Q .non H1, rt := Q } (L2.start N vs) H) :
    FnG P w K mg base CX (k + 1) f (fnOf name qual params body scope dV kV doc pm an cdv ct) ps sp := by
  constructor
  · exact ar
  intro A g outer s H args us vs Q E hr e0 bi r hsp
  have hl := ar _ _ _ _ hsp
  have KX : K.In s.heap := e0.mod.kin.keeps fun c o z => (e0.bs c o z).1
  have lim : s.heap.NoLimit := e0.mod.nolimit.keeps fun c o z => (e0.bs c o z).1
  have kinds : ∀ y, y ∈ ps.zip us → scope.names.lookup y.1 = some .local ∨ (scope.names.lookup y.1 = some .cell ∧ ((cellsFrom (s.heap.objs.size + 1) scope.names []).lookup y.1).isSome = true) := by
    intro y hy
    have hm := (List.of_mem_zip (show (y.1, y.2) ∈ ps.zip us from hy)).1
    exact (S.par y.1 hm).imp id fun q => ⟨q, cellsFrom_some _ _ _ (.inl q)⟩
  refine codeAny_call_function hr.depth (KX _ _ lk) rfl S.co S.gen rfl (codeRec_of KX hcd) (bi _ _ _ _ ?_)
  refine wpAny_newFunctionEnv_cells S.kind kinds ?_
  intro env he s1 x
  subst he
  constructor
  · exact lim.keeps x.toInCall.keep
  refine codeAny_func ?_
  obtain ⟨t, ht, hq⟩ := hb A g outer s H vs Q E (hr.deeper _) hsp
  have I : Inv (cxOf CX P w K mg base N qual scope f cdv A outer s H E) [] (L2.start N vs) H s1 := inv_start S hr.hd e0 hl r x
  have out : ∀ {τ : L2.St} {H1 : Hp} {v : V} {u : Value} {s2 : Shared}, Inv (cxOf CX P w K mg base N qual scope f cdv A outer s H E) [] τ H1 s2 → RelV v u → Q v H1 → CE outer P w H s Q u s2 := by
    intro τ H1 v u s2 J rv q
    exact ⟨v, H1, J.os, J.bare, J.base, J.hok, rv, q⟩
  refine wpAny_mono (ht.run [] s1 (L2.start N vs) H _ I hq) ?_ fun e s2 z => z
  intro fl s2 hs
  match fl, hs with
  | .ret u, hs =>
    obtain ⟨v, τ, H1, J, rv, q⟩ := hs
    exact out J rv q
  | .next, hs =>
    obtain ⟨τ, H1, J, q⟩ := hs
    exact out (v := V.non) (u := Value.none) J rfl q
  | .brk, hs =>
    obtain ⟨_, _, _, q⟩ := hs
    exact q.elim
  | .cont, hs =>
    obtain ⟨_, _, _, q⟩ := hs
    exact q.elim
end
section
variable {P : Program} {w : World} {K : Frag} {mg : Str → Option Value} {base : Heap} {k : Nat} {f : Addr} {fd : FuncData} {ps : List Str} {sp : Sp}
theorem _root_.L2.Fun.okG {x qual : Str} {st : Stmt} {N : List Str} (F : Fun K x qual st f fd) (S : FnScope N ps (defScope st)) (ar : ∀ vs H Q E, sp vs H Q E → vs.length = ps.length)
    (hb : ∀ (cdv : Value) (A : Around), A.guards = some [] → ∀ (outer : List Env) (s : Shared) (H : Hp) (vs : List V) (Q : VK) (E : XK), Room k (A.deeper (envOfC qual (defScope st) s.heap.objs.size f cdv)) → sp vs H Q E →
      ∃ t, PSs (cxOf CX0 P w K mg base N qual (defScope st) f cdv A outer s H E).nox (defBody st) t ∧ t { nx := fun _ H1 => Q .non H1, rt := Q } (L2.start N vs) H) : FnG P w K mg base CX0 (k + 1) f fd ps sp := by
  obtain ⟨oc, od, kV, doc, pm, an, cdv, ct, osl, rfl, lk, hcd⟩ := F.ex
  refine fn_ofG lk hcd S ar ?_
  intro A g outer s H vs Q E hr hsp
  obtain ⟨t, h, q⟩ := hb cdv A g outer s H vs Q E hr hsp
  exact ⟨t, h.nox, q⟩
end
section
variable {X : Cx} {CX : CXT} {k : Nat} {f : Addr} {fd : FuncData} {ps : List Str} {ds : List Value} {dvs : List V} {sp : Sp} {E : XK}
theorem run_g {pins : List (Addr × Obj)} {σ : L2.St} {H : Hp} {s : Shared} {Q : VK} {us : List Value} {vs : List V} (F : FnG X.prog X.w X.K X.mg X.base CX k f fd ps sp) (g : X.A.guards = some []) (hr : Room k X.A) (hb : Binds X.K fd ps ds)
    (hd : Vals dvs ds) (hx : Passes CX X E) (I : Inv X pins σ H s) (r : Vals vs us) (h : sp (vs ++ dvs) H Q E) : wpAny (model X.prog X.w) X.A (call (.ref f) us) (EP X pins σ Q) X.xe s := by
  have all : Vals (vs ++ dvs) (us ++ ds) := r.append hd
  have many : (us ++ ds).length = ps.length := by
    rw [← all.length]
    exact F.arity _ _ _ _ h
  have z := F.goes X.A g X.stack s H ⟨us, []⟩ (us ++ ds) (vs ++ dvs) Q E hr I.env0 (hb s us I.kIn many) all h
  refine wpAny_call (codeAny_mono z ?_)
  intro r s1 hq
  match r, hq with
  | .error e, hq => exact hx pins σ H s e s1 I hq
  | .ok (.ret u), hq => exact I.after hq
  | .ok .next, hq => exact hq.elim
  | .ok .brk, hq => exact hq.elim
  | .ok .cont, hq => exact hq.elim
variable {x : Str} {e : Expr} {es : List Expr} {t : TA} {p pos : Pos}
theorem pe_callG (F : FnG X.prog X.w X.K X.mg X.base CX k f fd ps sp) (g : X.A.guards = some []) (hr : Room k X.A) (hg : Gl X x) (hm : X.mg x = some (.ref f)) (hk : keepIn X.K (.ref f) = true) (hb : Binds X.K fd ps ds) (hd : Vals dvs ds) (hx : Passes CX X E)
    (ha : PA X (e :: es) t) (hdb : (x == ("__debug__" : Str)) = false := by decide) (he : starEach (e :: es) X.env = (false, eval e X.env) :: starEach es X.env := by rfl) (hpl : (backTo pos (starEach es X.env)).any (·.1) = false := by rfl) :
    PE X (.Call (.Name x p) (e :: es) [] pos) (tCall sp dvs E t) := by
  constructor
  intro pins s σ H Q I h
  refine wpAny_Call_Name_kw (ld_glob I hg hm ?_ hdb)
  refine callWith_K (h₀ := X.base) I.ok.mod.kin hk (thn (ha.run pos pins s σ H _ I h) ?_) he hpl
  intro us s1 z
  obtain ⟨vs, H1, I1, r, q⟩ := z
  exact ⟨I1.kIn, run_g F g hr hb hd hx I1 r q⟩
/-- repr of data: None, truths, ints, texts, lists and tuples of these at any depth -/
def rReprD (K : Frag) : List V → Hp → VK → Prop := fun vs H Q => ∃ (a : Addr) (d : PyData), vs = [V.ref a] ∧ Dp K H (.ref a) d ∧ d.showable = true ∧ d.hasDict = false ∧ d.depth ≤ 64 ∧ d.shown.length ≤ sizeLine ∧ Q (.str d.shown) H
theorem cr_reprD (g : X.A.guards = some []) (hu : X.A.units + 66 < cLine) : CallR X (.builtin "repr") (rReprD X.K) := by
  intro pins s σ H vs us Q I r h
  obtain ⟨a, d, rfl, hd, sh, nd, dp, sz, q⟩ := h
  cases r with
  | cons ru rt =>
    cases rt
    obtain ⟨as, rd⟩ := Dp.reads I d _ _ hd ru
    cases ru
    refine repr_of_reads' rd sh (fun z => by rw [nd] at z; cases z) g (by omega) (fun _ _ z => z) (fun h1 u tk keep => ?_) sz
    exact ⟨.str _, H, I.kept keep, ⟨_, rfl⟩, q⟩
end
end Spk

set_option Elab.async false
set_option linter.all false
set_option maxRecDepth 100000
set_option maxHeartbeats 1000000
namespace Spk
open PySem PySem.Spec PyProof.Rows PySem.W L2
/-! ## a law's end, from a promise for entries while nothing is being shown -/
section
variable {P : Program} {w : World} {K : Frag} {mg mb : Str → Option Value} {CX : CXT} {k : Nat} {fa a : Addr} {fd : FuncData} {x : Str} {sp : Sp} {s1 : Shared} {vs : List Value} {ns : List Int}
/-- an abstract heap in which nothing but the script is tracked, if it is no object of the text -/
theorem start_heap (KX : K.In s1.heap) (ha : s1.heap.get? a = some { cls := .type "list", data := .seq vs.toArray }) (hi : IntsAre vs ns) (hl : ns.length ≤ sizeLine) :
    ∃ H : Hp, Only H ∧ SqL K H a (ns.map V.int) ∧ HOk P w H s1.heap ∧ (∀ b, (H b).isSome = true → b = a ∧ K.lookup a = none) := by
  have rv := vals_ints hi
  cases hk : K.lookup a with
  | some o =>
    have same := (KX a o hk).symm.trans ha
    cases same
    have n0 : HOk P w (fun _ => none) s1.heap := by
      intro b u z
      cases z
    have m0 : ∀ b : Addr, ((fun _ => none : Hp) b).isSome = true → b = a ∧ some ({ cls := .type "list", data := .seq vs.toArray } : Obj) = none := by
      intro b z
      cases z
    have q0 : SqL K (fun _ => none) a (ns.map V.int) := by
      refine Or.inr ⟨_, vs.toArray, _, hk, rfl, rfl, rfl, ?_, ?_⟩
      · rw [List.size_toArray, hi.length]
        exact hl
      · simpa using rv
    exact ⟨fun _ => none, fun _ => Or.inl rfl, q0, n0, m0⟩
  | none =>
    have one : ∀ b (u : HO), (if b = a then some (HO.frz { cls := .type "list", data := .seq vs.toArray } (.lst (ns.map V.int))) else none) = some u → b = a ∧ u = .frz { cls := .type "list", data := .seq vs.toArray } (.lst (ns.map V.int)) := by
      intro b u z
      split at z
      · rename_i e
        exact ⟨e, (Option.some.inj z).symm⟩
      · cases z
    refine ⟨fun b => if b = a then some (.frz { cls := .type "list", data := .seq vs.toArray } (.lst (ns.map V.int))) else none, fun b => ?_, Or.inl (Or.inr ⟨{ cls := .type "list", data := .seq vs.toArray }, if_pos rfl⟩), fun b u z => ?_, fun b z => ?_⟩
    · show (if b = a then _ else _) = _ ∨ _
      split
      · exact .inr ⟨_, _, if_pos (by assumption)⟩
      · exact .inl rfl
    · obtain ⟨rfl, rfl⟩ := one b u z
      refine ⟨ha, ?_, vs, _, rv, ha⟩
      rw [List.length_map]
      exact hl
    · obtain ⟨u, e⟩ := Option.isSome_iff_exists.mp z
      exact ⟨(one b u e).1, rfl⟩
/-- the law's promise at the heap behind the top -/
theorem law_g (KX : K.In s1.heap) (hns : s1.heap.Ns mainGlobals mg) (hb : s1.heap.Ns builtinsNs mb) (hbb : ∀ x : Str, x ≠ "__name__" → mb x = bootBuiltins x) (hlim : s1.heap.NoLimit) (hg : s1.gens = #[])
    (ha : s1.heap.get? a = some { cls := .type "list", data := .seq vs.toArray }) (hi : IntsAre vs ns) (hl : ns.length ≤ sizeLine) (hr : Room k callerA)
    (F : ∀ base : Heap, K.In base → base.Ns mainGlobals mg → FnG P w K mg base CX k fa fd [x] sp) (bi : ∀ (s : Shared) (u : Value), BindsTo s fd ⟨[u], []⟩ [(x, u)])
    (hsp : ∀ H : Hp, Only H → SqL K H a (ns.map V.int) → sp [.ref a] H (fun v _ => v = .bl true) fun _ _ _ => False) (hCX : ∀ H e s2, CX [] H s1 (fun _ _ _ => False) e s2 → False) :
    codeAny (model P w) callerA (.call (.ref fa) ⟨[.ref a], []⟩) (fun r s2 => r = .ok (.ret (.bool true)) ∧ OldK s1.heap s2.heap ∧ s2.os = s1.os ∧ AllBare s2.gens) s1 := by
  obtain ⟨H, only, sq, hok, mine⟩ := start_heap (P := P) (w := w) KX ha hi hl
  have off : ∀ {b : Addr} {o : Obj}, s1.heap.get? b = some o → H b = none → (hidT s1.heap H).get? b = some o := fun e n => hidT_get e n
  have free : ∀ {b : Addr}, (b = a → K.lookup a = none → False) → H b = none := by
    intro b no
    cases q : H b with
    | none => rfl
    | some u =>
      have z := mine b (by rw [q] <;> rfl)
      exact (no z.1 z.2).elim
  have dicts : ∀ {b : Addr} {o : Obj} {es : Array DictEntry} {ep : Nat}, s1.heap.get? b = some o → o.data = .dict es ep → H b = none := by
    intro b o es ep e d
    refine free fun z _ => ?_
    rw [z, ha] at e
    cases e
    cases d
  have names : ∀ {b : Addr} {m : Str → Option Value}, s1.heap.Ns b m → (hidT s1.heap H).Ns b m := by
    intro b m z
    obtain ⟨o, es, ep, e, d, r⟩ := z
    exact ⟨o, es, ep, off e (dicts e d), d, r⟩
  have inB : K.In (hidT s1.heap H) := by
    intro b o e
    refine off (KX b o e) (free fun z n => ?_)
    rw [z, n] at e
    cases e
  have mod : Mod K mg (hidT s1.heap H) := by
    obtain ⟨mc, h1, h2⟩ := hlim
    exact ⟨inB, names hns, ⟨mb, names hb, hbb⟩, mc, names h1, h2⟩
  have e0 : Env0 P w K mg (hidT s1.heap H) callerA [] s1 H :=
    ⟨rfl, mod, fun b o e => of_hidT e, Nat.le_of_eq (hidT_size _ _), trivial, fun b z => (List.not_mem_nil z).elim, hok, .of_eq hg⟩
  have z := (F _ inB (names hns)).goes callerA rfl [] s1 H ⟨[.ref a], []⟩ [.ref a] [.ref a] _ _ hr e0 (bi s1 (.ref a)) (.cons rfl .nil) (hsp H only sq)
  refine codeAny_mono z ?_
  intro r s2 q
  match r, q with
  | .error e, q => exact (hCX H e s2 q).elim
  | .ok .next, q => exact q.elim
  | .ok .brk, q => exact q.elim
  | .ok .cont, q => exact q.elim
  | .ok (.ret u), q =>
    obtain ⟨v, H2, os, gens, un, hok2, rv, e⟩ := q
    cases (show v = .bl true from e)
    cases (show u = Value.bool true from rv)
    refine ⟨rfl, OldK.of_keep ?_, os, gens⟩
    intro b o e
    rcases only b with n | ⟨ob, xs, n⟩
    · exact un.keep b o e n (fun z => List.not_mem_nil z) (fun z => List.not_mem_nil z)
    · have e1 := (hok b _ n).1
      have e2 := (hok2 b _ (un.frzs b ob _ n)).1
      rw [e] at e1
      cases e1
      exact e2
end
theorem walk_g {l : OpenLaw} {n k : Nat} {q : Program} {loose : List Str} {XP : (Str → Option Value) → Heap → Prop} {YP : World → Heap → Prop} {d : DefRec} {CX : CXT} {x : Str} (hn : l.most = some n) (hn2 : n ≤ sizeLine) (hdf : d.params.defaults = [])
    (hr : Room k callerA)
    (F : ∀ (w : World) (mg : Str → Option Value) (fa : Addr) (h : Heap), YP w h → h.Ns mainGlobals mg → mg d.name = some (.ref fa) → ∃ (K : Frag) (fd : FuncData) (sp : Sp), K.In h ∧ (∀ (s : Shared) (u : Value), BindsTo s fd ⟨[u], []⟩ [(x, u)]) ∧
        (∀ (H : Hp) (a : Addr) (ns : List Int), ns.length ≤ n → Only H → SqL K H a (ns.map V.int) → sp [.ref a] H (fun v _ => v = .bl true) fun _ _ _ => False) ∧
        ∀ base : Heap, K.In base → base.Ns mainGlobals mg → FnG l.prog w K mg base CX k fa fd [x] sp)
    (hCX : ∀ (H : Hp) (s : Shared) (e : Value) (s2 : Shared), CX [] H s (fun _ _ _ => False) e s2 → False) : WalkO q loose XP YP l.row.toRowW d [] (fun f vs => PySem.call f vs) := by
  refine Att.attach_call hn hdf ?_
  intro w s0 s1 mg mb fa o pm cd doc a vs ns G Y _ _ _ hmg hobj hints hlen hg
  obtain ⟨K, fd, sp, KX, bi, hsp, hF⟩ := F w mg fa _ Y G.T.g hmg
  exact law_g KX G.T.g G.T.b G.T.builtins G.T.nolimit hg hobj hints (Nat.le_trans hlen hn2) hr hF bi (fun H only sq => hsp H a ns hlen only sq) fun H e s2 => hCX H s1 e s2
end Spk

set_option Elab.async false
set_option linter.all false
set_option maxRecDepth 100000
set_option maxHeartbeats 2000000
namespace Spk
open PySem PySem.Spec PyProof.Rows L2
/-! ## for x, y in zip(l, t), l a list and t a tuple -/
def ItzM (K : PySem.W.Frag) (a b : Addr) : It where
  go := fun i H => ∃ (xs ys : List V) (x y : V), SqL K H a xs ∧ SqT K H b ys ∧ xs[i]? = some x ∧ ys[i]? = some y
  yld := fun i H v H' => ∃ T x y, v = .ref T ∧ H T = none ∧ H' = upd H T (.tup [x, y]) ∧ (∀ xs, SqL K H a xs → xs[i]? = some x) ∧ ∀ ys, SqT K H b ys → ys[i]? = some y
  stop := fun i H => ∃ xs ys : List V, SqL K H a xs ∧ SqT K H b ys ∧ xs.length = i ∧ ys.length = i
theorem turn_zipM {P : Program} {w : World} {K : PySem.W.Frag} {elts : List Expr} {kk : Nat} {tpos : Pos} {a b z TI TO i1 i2 : Addr} (Z : ZipSep2 z TI TO i1 i2 [i1, a] [i2, b]) (n1 : a ≠ i1) (n2 : b ≠ i2) :
    Turn P w K (.Tuple elts kk tpos) (ItzM K a b) [z, TI, TO, i1, i2] z (fun i h => IsZip h z TI TO .none ∧ IsTupOf2 h TI (.ref i1) (.ref i2) ∧ (∃ x y, IsTupOf2 h TO x y) ∧ h.IsListIter i1 a i ∧ h.IsTupleIter i2 b i) where
  mem := by simp
  obj := fun i h st c hc => by
    obtain ⟨h1, h2, ⟨x, y, h3⟩, ⟨o, ho, _, hd⟩, ⟨o2, ho2, _, hd2⟩⟩ := st
    simp only [List.mem_cons, List.not_mem_nil, or_false] at hc
    rcases hc with rfl | rfl | rfl | rfl | rfl
    · exact ⟨_, h1, fun v q => nomatch q⟩
    · exact ⟨_, h2, fun v q => nomatch q⟩
    · exact ⟨_, h3, fun v q => nomatch q⟩
    · exact ⟨o, ho, fun v q => by rw [hd] at q; cases q⟩
    · exact ⟨o2, ho2, fun v q => by rw [hd2] at q; cases q⟩
  keep := fun i h h' st k => by
    obtain ⟨h1, h2, ⟨x, y, h3⟩, h4, h5⟩ := st
    exact ⟨k z (by simp) _ h1, k TI (by simp) _ h2, ⟨x, y, k TO (by simp) _ h3⟩, h4.at fun o q => k i1 (by simp) o q, h5.at fun o q => k i2 (by simp) o q⟩
  item := by
    intro X hP hw hK hc i pins s σ H E I hf st hg
    subst hP hw hK
    obtain ⟨h1, h2, ⟨x0, y0, h3⟩, h4, h5⟩ := st
    obtain ⟨xs, ys, x, y, hl, ht, hx, hy⟩ := hg
    obtain ⟨its, rv, pl, hz⟩ := I.list hl
    obtain ⟨its2, rv2, pt, hz2⟩ := I.tuple ht
    obtain ⟨u, hu, ru⟩ := rv.get hx
    obtain ⟨u2, hu2, ru2⟩ := rv2.get hy
    have D1 := Draws.list (prog := X.prog) (w := X.w) (A := X.A.in1) (I.ok.hd hc) i1 a n1 its.toArray
    have D2 := Draws.tuple (prog := X.prog) (w := X.w) (A := X.A.in1) (I.ok.hd hc) i2 b n2 its2.toArray
    have hi : i < its.toArray.size := by
      rw [List.size_toArray]
      exact (List.getElem?_eq_some_iff.mp hu).1
    have hi2 : i < its2.toArray.size := by
      rw [List.size_toArray]
      exact (List.getElem?_eq_some_iff.mp hu2).1
    have zl : z < s.heap.objs.size := Heap.lt_size h1
    have tl : TI < s.heap.objs.size := Heap.lt_size h2
    have ol : TO < s.heap.objs.size := Heap.lt_size h3
    have il : i1 < s.heap.objs.size := by
      obtain ⟨_, q, _⟩ := id h4
      exact Heap.lt_size q
    have jl : i2 < s.heap.objs.size := by
      obtain ⟨_, q, _⟩ := id h5
      exact Heap.lt_size q
    refine wpAny_pyNext_zipD2_item Z D1 D2 h1 h2 h3 ⟨h4, pl.isList⟩ ⟨h5, pt⟩ hi hi2 fun x1 x2 h' tk e1 e2 ho hto s1 s2 hT hsz hk => ?_
    have ex : x1 = u := by
      have q : its.toArray[i]? = some u := by simpa using hu
      rw [q] at e1
      exact (Option.some.inj e1).symm
    have ey : x2 = u2 := by
      have q : its2.toArray[i]? = some u2 := by simpa using hu2
      rw [q] at e2
      exact (Option.some.inj e2).symm
    subst ex ey
    refine ⟨_, rfl, wpAny_letOwnedTupleGo_zip (s := { s with heap := h', toks := tk }) ho fun h'' hz' sb => ?_⟩
    have hT2 : h''.get? s.heap.objs.size = some { cls := .type "tuple", data := .seq #[x1, x2] } := (sb.2 _ (Nat.ne_of_gt zl)).trans hT
    have new : ObjOk X.prog X.w (upd H s.heap.objs.size (.tup [x, y])) h'' s.heap.objs.size (.tup [x, y]) :=
      ⟨size_of (Nat.le_of_ble_eq_true rfl), [x1, x2], .cons ru (.cons ru2 .nil), ⟨_, hT2, rfl, _, rfl⟩⟩
    have keepB : ∀ c ob, c ∉ [z, TI, TO, i1, i2] → s.heap.get? c = some ob → h''.get? c = some ob := fun c ob hc q => by
      simp only [List.mem_cons, List.not_mem_nil, or_false, not_or] at hc
      exact (sb.2 c hc.1).trans (hk c ob hc.1 hc.2.2.1 hc.2.2.2.1 hc.2.2.2.2 q)
    have I1 := I.turnedNew (t' := tk) (ch := [z, TI, TO, i1, i2]) keepB hf (Nat.le_refl _) new
    have zi1 : i1 ≠ z := fun q => Z.zf1 (by rw [← q]; simp)
    have zi2 : i2 ≠ z := fun q => Z.zf2 (by rw [← q]; simp)
    have hTI : h'.get? TI = some { cls := .type "tuple", data := .seq #[.ref i1, .ref i2] } := hk TI _ Z.TIz Z.TITO Z.TIi1 Z.TIi2 h2
    refine ⟨.ref s.heap.objs.size, _, I1, rfl, ⟨_, x, y, rfl, I.hok.fresh (Nat.le_refl _), rfl, fun zs hy' => by rw [I.list_inj hy' hl]; exact hx, fun zs hy' => by rw [I.tuple_inj hy' ht]; exact hy⟩,
      ⟨hz', (sb.2 TI Z.TIz).trans hTI, ⟨x1, x2, (sb.2 TO Z.TOz).trans hto⟩, s1.1.at fun o q => (sb.2 i1 zi1).trans q, s2.1.at fun o q => (sb.2 i2 zi2).trans q⟩, fun c hc => ?_⟩
    have hc' : c < s.heap.objs.size := by
      simp only [List.mem_cons, List.not_mem_nil, or_false] at hc
      rcases hc with rfl | rfl | rfl | rfl | rfl <;> assumption
    rw [upd_ne (Nat.ne_of_lt hc')]
    exact (hf c hc).1
  done := by
    intro X hP hw hK hc i pins s σ H E I hf st hg
    subst hP hw hK
    obtain ⟨h1, h2, ⟨x0, y0, h3⟩, h4, h5⟩ := st
    obtain ⟨xs, ys, hl, ht, e1, e2⟩ := hg
    obtain ⟨its, rv, pl, hz⟩ := I.list hl
    obtain ⟨its2, rv2, pt, hz2⟩ := I.tuple ht
    have D1 := Draws.list (prog := X.prog) (w := X.w) (A := X.A.in1) (I.ok.hd hc) i1 a n1 its.toArray
    have D2 := Draws.tuple (prog := X.prog) (w := X.w) (A := X.A.in1) (I.ok.hd hc) i2 b n2 its2.toArray
    have z1 : its.toArray.size = i := by rw [List.size_toArray, ← rv.length]; exact e1
    have z2 : its2.toArray.size = i := by rw [List.size_toArray, ← rv2.length]; exact e2
    refine wpAny_pyNext_zipD2_end Z D1 D2 h1 h2 h3 ⟨h4, pl.isList⟩ ⟨h5, pt⟩ (Nat.le_of_eq z1.symm) (Nat.le_of_eq z2.symm) (.inl z1.symm) fun h' tk eb => ⟨rfl, ?_⟩
    exact I.turnedL (t' := tk) (ch := [z, TI, TO, i1, i2]) (fun c o hc q => by
      simp only [List.mem_cons, List.not_mem_nil, or_false, not_or] at hc
      exact eb c o hc.1 hc.2.2.1 hc.2.2.2.1 hc.2.2.2.2 q) hf
  self := fun A i s Q E st h => wpAny_pyIter_zip st.1 h
def iZipM (K : PySem.W.Frag) (ta : TA) : TI := fun σ H R => ta σ H fun vs H1 => ∃ a b xs ys, vs = [.ref a, .ref b] ∧ SqL K H1 a xs ∧ SqT K H1 b ys ∧ R (ItzM K a b) H1
theorem vals_two {v w : V} {us : List Value} (h : Vals [v, w] us) : ∃ u u2, us = [u, u2] ∧ RelV v u ∧ RelV w u2 := by
  cases h with
  | cons r t =>
    cases t with
    | cons r2 t2 =>
      cases t2
      exact ⟨_, _, rfl, r, r2⟩
theorem nm2 (x y z : Nat) (h1 : x ≠ y) (h2 : x ≠ z) : ¬ x ∈ [y, z] := by simp [h1, h2]
theorem zsep (n a b : Nat) (ha : a < n) (hb : b < n) : ZipSep2 (n + 4) (n + 2) (n + 3) n (n + 1) [n, a] [n + 1, b] where
  TIz := Nat.ne_of_lt (show n + 2 < n + 4 by omega)
  TOz := Nat.ne_of_lt (show n + 3 < n + 4 by omega)
  TITO := Nat.ne_of_lt (show n + 2 < n + 3 by omega)
  TIi1 := Nat.ne_of_gt (show n < n + 2 by omega)
  mem1 := List.mem_cons_self
  zf1 := nm2 (n + 4) n a (by omega) (by omega)
  Tf1 := nm2 (n + 3) n a (by omega) (by omega)
  TIi2 := Nat.ne_of_gt (show n + 1 < n + 2 by omega)
  mem2 := List.mem_cons_self
  zf2 := nm2 (n + 4) (n + 1) b (by omega) (by omega)
  Tf2 := nm2 (n + 3) (n + 1) b (by omega) (by omega)
  sep1_2 := nm2 n (n + 1) b (by omega) (by omega)
  sep2_1 := nm2 (n + 1) n a (by omega) (by omega)
theorem zle (n c : Nat) (h : c ∈ [n + 4, n + 2, n + 3, n, n + 1]) : n ≤ c := by
  simp only [List.mem_cons, List.not_mem_nil, or_false] at h
  omega
theorem pi_zipM {X : Cx} {e e2 : Expr} {ta : TA} {p pos tpos : Pos} {elts : List Expr} {kk : Nat} (hg : Gl X "zip") (hm : X.mg "zip" = none) (ha : PA X [e, e2] ta)
    (hs : starEach [e, e2] X.env = (false, eval e X.env) :: starEach [e2] X.env := by rfl) (hpl : ((backTo pos (starEach [e2] X.env)).any fun x => x.1) = false := by rfl) :
    PI X (.Tuple elts kk tpos) (.Call (.Name "zip" p) [e, e2] [] pos) (iZipM X.K ta) := by
  refine ⟨fun pins s σ H R I h => ?_⟩
  refine Call_ (ld_blt I hg hm boot_zip (callWith_type1 (thn (ha.run pos pins s σ H _ I h) fun us s1 ⟨vs, H1, I1, r1, q1⟩ => ?_) hs hpl))
  obtain ⟨a, b, xs, ys, ex, hl, ht, q⟩ := q1
  subst ex
  obtain ⟨u, u2, rfl, ru, ru2⟩ := vals_two r1
  cases ru
  cases ru2
  obtain ⟨its, rv, pl, hz⟩ := I1.list hl
  obtain ⟨its2, rv2, pt, hz2⟩ := I1.tuple ht
  have al : a < s1.heap.objs.size := by
    obtain ⟨o, ho, _⟩ := pl.isList
    exact Heap.lt_size ho
  have bl : b < s1.heap.objs.size := by
    obtain ⟨o, ho, _⟩ := pt
    exact Heap.lt_size ho
  refine zip_begins2 (begins_list a its.toArray) (begins_tuple b its2.toArray) pl.isList pt fun h' hz hTI hTO hi1 hi2 hsz hk => wpAny_pyIter_zip hz ?_
  have I2 : Inv X pins σ H1 { s1 with heap := h' } := I1.kept (t' := s1.toks) hk
  have ne : ∀ {c : Addr} {k : Nat}, c < s1.heap.objs.size → c ≠ s1.heap.objs.size + k := fun h => Nat.ne_of_lt (Nat.lt_of_lt_of_le h (Nat.le_add_right _ _))
  have Z := zsep _ _ _ al bl
  refine ⟨s1.heap.objs.size + 4, [s1.heap.objs.size + 4, s1.heap.objs.size + 2, s1.heap.objs.size + 3, s1.heap.objs.size, s1.heap.objs.size + 1], _, _, H1, rfl, I2, turn_zipM Z (Nat.ne_of_lt al) (ne bl),
    ⟨hz, hTI, ⟨_, _, hTO⟩, ⟨_, hi1, rfl, rfl⟩, ⟨_, hi2, rfl, rfl⟩⟩, fun c hc => ?_, q⟩
  have hle : s1.heap.objs.size ≤ c := zle _ _ hc
  exact I1.fpOk hle (I1.hok.fresh hle)
/-! ## the walks, for comprehensions (lc_it) -/
theorem walk_zipT {K : PySem.W.Frag} {a b : Addr} {xs ys : List V} {n : Nat} (h1 : xs.length = n) (h2 : ys.length = n) : Walk (RZ.ItzT K a b) n (fun H => SqT K H a xs ∧ SqT K H b ys) (YPair (fun i => xs[i]?) fun i => ys[i]?) where
  goes := fun i H hi ⟨g1, g2⟩ => ⟨xs, ys, xs[i]'(by omega), ys[i]'(by omega), g1, g2, List.getElem?_eq_getElem (by omega), List.getElem?_eq_getElem (by omega)⟩
  stops := fun H ⟨g1, g2⟩ => ⟨xs, ys, g1, g2, .inl (Nat.le_of_eq h1)⟩
  yields := fun i H x H' hi ⟨g1, g2⟩ ⟨T, u, v, e, hT, e2, q1, q2⟩ => ⟨T, u, v, e, hT, e2, q1 xs g1, q2 ys g2⟩
theorem walk_zipM {K : PySem.W.Frag} {a b : Addr} {xs ys : List V} {n : Nat} (h1 : xs.length = n) (h2 : ys.length = n) : Walk (ItzM K a b) n (fun H => SqL K H a xs ∧ SqT K H b ys) (YPair (fun i => xs[i]?) fun i => ys[i]?) where
  goes := fun i H hi ⟨g1, g2⟩ => ⟨xs, ys, xs[i]'(by omega), ys[i]'(by omega), g1, g2, List.getElem?_eq_getElem (by omega), List.getElem?_eq_getElem (by omega)⟩
  stops := fun H ⟨g1, g2⟩ => ⟨xs, ys, g1, g2, h1, h2⟩
  yields := fun i H x H' hi ⟨g1, g2⟩ ⟨T, u, v, e, hT, e2, q1, q2⟩ => ⟨T, u, v, e, hT, e2, q1 xs g1, q2 ys g2⟩
theorem i_zipM {K : PySem.W.Frag} {σ : L2.St} {H : Hp} {ta : TA} {R : It → Hp → Prop} (h : ta σ H fun vs H1 => ∃ a b xs ys, vs = [.ref a, .ref b] ∧ SqL K H1 a xs ∧ SqT K H1 b ys ∧ R (ItzM K a b) H1) : iZipM K ta σ H R := h
theorem i_zipA {K : PySem.W.Frag} {σ : L2.St} {H : Hp} {ta : TA} {R : It → Hp → Prop} (h : ta σ H fun vs H1 => ∃ a b xs ys, vs = [.ref a, .ref b] ∧ (SqL K H1 a xs ∧ SqL K H1 b ys ∧ R (Itz K a b) H1 ∨ SqT K H1 a xs ∧ SqT K H1 b ys ∧ R (RZ.ItzT K a b) H1)) : RZ.iZipA K ta σ H R := h
end Spk

set_option Elab.async false
set_option linter.all false
set_option maxRecDepth 100000
set_option maxHeartbeats 1000000
namespace Spk
open PySem PySem.Spec PyProof.Rows PySem.W L2
/-! ## a lone star beside keywords -/
section
variable {M : Model} {A : Around} {E : Value → Shared → Prop} {s : Shared}
theorem lone_kw {f : Value} {x : Sem Value} {pos : Pos} {keywords : List (Option Str × Sem Value)} {Q : Args → Shared → Prop} (hall : keywords.all (·.1.isSome) = true)
    (h : wpAny M A x (fun v s1 => wpAny M A (evalAll (keywords.map (·.2))) (fun ks s2 => StarOf M A E v (fun vs s3 => Q ⟨vs, (keywords.filterMap (·.1)).zip ks⟩ s3) s2) E s1) E s) :
    wpAny M A (evalArgs f true [(true, (do let v ← x; standAt pos; pure v))] keywords) Q E s := by
  unfold evalArgs
  refine wpAny_bind (wpAny_bind (wpAny_mono h (fun v s1 h1 => wpAny_bind (wpAny_standAt (wpAny_pure ?_))) fun _ _ z => z))
  refine wpAny_bind (wpAny_pure ?_)
  dsimp only
  refine wpAny_holding ?_
  simp only [hall, if_true]
  refine wpAny_bind (wpAny_mono h1 (fun ks s2 h2 => ?_) fun _ _ z => z)
  unfold StarOf at h2
  refine wpAny_bind (wpAny_bind (wpAny_mono h2 (fun b s3 h3 => ?_) fun _ _ z => z))
  obtain ⟨rfl, h3⟩ := h3
  simp only [Bool.false_eq_true, if_false]
  exact wpAny_holding (wpAny_mono h3 (fun vs s4 h4 => wpAny_pure h4) fun _ _ z => z)
theorem star_kw_call {K : Frag} {f : Value} {first : List Value} {env : Env} {pos p : Pos} {e : Expr} {kws : List Keyword} {Q : Value → Shared → Prop} (hk : keepIn K f = true) (hall : (backToKw pos (keywordEach kws env)).all (·.1.isSome) = true)
    (h : wpAny M A (eval e env) (fun v s1 => wpAny M A (evalAll ((backToKw pos (keywordEach kws env)).map (·.2))) (fun ks s2 => StarOf M A E v (fun vs s3 => K.In s3.heap ∧ wpAny M A (call f (first ++ vs) (((backToKw pos (keywordEach kws env)).filterMap (·.1)).zip ks)) Q E s3) s2) E s1) E s)
    (he : starEach [.Starred e p] env = [(true, eval e env)]) : wpAny M A (callWith pos f first (backTo pos (starEach [.Starred e p] env)) (backToKw pos (keywordEach kws env))) Q E s := by
  rw [he]
  have z := lone_kw (f := f) (x := eval e env) (pos := pos) (keywords := backToKw pos (keywordEach kws env)) (Q := fun a s3 => K.In s3.heap ∧ wpAny M A (call f (first ++ a.pos) a.kw) Q E s3) hall h
  unfold callWith
  refine wpAny_bind (wpAny_holding (wpAny_mono z (fun a s1 h1 => wpAny_bind (wpAny_standAt ?_)) fun _ _ y => y))
  obtain ⟨k, hk', L⟩ := keeps_K (M := M) hk _ h1.1
  have hst : (backTo pos [(true, eval e env)]).any (·.1) = true := rfl
  simp only [hst, Bool.true_or]
  refine wpAny_bind (L.here ?_)
  have tail : ∀ {t : Sem Value}, wpAny M A t Q E s1 → wpAny M A (t >>= fun r => holding [r] point >>= fun _ => pure r) Q E s1 := by
    intro t ht
    exact wpAny_bind (wpAny_mono ht (fun r s2 hr => wpAny_bind (wpAny_holding (wpAny_point (wpAny_pure hr)))) fun _ _ y => y)
  have marked : ∀ mk : Value, wpAny M A (callMarked mk f (first ++ a.pos) a.kw) Q E s1 := by
    intro mk
    unfold callMarked
    exact Calls.wpAny_keep h1.2
  rcases hk' with rfl | rfl | rfl
  · exact tail (marked _)
  · exact tail (wpAny_operating h1.2)
  · exact tail (wpAny_operating h1.2)
end
/-! ## defs that are called with keywords alone beside a star -/
/-- the promise of a def that is called with these keywords: of the positional values and of those of the keywords -/
def FnK (P : Program) (w : World) (K : Frag) (mg : Str → Option Value) (base : Heap) (CX : CXT) (k : Nat) (f : Addr) (ks : List Str) (sp : List V → List V → Hp → VK → XK → Prop) : Prop :=
  ∀ (A : Around) (outer : List Env) (s : Shared) (H : Hp) (us ws : List Value) (vs zs : List V) (Q : VK) (E : XK), Room k A → Env0 P w K mg base A outer s H → Vals vs us → Vals zs ws → zs.length = ks.length → sp vs zs H Q E →
    codeAny (model P w) A (.call (.ref f) ⟨us, ks.zip ws⟩) (CR CX outer P w H s Q E) s
section
variable {CX : CXT} {P : Program} {w : World} {K : Frag} {mg : Str → Option Value} {base : Heap} {k : Nat} {f : Addr} {name qual : Str} {params : Arguments} {body : List Stmt} {scope : Scope} {dV kV doc pm cdv ct oc : Value} {an od : Option Addr}
  {osl : Array (Option Value)} {N ps ks : List Str} {sp : Sp}
/-- def f(a, .., *v, x, y, ..), called f(a, .., *rest, x = .., y = .., ..): what is left over is a new tuple -/
theorem fn_starK {pv : Str} (lk : K.lookup f = some ⟨oc, od, .func (fnOf name qual params body scope dV kV doc pm an cdv ct), osl⟩) (hcd : codeIn K cdv qual = true) (S : FnScope N (ps ++ ks ++ [pv]) scope) (hCX : StX.CXUp CX)
    (hb : ∀ us rest ws : List Value, us.length = ps.length → ws.length = ks.length → bindArgs (fnOf name qual params body scope dV kV doc pm an cdv ct) ⟨us ++ rest, ks.zip ws⟩ = (newTuple rest >>= fun t => pure ((ps ++ ks).zip (us ++ ws) ++ [(pv, t)])))
    (hbody : ∀ (A : Around) (outer : List Env) (s : Shared) (H : Hp) (vs : List V) (Q : VK) (E : XK), Room k (A.deeper (envOfC qual scope s.heap.objs.size f cdv)) → sp vs H Q E →
      ∃ t, PSs (cxOf CX P w K mg base N qual scope f cdv A outer s H E) body t ∧ t { nx := fun _ H1 => Q .non H1, rt := Q } (L2.start N vs) H) :
    FnK P w K mg base CX (k + 1) f ks (fun vs zs H Q E => ∃ ws rest, vs = ws ++ rest ∧ ws.length = ps.length ∧ rest.length ≤ sizeLine ∧ ∀ p o, H p = Option.none → o.cls = .type "tuple" → o.dict = Option.none → sp (ws ++ zs ++ [V.ref p]) (upd H p (.frz o (.tup rest))) Q E) := by
  intro A outer s H us wz vs zs Q E hr e0 r rz lz hsp
  obtain ⟨ws, rest, ev, hl, hz, hq⟩ := hsp
  subst ev
  obtain ⟨u1, u2, eu, r1, r2⟩ := StX.vals_split r
  subst eu
  have fresh : H s.heap.objs.size = Option.none := e0.hok.fresh (Nat.le_refl _)
  have l1 : u1.length = ps.length := by
    rw [← r1.length]
    exact hl
  have l2 : u2.length ≤ sizeLine := by
    rw [← r2.length]
    exact hz
  have l3 : wz.length = ks.length := by
    rw [← rz.length]
    exact lz
  refine StX.run_bnd lk hcd S hr e0 (G := fun xs H2 => ∃ p o, H p = Option.none ∧ o.cls = .type "tuple" ∧ o.dict = Option.none ∧ xs = ws ++ zs ++ [V.ref p] ∧ H2 = upd H p (.frz o (.tup rest))) ?_ ?_
  · intro A2 Ex Q2 h
    rw [hb u1 u2 wz l1 l3]
    refine wpAny_bind (wpAny_newTuple (wpAny_pure ?_) l2)
    have new : ObjOk P w (upd H s.heap.objs.size (.frz ({ cls := .type "tuple", data := .seq u2.toArray } : Obj) (.tup rest))) (s.heap.push ({ cls := .type "tuple", data := .seq u2.toArray } : Obj)) s.heap.objs.size (.frz ({ cls := .type "tuple", data := .seq u2.toArray } : Obj) (.tup rest)) := ⟨Heap.get?_push_size _ rfl, hz, u2, r2, ⟨_, Heap.get?_push_size _ rfl, rfl, _, rfl⟩⟩
    have un := StX.un_laid (fs := frs outer) (s := s) (o := ({ cls := .type "tuple", data := .seq u2.toArray } : Obj)) (u := .frz ({ cls := .type "tuple", data := .seq u2.toArray } : Obj) (.tup rest)) fresh
    have z := h _ _ (ws ++ zs ++ [V.ref s.heap.objs.size]) (u1 ++ wz ++ [Value.ref s.heap.objs.size]) (StX.env0_laid e0 new) un rfl (fun e s2 => hCX outer s H _ _ E e s2 un (fun b o q => Heap.get?_push_of_some _ q) rfl) ((r1.append rz).append (.cons rfl .nil))
      (by simp [hl, lz]) ⟨_, _, fresh, rfl, rfl, rfl, rfl⟩
    rw [List.zip_append (by simp [l1, l3])] at z
    exact z
  · intro s2 H2 xs g hr2
    obtain ⟨p, o, hp, oc, od, ex, eH⟩ := g
    subst ex eH
    exact hbody A outer s2 _ _ Q E hr2 (hq p o hp oc od)
end
/-- C(*e, x = .., ..): a new instance and its dict, then __init__ -/
def tMakeSK (K : Frag) (C : Addr) (m : Nat) (sp : List V → List V → Hp → VK → XK → Prop) (E : XK) (te : TE) (tk : TA) : TE := fun σ H Q => te σ H fun y H1 => ∃ a xs, y = V.ref a ∧ tk σ H1 fun zs H2 => (SqT K H2 a xs ∨ SqL K H2 a xs) ∧ zs.length = m ∧
  ∀ x dx, H2 x = Option.none → H2 dx = Option.none → dx ≠ x → sp (V.ref x :: xs) zs (upd (upd H2 dx (.own x)) x (.ins C dx [])) (fun v H3 => v = .non ∧ Q (.ref x) H3) E
section
variable {X : Cx} {CX : CXT} {k : Nat} {f C : Addr} {ks : List Str} {sp : List V → List V → Hp → VK → XK → Prop} {E : XK} {x : Str} {p sp_ pos : Pos} {e : Expr} {kws : List Keyword} {te : TE} {tk : TA}
theorem pe_makeSK (M : Mk X.K C f) (F : FnK X.prog X.w X.K X.mg X.base CX k f ks sp) (hr : Room (k + 1) X.A) (hg : Gl X x) (hm : X.mg x = some (.ref C)) (hx : Passes CX X E) (he : PE X e te) (hkw : PK X kws tk)
    (hall : (backToKw pos (keywordEach kws X.env)).all (·.1.isSome) = true := by rfl) (hks : (backToKw pos (keywordEach kws X.env)).filterMap (·.1) = ks := by rfl) (hdb : (x == ("__debug__" : Str)) = false := by decide)
    (hst : starEach [.Starred e sp_] X.env = [(true, eval e X.env)] := by rfl) : PE X (.Call (.Name x p) [.Starred e sp_] kws pos) (tMakeSK X.K C ks.length sp E te tk) := by
  constructor
  intro pins s σ H Q I h
  refine wpAny_Call_Name_kw (ld_glob I hg hm ?_ hdb)
  refine star_kw_call M.kp hall (thn (he.run pins s σ H _ I h) ?_) hst
  intro v s1 z1
  obtain ⟨y, H1, I1, ry, a, xs, ey, q1⟩ := z1
  subst ey
  obtain rfl : v = Value.ref a := ry
  refine thn (hkw.run pos pins s1 σ H1 _ I1 q1) ?_
  intro ws s2 z2
  obtain ⟨zs, H2, I2, rz, sq, l2, q2⟩ := z2
  refine StX.star_any I2 sq ?_
  intro us s3 I3 rv
  refine ⟨I3.kIn, ?_⟩
  rw [hks]
  have hq := q2 (s3.heap.objs.size + 1) s3.heap.objs.size (I3.hok.fresh (Nat.le_succ _)) (I3.hok.fresh (Nat.le_refl _)) (Nat.ne_of_lt (Nat.lt_succ_self _))
  have J := Inv.made (C := C) I3
  have rv' : Vals (V.ref (s3.heap.objs.size + 1) :: xs) (Value.ref (s3.heap.objs.size + 1) :: us) := .cons rfl rv
  refine wpAny_call (make_map (f := f) I3.kIn M.makes M.init (beq_iff_eq.mp M.fn) (codeAny_mono (F _ X.stack _ _ (Value.ref (s3.heap.objs.size + 1) :: us) ws _ _ _ E (hr.make C us (ks.zip ws)) (J.env0.make C us (ks.zip ws)) rv' rz l2 hq) ?_))
  intro r s4 hr4
  match r, hr4 with
  | .error er, hr4 => exact hx pins σ _ _ er s4 J hr4
  | .ok .next, hr4 => exact hr4.elim
  | .ok .brk, hr4 => exact hr4.elim
  | .ok .cont, hr4 => exact hr4.elim
  | .ok (.ret u), hr4 =>
    obtain ⟨v, H3, J3, rv3, ev, q3⟩ := J.after hr4
    subst ev
    exact ⟨rv3, ⟨V.ref (s3.heap.objs.size + 1), H3, J3, rfl, q3⟩⟩
end
end Spk

set_option Elab.async false
set_option linter.all false
set_option maxRecDepth 100000
set_option maxHeartbeats 1000000
namespace Spk
open PySem PySem.Spec PyProof.Rows PySem.W L2 ClX
/-! ## C.m(e, .., k = v, ..), m a classmethod -/
def tCMethK (C : Addr) (n m : Nat) (sp : Sp) (gV : List V → List V → List V) (E : XK) (ta : TE) (t tk : TA) : TE := fun σ H Q => ta σ H fun x H1 => x = .ref C ∧ t σ H1 fun vs H2 => tk σ H2 fun zs H3 => vs.length = n ∧ zs.length = m ∧ sp (gV (.ref C :: vs) zs) H3 Q E
section
variable {X : Cx} {CX : CXT} {k n : Nat} {C p g : Addr} {fd : FuncData} {mc : Value} {sp : Sp} {E : XK} {m : Str} {ps ks : List Str} {gg : List Value → List Value → List Value} {gV : List V → List V → List V} {pos apos : Pos} {e o : Expr} {es : List Expr} {kws : List Keyword} {ta : TE} {t tk : TA}
theorem pe_cmethK {pl : Sem Bool} (he : PE X o ta) (r : CRead X.K C mc) (c : CMet X.K C mc m p g) (F : FnOk X.prog X.w X.K X.mg X.base CX k g fd ps sp) (hb : KBn X.K fd ps (n + 1) ks gg gV) (hr : Room k X.A) (hx : Passes CX X E) (ha : PA X (e :: es) t) (hk : PK X kws tk)
    (hall : (backToKw pos (keywordEach kws X.env)).all (·.1.isSome) = true := by rfl) (hks : (backToKw pos (keywordEach kws X.env)).filterMap (·.1) = ks := by rfl)
    (hse : starEach (e :: es) X.env = (false, eval e X.env) :: starEach es X.env := by rfl)
    (hpl : (((backTo pos (starEach (e :: es) X.env)).any fun x => x.1) || (backToKw pos (keywordEach kws X.env)).any fun x => x.1.isNone) = false := by rfl)
    (ht : eval (.Call (.Attribute o m apos) (e :: es) kws pos) X.env = (do
      let ov ← eval o X.env
      standAt apos.atName
      let (f, first) ← holding [ov] (getMethod ov m pl)
      callWith pos f first (backTo pos (starEach (e :: es) X.env)) (backToKw pos (keywordEach kws X.env))) := by rfl) :
    PE X (.Call (.Attribute o m apos) (e :: es) kws pos) (tCMethK C n ks.length sp gV E ta t tk) := by
  refine ⟨fun pins s σ H Q I h => ?_⟩
  refine PySem.W.methodCall_KW (pl := pl) (thn (he.run pins s σ H _ I h) fun u s1 ⟨x, H1, I1, rx, ex, z⟩ => ?_) ht
  subst ex
  obtain rfl : u = Value.ref C := rx
  refine getmethcm_ok I1 r c fun s2 I2 => ?_
  refine callwith_met (a := C) (g := g) hpl c.fi (evalArgs_kw2 hall (thn (ha.run pos _ s2 σ _ _ I2 z) fun us s3 ⟨vs, H2, I3, rv, z2⟩ => ?_) hse)
  refine thn (hk.run pos _ s3 σ H2 _ I3 z2) fun ws s4 ⟨zs, H3, I4, rz, l1, l2, q⟩ => ?_
  refine ⟨⟨pin_at I4, I4.kIn⟩, ?_⟩
  rw [hks]
  have w1 : us.length = n := by rw [← rv.length]; exact l1
  have w2 : ws.length = ks.length := by rw [← rz.length]; exact l2
  have rv' : Vals (V.ref C :: vs) (Value.ref C :: us) := .cons rfl rv
  refine wpAny_call (PySem.W.method_call (pin_at I4) (codeAny_mono (F.run X.A X.stack s4 H3 ⟨Value.ref C :: us, ks.zip ws⟩ (gg (Value.ref C :: us) ws) _ _ E hr I4.env0 (hb.to s4 (Value.ref C :: us) ws I4.kIn (by rw [List.length_cons, w1]) w2) (hb.rel rv' rz) q) ?_))
  intro r5 s5 hr5
  match r5, hr5 with
  | .error er, hr5 => exact hx _ σ _ _ er s5 I4 hr5
  | .ok .next, hr5 => exact hr5.elim
  | .ok .brk, hr5 => exact hr5.elim
  | .ok .cont, hr5 => exact hr5.elim
  | .ok (.ret u5), hr5 => exact ClX.unpinE (I4.after hr5)
theorem i_cmk {C : Addr} {n m : Nat} {sp : Sp} {gV : List V → List V → List V} {E : XK} {ta : TE} {t tk : TA} {σ : L2.St} {H : Hp} {Q : VK} (h : ta σ H fun x H1 => x = .ref C ∧ t σ H1 fun vs H2 => tk σ H2 fun zs H3 => vs.length = n ∧ zs.length = m ∧ sp (gV (.ref C :: vs) zs) H3 Q E) : tCMethK C n m sp gV E ta t tk σ H Q := h
end
/-! ## a statement that is never reached -/
def tDead : TS := fun _ _ _ => False
theorem ps_dead {X : Cx} {st : Stmt} : PS X st tDead := ⟨fun _ _ _ _ _ _ h => h.elim⟩
end Spk

set_option Elab.async false
set_option linter.all false
set_option maxRecDepth 100000
set_option maxHeartbeats 1000000
namespace Spk
open PySem PySem.Spec PyProof.Rows PySem.W L2 HT
open PySem.Froz (SD sObj addTx tailTx TxOk)
/-! ## sets of texts: what tuple(sorted(set(t))) gives -/

/-- the payload may be walked: its places rise, its order is the world's -/
structure Walkable (w : World) (D : SD) : Prop where
  ris : Ris D.2.2.place.toList
  led : w.params.followText "set-order" = true ∨ D.2.2.led = true

theorem walk_tail {w : World} {ep : Nat} {es : Array (Int × Value)} {t : SetTable} {b : Bool} (r : Ris t.place.toList) (l : w.params.followText "set-order" = true ∨ t.led = true) :
    Walkable w (tailTx ep es t b) := by
  unfold tailTx
  split
  · exact ⟨relayAll_ris t es _, l.imp id fun z => (relayAll_led t es _).trans z⟩
  · exact ⟨r, l⟩
theorem walk_add {w : World} {D : SD} (x : Walkable w D) (h : Int) (v : Value) : Walkable w (addTx h v D) := by
  have r := layNew_ris D.2.2 D.1 h v x.ris
  have l : w.params.followText "set-order" = true ∨ (layNew D.2.2 D.1 h v).2.1.led = true := x.led.imp id fun z => (layNew_led D.2.2 D.1 h v).trans z
  unfold addTx
  split
  · exact walk_tail r l
  · exact walk_tail r l

/-- at a stands a set with just the texts l, none twice -/
def TxAt (P : Program) (w : World) (a : Addr) (l : List Str) (h : Heap) : Prop :=
  ∃ D : SD, h.get? a = some (sObj "set" D) ∧ TxOk P w D l ∧ l.Nodup ∧ Walkable w D

theorem TxAt.keep {P : Program} {w : World} {a : Addr} {l : List Str} {h h' : Heap} (x : TxAt P w a l h) (k : ∀ o, h.get? a = some o → h'.get? a = some o) : TxAt P w a l h' := by
  obtain ⟨D, e, r⟩ := x
  exact ⟨D, k _ e, r⟩

section
variable {P : Program} {w : World} {A : Around} {E : Value → Shared → Prop} {s : Shared} {a : Addr} {l : List Str}
/-- a text that is there already changes nothing -/
theorem put_old {D : SD} {k : Str} {u : Tok} {Q : Bool → Shared → Prop} (ho : s.heap.get? a = some (sObj "set" D)) (F : TxOk P w D l) (hk : k ∈ l) (hb : l.length < scanBound) (h : Q false s) :
    wpAny (model P w) A (setAddHashed a (.str k u) (hashStr w k)) Q E s := by
  obtain ⟨es, ep, t⟩ := D
  have hf : t.fits es.size = true := F.fit
  have hel : ElemsOf (strKind P w) es.toList := F.el
  have hsz : es.size = l.length := F.sz
  have hm : ∃ e ∈ es.toList, (strKind P w).is k e.2 = true := (F.mem k).mp hk
  have hn : List.findIdx? (fun e => (strKind P w).is k e.2) es.toList ≠ none := fun c => by
    obtain ⟨e, he, z⟩ := hm
    exact Bool.noConfusion (z.symm.trans (List.findIdx?_eq_none_iff.mp c e he))
  unfold setAddHashed setAddHashedIn
  refine wpAny_holding (wpAny_bind (wpAny_setState_of ho rfl hf ?_))
  dsimp only
  rw [byScan_of rfl (by omega) hel, if_pos rfl]
  unfold setAddByScan
  refine wpAny_bind (wpAny_bind (wpAny_rule (wpAny_bind (wpAny_setScan_of (knd := strKind P w) (k := k) (PySem.Froz.is_str k u) ho rfl hf hel ?_))))
  cases hr : List.findIdx? (fun e => (strKind P w).is k e.2) es.toList with
  | none => exact absurd hr hn
  | some j => exact wpAny_pure (wpAny_pure h)

/-- the texts behind one more -/
def withTx (l : List Str) (k : Str) : List Str := if k ∈ l then l else k :: l
theorem withTx_mem {l : List Str} {k x : Str} : x ∈ withTx l k ↔ x = k ∨ x ∈ l := by
  unfold withTx
  split
  · rename_i h
    exact ⟨.inr, fun z => z.elim (fun e => e ▸ h) id⟩
  · exact List.mem_cons
theorem withTx_len {l : List Str} {k : Str} : (withTx l k).length ≤ l.length + 1 := by
  unfold withTx
  split <;> simp
theorem tx_put {k : Str} {u : Tok} {Q : Bool → Shared → Prop} (x : TxAt P w a l s.heap) (hb : l.length + 1 < scanBound)
    (h : ∀ b h', TxAt P w a (withTx l k) h' → Heap.SameBut a s.heap h' → Q b { s with heap := h' }) :
    wpAny (model P w) A (setAddHashed a (.str k u) (hashStr w k)) Q E s := by
  obtain ⟨D, e, F, nd, wk⟩ := x
  by_cases hk : k ∈ l
  · refine put_old e F hk (by omega) ?_
    refine h false s.heap ?_ (Heap.SameBut.refl a s.heap)
    unfold withTx
    rw [if_pos hk]
    exact ⟨D, e, F, nd, wk⟩
  · refine PySem.Froz.add_x e F hk hb ?_
    refine h true _ ?_ (Heap.SameBut.update s.heap a _)
    unfold withTx
    rw [if_neg hk]
    exact ⟨_, PySem.Froz.get_upd _ e rfl, PySem.Froz.add_ok u F, List.nodup_cons.mpr ⟨hk, nd⟩, walk_add wk _ _⟩
/-- set.add's inner step with a text -/
theorem tx_add {k : Str} {u : Tok} {Q : Bool → Shared → Prop} (x : TxAt P w a l s.heap) (hb : l.length + 1 < scanBound)
    (h : ∀ b h', TxAt P w a (withTx l k) h' → Heap.SameBut a s.heap h' → Q b { s with heap := h', toks := s.toks + 1 }) :
    wpAny (model P w) A (setAdd a (.str k u)) Q E s := by
  unfold setAdd
  refine wpAny_holding (wpAny_bind ((strKind P w).pyHash (k := k) (strKind_is _ _ _ _) ?_))
  refine tx_put (s := { s with toks := s.toks + 1 }) x hb fun b h' y sb => ?_
  exact h b h' y sb
end

/-- the texts of a row, each once -/
def onceTx : List Str → List Str → List Str := fun l xs => xs.foldl withTx l
theorem onceTx_mem : ∀ (xs l : List Str) (x : Str), x ∈ onceTx l xs ↔ x ∈ xs ∨ x ∈ l
  | [], l, x => by simp [onceTx]
  | y :: ys, l, x => by
    show x ∈ onceTx (withTx l y) ys ↔ _
    rw [onceTx_mem ys, withTx_mem, List.mem_cons]
    constructor
    · rintro (z | z | z)
      · exact .inl (.inr z)
      · exact .inl (.inl z)
      · exact .inr z
    · rintro ((z | z) | z)
      · exact .inr (.inl z)
      · exact .inl z
      · exact .inr (.inr z)
theorem onceTx_len : ∀ (xs l : List Str), (onceTx l xs).length ≤ l.length + xs.length
  | [], l => Nat.le_refl _
  | y :: ys, l => by
    have a := onceTx_len ys (withTx l y)
    have b := withTx_len (l := l) (k := y)
    rw [List.length_cons]
    exact Nat.le_trans a (by omega)
theorem onceTx_snoc (l xs : List Str) (k : Str) : onceTx l (xs ++ [k]) = withTx (onceTx l xs) k := by
  unfold onceTx
  rw [List.foldl_append] <;> rfl
theorem onceTx_take (xs : List Str) {i : Nat} {k : Str} (h : xs[i]? = some k) : onceTx [] (xs.take (i + 1)) = withTx (onceTx [] (xs.take i)) k := by
  rw [List.take_add_one, h]
  exact onceTx_snoc [] _ k

section
variable {P : Program} {w : World} {A : Around} {E : Value → Shared → Prop}
/-- set.update's inner loop over a row of texts -/
theorem tx_loop {it S : Addr} {fp wr : List Addr} {G : Array GenState → Array GenState → Prop} {xs : List Str} {Pv : Nat → Value → Prop} {St : Nat → Shared → Prop} {R : Result → Shared → Prop}
    (W : WalksS P w A.in1 it fp wr G xs.length Pv St) (hS : S ∉ fp) (hb : xs.length + 1 < scanBound) (hv : ∀ i v, Pv i v → ∃ k u, xs[i]? = some k ∧ v = .str k u) :
    ∀ (m i : Nat) (s : Shared), m + i = xs.length → St i s → TxAt P w S (onceTx [] (xs.take i)) s.heap →
      (∀ s', Moved (S :: wr) G s s' → TxAt P w S (onceTx [] xs) s'.heap → R (.ok (.ret .none)) s') →
      codeAny (model P w) A (.builtin "set.update.loop" ⟨[.ref S, .ref it], []⟩) R s := by
  have sw : S ∉ wr := fun z => hS (W.sub _ z)
  have up : ∀ b ∈ wr, b ∈ S :: wr := fun b => List.mem_cons_of_mem S
  intro m
  induction m with
  | zero =>
    intro i s e st x k
    obtain rfl : i = xs.length := by omega
    refine codeAny_builtin F.entry_set_update_loop ?_
    rw [Around.under_plainId F.plain_set_update_loop _]
    show wpAny _ A.in1 (pyNext (.ref it) >>= _) _ _ s
    refine wpAny_bind (W.done s _ _ st fun s1 mv => wpAny_pure (k s1 (mv.mono up) ?_))
    rw [List.take_length] at x
    exact x.keep fun o => mv.heap S o sw
  | succ m ih =>
    intro i s e st x k
    refine codeAny_builtin F.entry_set_update_loop ?_
    rw [Around.under_plainId F.plain_set_update_loop _]
    show wpAny _ A.in1 (pyNext (.ref it) >>= _) _ _ s
    refine wpAny_bind (W.item i s _ _ (by omega) st fun v s1 pv st1 mv => ?_)
    obtain ⟨z, u, hz, rfl⟩ := hv i v pv
    have x1 := x.keep (h' := s1.heap) fun o => mv.heap S o sw
    have hl : (onceTx [] (xs.take i)).length + 1 < scanBound := by
      have q := onceTx_len (xs.take i) []
      rw [List.length_take] at q
      have : ([] : List Str).length = 0 := rfl
      omega
    show wpAny _ A.in1 (holding [Value.str z u] (setAdd S (.str z u)) >>= _) _ _ s1
    refine wpAny_bind (wpAny_holding (tx_add x1 hl fun b h' x2 sb => wpAny_pure ⟨plainId_quiet F.plain_set_update_loop _, ?_⟩))
    have old : ∀ c ∈ fp, ∀ o, s1.heap.get? c = some o → h'.get? c = some o := fun c hc o e => (sb.2 c fun z => hS (z ▸ hc)).trans e
    refine ih (i + 1) _ (by omega) (W.frame _ s1 _ _ st1 (Nat.le_succ _) old) (by rw [onceTx_take xs hz]; exact x2) fun s2 mv2 y => k s2 ?_ y
    exact Moved.trans W.gtrans ((mv.mono up).then_heap (Nat.le_succ _) fun c o hc e => (sb.2 c fun z => hc (by rw [z]; exact List.mem_cons_self)).trans e) mv2

/-- the object that set() lays down -/
def bare (w : World) : Obj := { cls := .type "set", dict := none, data := .set #[] 0 (.fresh 0 0 (!w.params.followText "set-order")) }
theorem bare_tx {h : Heap} {S : Addr} (e : h.get? S = some (bare w)) : TxAt P w S [] h :=
  ⟨(#[], 0, .fresh 0 0 (!w.params.followText "set-order")), e, PySem.Froz.TxOk.nil rfl, List.nodup_nil, ⟨List.Pairwise.nil, by
    show _ ∨ (!w.params.followText "set-order") = true
    cases w.params.followText "set-order" <;> simp⟩⟩

/-- what set(t) asks of its answer -/
def Done (P : Program) (w : World) (s : Shared) (xs : List Str) (s' : Shared) : Prop :=
  ∃ h' tk, s' = { s with heap := h', toks := tk } ∧ TxAt P w s.heap.objs.size (onceTx [] xs) h' ∧ ∀ b o, b < s.heap.objs.size → s.heap.get? b = some o → h'.get? b = some o

variable {s : Shared}
theorem tx_item : ∀ {us : List Value} {xs : List Str}, StrsAre us xs → ∀ (i : Nat) (v : Value), us[i]? = some v → ∃ k u, xs[i]? = some k ∧ v = .str k u
  | _, _, .cons y t _, 0, v, e => ⟨y, t, rfl, (Option.some.inj e).symm⟩
  | _, _, .cons y t r, i + 1, v, e => tx_item r i v e
/-- set.__init__ over a tuple of texts -/
theorem tx_init {l : Addr} {items : Array Value} {xs : List Str} (hh : A.handled = none) (hl : s.heap.IsTuple l items) (hi : StrsAre items.toList xs) (hb : xs.length + 1 < scanBound) :
    codeAny (model P w) A (.call (.builtin "set.__init__") ⟨[.ref s.heap.objs.size, .ref l], []⟩) (wants (fun r s' => r = .none ∧ Done P w s xs s') E) { s with heap := s.heap.push (bare w) } := by
  have hS : (s.heap.push (bare w)).get? s.heap.objs.size = some (bare w) := Heap.get?_push_size _ rfl
  have hT : Shared.TypeIs { s with heap := s.heap.push (bare w) } (.ref s.heap.objs.size) "set" := ⟨_, hS, rfl⟩
  obtain ⟨ol, hol, hcl, nl, hdl⟩ := hl
  have hlS : l < s.heap.objs.size := Heap.lt_size hol
  have hol' : (s.heap.push (bare w)).get? l = some ol := Heap.get?_push_of_some _ hol
  have hTl : Shared.TypeIs { s with heap := s.heap.push (bare w) } (.ref l) "tuple" := ⟨_, hol', hcl⟩
  have hl1 : (s.heap.push (bare w)).IsTuple l items := ⟨_, hol', hcl, nl, hdl⟩
  have n1 := F.sub_tuple_set
  have n2 := F.sub_tuple_frozenset
  have n3 : (Value.type "tuple" == Value.type "dict") = false := by decide
  refine codeAny_call_builtin F.called_set.init.plain F.entry_set_init (check_set_init_1 hT ?_)
  unfold Builtin.«set.__init__» noKeywords Builtin.Frozenset.updateFrom
  generalize hPI : pyIter = PI
  wp_walk
  subst hPI
  refine wpAny_pyIter_tuple hl1 (wpAny_bind (wpAny_runValue ?_))
  have sz : (s.heap.push (bare w)).objs.size = s.heap.objs.size + 1 := Heap.size_push ..
  have he : ∀ (i : Nat) (v : Value), items[i]? = some v → ∃ k u, xs[i]? = some k ∧ v = .str k u := fun i v hv => by
    have hv' : items.toList[i]? = some v := by rw [Array.getElem?_toList]; exact hv
    exact tx_item hi i v hv'
  have hn : items.size = xs.length := by rw [← StrsAre.len_eq hi, Array.length_toList]
  have W := (Walks.tuple (prog := P) (w := w) (A := A.in1.in1) (by simp [hh]) (s.heap.push (bare w)).objs.size l (by rw [sz]; exact Nat.ne_of_lt (Nat.lt_succ_of_lt hlS)) items).toS
  rw [hn] at W
  have out : s.heap.objs.size ∉ [(s.heap.push (bare w)).objs.size, l] := by
    rw [sz]
    simp only [List.mem_cons, List.not_mem_nil, or_false, not_or]
    exact ⟨Nat.ne_of_lt (Nat.lt_succ_self _), Nat.ne_of_gt hlS⟩
  refine tx_loop (A := A.in1) W out hb he xs.length 0 _ (by omega) ⟨⟨_, Heap.get?_push_size _ rfl, rfl, rfl⟩, hl1.push _⟩ (bare_tx (Heap.get?_push_of_some _ hS)) fun s' mv y => ?_
  refine wpAny_pure (wpAny_pure ⟨rfl, s'.heap, s'.toks, ?_, y, fun b o hlt e => ?_⟩)
  · obtain ⟨h', g', d', tk', os'⟩ := s'
    obtain rfl : g' = s.gens := mv.gens
    obtain rfl : d' = s.drawn := mv.drawn
    obtain rfl : os' = s.os := mv.os
    rfl
  · refine mv.heap b o (fun z => ?_) (Heap.get?_push_of_some _ (Heap.get?_push_of_some _ e))
    simp only [List.mem_cons, List.not_mem_nil, or_false] at z
    rcases z with z | z
    · exact absurd z (Nat.ne_of_lt hlt)
    · exact absurd (z.trans sz) (Nat.ne_of_lt (Nat.lt_succ_of_lt hlt))
/-- set(t), t a tuple of texts -/
theorem call_tx {l : Addr} {items : Array Value} {xs : List Str} {Q : Value → Shared → Prop} (hh : A.handled = none) (hl : s.heap.IsTuple l items) (hi : StrsAre items.toList xs) (hb : xs.length + 1 < scanBound)
    (h : ∀ s', Done P w s xs s' → Q (.ref s.heap.objs.size) s') : wpAny (model P w) A (call (.type "set") [.ref l]) Q E s := by
  obtain ⟨c, tl, hmro⟩ := F.called_set.mro
  have i1 := F.called_set.made
  have i2 := F.called_set.sub
  have i3 := F.called_set.notType
  have i4 := F.called_set.canCreate
  have i5 := F.typeCall_set_1 (.ref l)
  refine wpAny_call (codeAny_of_tree ?_)
  show wpAny _ _ (callAny (.type "set") _) _ _ _
  refine wpAny_pure ⟨Code.quiet_builtin _ (by decide +kernel), codeAny_builtin F.entry_type_call ?_⟩
  rw [Around.under_plain (weight_type_call_type "set" [.ref l] []) rfl]
  repeat (any_goals (first | assumption | wp_step))
  refine codeAny_mono (code_set_led1 (.ref l) (E := E) (Q₁ := fun v s1 => v = .ref s.heap.objs.size ∧ s1 = { s with heap := s.heap.push (bare w) }) ⟨rfl, rfl⟩) fun r s1 hr => ?_
  match r, hr with
  | .error e, hr => exact hr
  | .ok (.ret v), ⟨e1, e2⟩ =>
    subst e1
    subst e2
    have hT : Shared.TypeIs { s with heap := s.heap.push (bare w) } (.ref s.heap.objs.size) "set" := ⟨_, Heap.get?_push_size _ rfl, rfl⟩
    have j1 := F.called_set.init.lookup
    have j2 := F.called_set.init.bind (.ref s.heap.objs.size)
    repeat (any_goals (first | assumption | wp_step))
    refine codeAny_mono (tx_init (E := E) hh hl hi hb) fun r2 s2 hr2 => ?_
    match r2, hr2 with
    | .error e, hr2 => exact hr2
    | .ok (.ret v), ⟨e3, dn⟩ =>
      subst e3
      repeat (any_goals (first | assumption | wp_step))
      exact h s2 dn
end
/-! ### in the user's terms -/
/-- the set of texts at a -/
def TxO (P : Program) (w : World) (a : Addr) (l : List Str) : HO := .ext fun h => TxAt P w a l h
section
variable {X : Cx}
theorem txO_get {pins : List (Addr × Obj)} {σ : L2.St} {H : Hp} {s : Shared} {a : Addr} {l : List Str} (I : Inv X pins σ H s) (ha : H a = some (TxO X.prog X.w a l)) : TxAt X.prog X.w a l s.heap := (I.hok a _ ha).1
theorem txO_new {P : Program} {w : World} {H : Hp} {h : Heap} {a : Addr} {l : List Str} (R : TxAt P w a l h) : ObjOk P w H h a (TxO P w a l) := by
  obtain ⟨D, e, _⟩ := id R
  exact ⟨R, ⟨_, e⟩, fun h1 h2 p k => p.keep k⟩
/-- set(t) of a tuple of texts -/
def rTxSet (K : PySem.W.Frag) (P : Program) (w : World) : List V → Hp → VK → Prop := fun vs H Q => ∃ (a : Addr) (xs : List Str), vs = [V.ref a] ∧ SqT K H a (xs.map V.str) ∧ xs.length ≤ 1000 ∧
  ∀ p, H p = none → Q (.ref p) (upd H p (TxO P w p (onceTx [] xs)))
theorem cr_txSet (hc : X.calm = true) : CallR X (.type "set") (rTxSet X.K X.prog X.w) := by
  intro pins s σ H vs us Q I r h
  obtain ⟨a, xs, rfl, hs, hl, q⟩ := h
  obtain ⟨its, rv, pt, hz⟩ := I.tuple hs
  rw [Vals.ref1 r]
  refine call_tx (items := its.toArray) (xs := xs) (I.ok.hd hc) (show s.heap.IsTuple a its.toArray from pt) (strsAre_of rv) (by unfold scanBound; omega) fun s' dn => ?_
  obtain ⟨h', tk, rfl, tx, keep⟩ := dn
  exact ⟨.ref _, upd H s.heap.objs.size (TxO X.prog X.w s.heap.objs.size (onceTx [] xs)), I.laid (t' := tk) (fun b u e => keep b u (Heap.lt_size e) e) (Nat.le_refl _) (txO_new tx), rfl, q _ (I.hok.fresh (Nat.le_refl _))⟩
end
/-! ### sorted -/
theorem perm_of_nodup {α : Type} [DecidableEq α] : ∀ (l zs : List α), l.Nodup → (∀ x ∈ l, x ∈ zs) → zs.length ≤ l.length → zs.Perm l
  | [], zs, _, _, h => by
    have e : zs = [] := List.eq_nil_of_length_eq_zero (Nat.le_zero.mp h)
    rw [e]
  | x :: l, zs, nd, hm, h => by
    obtain ⟨hx, nd'⟩ := List.nodup_cons.mp nd
    have mx : x ∈ zs := hm x List.mem_cons_self
    have pe := List.perm_cons_erase mx
    have le : (zs.erase x).length ≤ l.length := by
      have a := pe.length_eq
      rw [List.length_cons] at a h
      omega
    refine pe.trans (List.Perm.cons x (perm_of_nodup l (zs.erase x) nd' (fun y hy => ?_) le))
    have ne : y ≠ x := fun z => hx (by rw [← z]; exact hy)
    exact (List.mem_erase_of_ne ne).mpr (hm y (List.mem_cons_of_mem x hy))
/-- the text that a value is -/
def txOf : Value → Str
  | .str x _ => x
  | _ => Str.empty
theorem strs_txOf : ∀ us : List Value, (∀ u ∈ us, ∃ x t, u = Value.str x t) → StrsAre us (us.map txOf)
  | [], _ => .nil
  | u :: us, h => by
    obtain ⟨x, t, rfl⟩ := h u List.mem_cons_self
    exact .cons x t (strs_txOf us fun v hv => h v (List.mem_cons_of_mem _ hv))
theorem tx_rows {P : Program} {w : World} {es : Array (Int × Value)} {ep : Nat} {t : SetTable} {l : List Str} {us : List Value} (F : TxOk P w (es, ep, t) l) (nd : l.Nodup) (pm : us.Perm (es.toList.map (·.2))) :
    StrsAre us (us.map txOf) ∧ (us.map txOf).Perm l := by
  have all : ∀ u ∈ us, ∃ x t, u = Value.str x t := fun u hu => by
    obtain ⟨e, he, rfl⟩ := List.mem_map.mp (pm.mem_iff.mp hu)
    obtain ⟨⟨k, hk, _⟩, _⟩ := F.el e he
    obtain ⟨t, ev⟩ := Value.isStrOf_shape (x := k) (v := e.2) hk
    exact ⟨k, t, ev⟩
  refine ⟨strs_txOf us all, perm_of_nodup l _ nd (fun x hx => ?_) ?_⟩
  · obtain ⟨e, he, q⟩ := (F.mem x).mp hx
    obtain ⟨t, ev⟩ := Value.isStrOf_shape (x := x) (v := e.2) q
    refine List.mem_map.mpr ⟨e.2, pm.mem_iff.mpr (List.mem_map.mpr ⟨e, he, rfl⟩), ?_⟩
    rw [ev] <;> rfl
  · have z : es.size = l.length := F.sz
    rw [List.length_map, pm.length_eq, List.length_map, Array.length_toList]
    omega
section
variable {X : Cx}
/-- sorted(s) of a set of fewer than 64 texts -/
def rTxSorted (P : Program) (w : World) : List V → Hp → VK → Prop := fun vs H Q => ∃ (a : Addr) (l : List Str), vs = [V.ref a] ∧ H a = some (TxO P w a l) ∧ l.length < 64 ∧
  ∀ ys p, ys.Perm l → sortedS ys = true → H p = none → Q (.ref p) (upd H p (.lst (ys.map V.str)))
theorem cr_txSorted (hc : X.calm = true) : CallR X (.builtin "sorted") (rTxSorted X.prog X.w) := by
  intro pins s σ H vs us Q I r h
  obtain ⟨a, l, rfl, ha, h64, q⟩ := h
  obtain ⟨⟨es, ep, t⟩, ho, F, nd, wk⟩ := txO_get I ha
  have hsz : es.size = l.length := F.sz
  rw [Vals.ref1 r]
  refine Calls.call_function_entry PyProof.Rows.kind_sorted PyProof.Rows.plain_sorted PyProof.Rows.entry_sorted (PyProof.Rows.args_sorted1 _) ?_
  unfold Builtin.«sorted»
  refine wpAny_bind (m := checkCount "sorted" 1 1 _) (wpAny_pure (wpAny_bind (collect_set (A := X.A.in1) (I.ok.hd hc) ⟨_, ho, rfl, rfl⟩ F.fit (by rw [hsz]; unfold scanBound; omega) wk.ris wk.led fun s1 vs k1 hz g1 o1 pm => ?_)))
  obtain ⟨hS, pl⟩ := tx_rows F nd pm
  have hvl : vs.length = l.length := by
    have e := pl.length_eq
    rw [List.length_map] at e
    exact e
  refine wpAny_bind (wpAny_newList ?_ (by rw [hvl, sizeLine_eq]; omega))
  have hoL : (s1.heap.push (seqObj "list" vs.toArray 0)).get? s1.heap.objs.size = some (seqObj "list" vs.toArray 0) := Heap.get?_push_size _ rfl
  refine wpAny_bind (wpAny_holding (wpAny_call_entry PyProof.Rows.slot_list_sort ⟨_, hoL, rfl⟩ PyProof.Rows.entry_list_sort
    (list_sort_treeK strKind_oneLt hoL hS.keysOf (fun v1 v2 rest e => keyKind_strs (by rw [← e]; exact hS)) (by rw [hvl]; exact h64) fun st' hp hs => ⟨_, rfl, ?_⟩) (PyProof.Rows.args_list_sort _)))
  obtain ⟨ys, y1, y2, y3⟩ := sorted_out_str hS hp hs
  obtain ⟨e', he'⟩ := PyProof.Rows.sortedHeap_at (vs := vs) (out := (arrOf st').map (·.2)) hoL
  have yl : ys.Perm l := y2.trans pl
  have len : (ys.map V.str).length ≤ sizeLine := by
    rw [List.length_map, yl.length_eq, sizeLine_eq]
    omega
  have old : ∀ b u, s.heap.get? b = some u → (sortedHeap (s1.heap.push (seqObj "list" vs.toArray 0)) s1.heap.objs.size vs ((arrOf st').map (·.2))).get? b = some u := fun b u e => by
    have lt := Heap.lt_size (k1 b u e)
    rw [PyProof.Rows.sortedHeap_old (Nat.ne_of_lt lt) (by rw [size_push']; exact Nat.lt_succ_of_lt lt)]
    exact Heap.get?_push_of_some _ (k1 b u e)
  have J : Inv X pins σ (upd H s1.heap.objs.size (.lst (ys.map V.str))) { s with heap := sortedHeap (s1.heap.push (seqObj "list" vs.toArray 0)) s1.heap.objs.size vs ((arrOf st').map (·.2)), gens := s1.gens, drawn := s1.drawn, toks := s1.toks } :=
    I.call (ch := []) (Un.laid old hz (I.hok.fresh hz)) (I.hok.laid old hz ⟨len, ((arrOf st').map (·.2)).toList, e', vals_of_strs y1, by rw [Array.toArray_toList]; exact he'⟩) (by rw [g1]; exact I.bare) (fun _ z => nomatch z)
  refine wpAny_pure ⟨_, rfl, .ref s1.heap.objs.size, _, ?_, rfl, q ys _ yl y3 (I.hok.fresh hz)⟩
  obtain ⟨h1, gg1, d1, t1, os1⟩ := s1
  obtain ⟨h0, g0, d0, t0, os0⟩ := s
  cases o1
  exact J
end
end Spk

set_option Elab.async false
set_option linter.all false
set_option maxRecDepth 100000
set_option maxHeartbeats 1000000
namespace Spk
open PySem PySem.Spec PyProof.Rows PySem.W L2 HT
open PySem.Froz (SD sObj TxOk)
/-! ## len(s), s a set of texts -/
def rTxLen (P : Program) (w : World) : List V → Hp → VK → Prop := fun vs H Q => ∃ (a : Addr) (l : List Str), vs = [V.ref a] ∧ H a = some (TxO P w a l) ∧ l.length ≤ 100000 ∧ Q (.int l.length) H
theorem cr_txLen {X : Cx} : CallR X (.builtin "len") (rTxLen X.prog X.w) := by
  intro pins s σ H vs us Q I r h
  obtain ⟨a, l, rfl, ha, hl, q⟩ := h
  rw [Vals.ref1 r]
  obtain ⟨⟨es, ep, t⟩, e, F, nd, wk⟩ := txO_get I ha
  refine call_len_set (o := sObj "set" (es, ep, t)) (es := es) (ep := ep) (t := t) e ?_ rfl F.fit ?_ ?_
  · exact ⟨rfl, rfl, rfl⟩
  · have := F.sz
    simp only at this
    omega
  · have z := F.sz
    simp only at z
    rw [z]
    exact ⟨.int l.length, H, I.kept (t' := s.toks + 1 + 1) fun b u x => x, ⟨_, rfl⟩, q⟩
/-- none twice: the set has as many -/
theorem onceTx_nodup : ∀ (xs l : List Str), (l.reverse ++ xs).Nodup → (onceTx l xs).length = l.length + xs.length
  | [], l, _ => by simp [onceTx]
  | x :: xs, l, h => by
    have hx : x ∉ l := fun hm => by
      rw [List.nodup_append] at h
      exact h.2.2 x (List.mem_reverse.mpr hm) x List.mem_cons_self rfl
    have e : onceTx l (x :: xs) = onceTx (x :: l) xs := by
      show List.foldl withTx (withTx l x) xs = _
      unfold withTx
      rw [if_neg hx]
      rfl
    rw [e, onceTx_nodup xs (x :: l) (by simpa using h)]
    simp only [List.length_cons]
    omega
end Spk

set_option Elab.async false
set_option linter.all false
set_option maxRecDepth 100000
set_option maxHeartbeats 1000000
namespace Spk
open PySem PySem.Spec PyProof.Rows L2
/-! ## try: .. except X as e: v = e, and v used behind it -/
section
variable {X : Cx}
theorem unsuiteP {pins pn' : List (Addr × Obj)} {σ : L2.St} {H : Hp} {s : Shared} {a : Addr} {oe : Obj} (S : L2.Inv (X.suite a ((a, oe) :: (X.pn ++ pins))) pn' σ H s) (ok : X.Ok) : L2.Inv X ((a, oe) :: pins) σ H s :=
  { Inv.unsuite S ok with
    pin := fun p hp => S.pin p (List.mem_append_left _ (by
      rcases List.mem_append.mp hp with h | h
      · exact List.mem_cons_of_mem _ (List.mem_append_left _ h)
      · rcases List.mem_cons.mp h with rfl | h
        · exact List.mem_cons_self
        · exact List.mem_cons_of_mem _ (List.mem_append_right _ h))) }
theorem dropPin {pins : List (Addr × Obj)} {q : Addr × Obj} {σ : L2.St} {H : Hp} {s : Shared} (J : L2.Inv X (q :: pins) σ H s) : L2.Inv X pins σ H s :=
  { J with
    pin := fun p hp => J.pin p (by
      rcases List.mem_append.mp hp with h | h
      · exact List.mem_append_left _ h
      · exact List.mem_append_right _ (List.mem_cons_of_mem _ h)) }
/-- what is wished of the body's error: the handler takes it; what follows is walked with the error kept at slot j -/
def wKeep (K : PySem.W.Frag) (c : Value) (j i : Nat) (u : Addr → Value → Option Addr → TS) (D : Ends) : WX := fun cls d σ H =>
  PySem.W.exmOne K cls c = some true ∧ ∀ a, H a = none → u a cls d D ((σ.set j (some (.ref a))).set i none) H
theorem sp_drop {pins : List (Addr × Obj)} {q : Addr × Obj} {D : Ends} {f : Flow} {s : Shared} (ok : X.Ok) (h : SP (X.tr (X.pn ++ q :: pins) X.xe) [] D f s) : SP X pins D f s := by
  cases f with
  | next =>
    obtain ⟨σ', H', J, q⟩ := h
    exact ⟨σ', H', dropPin (Inv.ofTry J ok), q⟩
  | brk =>
    obtain ⟨σ', H', J, q⟩ := h
    exact ⟨σ', H', dropPin (Inv.ofTry J ok), q⟩
  | cont =>
    obtain ⟨σ', H', J, q⟩ := h
    exact ⟨σ', H', dropPin (Inv.ofTry J ok), q⟩
  | ret w =>
    obtain ⟨v, σ', H', J, r, q⟩ := h
    exact ⟨v, σ', H', dropPin (Inv.ofTry J ok), r, q⟩
theorem pss_try_keep {x n : Str} {c : Value} {i j : Nat} {body rest suite : List Stmt} {b₀ : Stmt} {np pos pos' : Pos} {tb : WX → TS} {u0 : TS} {u : Addr → Value → Option Addr → TS} (hs : X.stack = X.env :: X.outer) (hf : X.env.frame = some X.env.locals) (hN : X.N.Nodup)
    (hi : X.N[i]? = some n) (hln : X.env.kindOf n = some .local) (hj : j < X.N.length) (hc : Names X x c)
    (hb : ∀ (W : WX) (pn : List (Addr × Obj)) (xe : Value → Shared → Prop), Takes (X.tr pn xe) W → PassesOwn (model X.prog X.w) X.A X.env xe → PSs (X.tr pn xe) body (tb W))
    (hsu : ∀ (a : Addr) (oe : Obj) (pn : List (Addr × Obj)), PSs (X.suite a ((a, oe) :: pn)) (b₀ :: suite) (tAsg (tVar i) (gName j)))
    (hr : PSs X rest u0) (hre : ∀ (a : Addr) (oe : Obj) (cls : Value) (d : Option Addr) (pn : List (Addr × Obj)), Zc cls d oe → (∃ vs, oe.data = .fields vs) → (a, oe) ∈ pn → PSs (X.tr pn X.xe) rest (u a cls d)) :
    PSs X (.Try body [.ExceptHandler (some (.Name x np)) (some n) (b₀ :: suite) pos'] [] [] pos :: rest) (fun D σ H => tb (wKeep X.K c j i u D) { D with nx := u0 D } σ H) := by
  refine ⟨fun pins s σ H D I h => ?_⟩
  have ok := I.ok
  have hfr : X.A.frames = some (X.env :: X.outer) := by rw [ok.frames, hs]
  have hloc : L2.Loc X.env.scope n := .inl hln
  refine wpAny_execs_cons (wpAny_Try_except (wpAny_mono ((hb (wKeep X.K c j i u D) (X.pn ++ pins) _ (fun w s' xx => ?_) PassesOwn.looking).run [] s σ H { D with nx := u0 D } (I.toTry _) h) (fun f s1 hsp => ?_) fun _ _ he => he))
  · obtain ⟨a, B, sI, pins', σ', H', cls, d, rfl, J', nb, up, sky, na, os, ag, hb1, hyes⟩ := xx
    have J := J'.ofTry ok
    have sky' : Sky B (X.env :: X.outer) a (Zc cls d) X.env.locals s'.heap := by
      rw [← hs]
      exact sky
    refine Sky.land Zc.steady hfr hf sky' fun h3 fl3 up3 => ?_
    have J3 : L2.Inv X pins σ' H' { s' with heap := h3 } := Inv.landed J nb fl3.1 (up.trans up3) os ag
    obtain ⟨oe3, vs3, he3, hz3, hd3⟩ := HandSPX.FlyingZ.there fl3
    have nfr : a ∉ frs (X.env :: X.outer) := fun hm => by
      obtain ⟨_, o', e', hnf⟩ := fl3.2.2.1.mem hm
      rw [he3] at e'
      cases e'
      exact hnf vs3 hd3
    have nL : a ≠ X.env.locals := fun z => nfr (List.mem_filterMap.mpr ⟨X.env, List.mem_cons_self, by rw [hf, z]⟩)
    have nF : a ∉ X.fs := fun hm => by
      obtain ⟨e, he, q⟩ := List.mem_filterMap.mp hm
      exact nfr (List.mem_filterMap.mpr ⟨e, List.mem_cons_of_mem _ he, q⟩)
    have S3 := Inv.suite J3 he3 hd3 na nL nF
    have LT : PySem.W.Looks (model X.prog X.w) h3 (typeOf (.ref a)) cls := fun A Q E s k q => wpAny_typeOf_ref (k a oe3 he3) (by rw [hz3.1]; exact q)
    have LM := W.exm_one (Inv.kIn J3) LT hb1
    obtain ⟨hg, hdbg, hm⟩ := hc
    refine wpAny_handleBy_cons (codeAny_handlers_test ?_) (fun q => nomatch q)
    have test : ∀ {Q E : Value → Shared → Prop}, Q c { s' with heap := h3 } → wpAny (model X.prog X.w) (X.A.mark (some (.ref a))) (eval (.Name x np) X.env) Q E { s' with heap := h3 } := fun {Q E} q => hm.elim (fun hm => ld_glob S3 hg hm q hdbg) fun h => ld_blt S3 hg h.1 h.2.1 q h.2.2 hdbg
    refine test (W.Looks.here LM ?_)
    show codeAny _ _ _ _ _
    refine codeAny_handlers_suite_as (HandSPX.lands_againZ fl3 fun h4 fl4 up4 => ?_)
    have J4 : L2.Inv X pins σ' H' { s' with heap := h4 } := Inv.landed J nb fl4.1 ((up.trans up3).trans up4) os ag
    obtain ⟨oe4, vs4, he4, hz4, hd4⟩ := HandSPX.FlyingZ.there fl4
    have S4 := Inv.suite J4 he4 hd4 na nL nF
    refine store_ok (X := X.suite a ((a, oe4) :: (X.pn ++ pins))) S4 hN hi hloc (show RelV (.ref a) (.ref a) from rfl) (fun s5 S5 => ?_) (.inr hln)
    have il : i < σ'.length := by
      rw [J.len]
      exact (List.getElem?_eq_some_iff.mp hi).1
    have jl : j < σ'.length := by
      rw [J.len]
      exact hj
    refine wpAny_mono ((hsu a oe4 (X.pn ++ pins)).run [] s5 (σ'.set i (some (.ref a))) H' { nx := fun σ6 H6 => σ6 = (σ'.set i (some (.ref a))).set j (some (.ref a)) ∧ H6 = H', rt := fun _ _ => False, bk := fun _ _ => False, ct := fun _ _ => False } S5 ⟨.ref a, by rw [List.getElem?_set_self il], rfl, rfl⟩) (fun f s6 hsp => ?_) (fun _ _ z => z.elim)
    cases f with
    | brk =>
      obtain ⟨_, _, _, q⟩ := hsp
      exact q.elim
    | cont =>
      obtain ⟨_, _, _, q⟩ := hsp
      exact q.elim
    | ret w =>
      obtain ⟨_, _, _, _, _, q⟩ := hsp
      exact q.elim
    | next =>
      obtain ⟨σ6, H6, S6, e1, e2⟩ := hsp
      subst e1 e2
      refine gone_ok (unsuiteP S6 ok) hN hi hln fun s7 J7 => ?_
      have q := hyes a na
      have es : ((σ'.set i (some (.ref a))).set j (some (.ref a))).set i none = (σ'.set j (some (.ref a))).set i none := by
        by_cases e : i = j
        · subst e
          simp only [List.set_set]
        · rw [List.set_comm _ _ e, List.set_set]
      rw [es] at J7
      exact wpAny_mono ((hre a oe4 cls d (X.pn ++ (a, oe4) :: pins) hz4 ⟨vs4, hd4⟩ (by simp)).run [] s7 _ H6 D (J7.toTry X.xe) q) (fun f s8 h8 => sp_drop ok h8) fun _ _ z => z
  · cases f with
    | next =>
      obtain ⟨σ', H', J', q⟩ := hsp
      exact wpAny_execs_nil (hr.run pins s1 σ' H' D (J'.ofTry ok) q)
    | brk =>
      obtain ⟨σ', H', J', q⟩ := hsp
      exact ⟨σ', H', J'.ofTry ok, q⟩
    | cont =>
      obtain ⟨σ', H', J', q⟩ := hsp
      exact ⟨σ', H', J'.ofTry ok, q⟩
    | ret w =>
      obtain ⟨v, σ', H', J', r, q⟩ := hsp
      exact ⟨v, σ', H', J'.ofTry ok, r, q⟩
/-- e.f, e an error that is pinned at a -/
theorem pe_xfP {a C : Addr} {oe : Obj} {cls : Value} {d : Option Addr} {e : Expr} {te : TE} {pos : Pos} {n : Str} (T : XfC X.K C) (hno : PySem.W.findIn X.K (.ref C) n = some none) (hz : Zc cls d oe) (hf : ∃ vs, oe.data = .fields vs) (hpin : (a, oe) ∈ X.pn) (he : PE X e te)
    (hb : attributeBase e n X.env (eval e X.env) = eval e X.env := by rfl) : PE X (.Attribute e n pos) (tXf a cls d C n te) := by
  refine ⟨fun pins s σ H Q I h => attr_of hb (thn (he.run pins s σ H _ I h) fun u s1 ⟨x, H1, I1, rx, ex, ec, dd, fs, v, ed, ea, l, q⟩ => ?_)⟩
  subst ex ec ed
  obtain rfl : u = Value.ref a := rx
  have ha := (I1.pin (a, oe) (List.mem_append_left pins hpin)).1
  obtain ⟨vs, hd⟩ := hf
  obtain ⟨mA, hns, hr⟩ := I1.hok dd (.xd fs) ea
  obtain ⟨od, ho, hl⟩ := lookIn_ns hns
  obtain ⟨u, hu, ru⟩ := RelO.some_of (by rw [← l]; exact hr n)
  have J : PySem.W.InstAt s1.heap a oe C (some od) := ⟨ha, hz.1, by unfold PySem.W.notCls; rw [hd], by rw [hz.2]; exact ho⟩
  exact HandSPX.exc_get I1.kIn J T.ga T.gg T.exC (PySem.W.findObj_own T.hdC hno rfl (by rw [hl n, hu])) (handed_of ru) ⟨v, H1, I1.tok (s1.toks + 1), ru, q⟩
/-- what the text says of an error's class, for isinstance -/
structure ExP (K : PySem.W.Frag) (C : Addr) : Prop where
  is : (PySem.W.clsIn K C).isSome = true
  ga : PySem.W.findIn K (.ref C) "__getattribute__" = some (some (.builtin "BaseException.__getattribute__"))
  gg : PySem.W.findIn K (.ref C) "__getattr__" = some none
  sub : PySem.W.subIn K (.ref C) (.type "BaseException") = some true
  cls : PySem.W.findIn K (.ref C) "__class__" = some (some (.builtin "object.__class__"))
  get : PySem.W.specialIn K (.builtin "object.__class__") "__get__" = some (some (.builtin "getset_descriptor.__get__"))
  tk : PySem.W.takesIn K (.builtin "object.__class__") = some true
  mro : PySem.W.mroIn K C (.type "object") = some true
/-- isinstance(e, D), e an error that is pinned at a -/
def rIsP (K : PySem.W.Frag) (C a : Addr) (d : Option Addr) : List V → Hp → VK → Prop := fun xs H Q => ∃ (c : V) (cv : Value) (b : Bool) (dd : Addr) (fs : List (Str × V)), xs = [.ref a, c] ∧ ClsV c cv ∧ PySem.W.kitOne K (.ref C) cv = some b ∧ d = some dd ∧ H dd = some (.xd fs) ∧ Q (.bl b) H
theorem call_isP {a C : Addr} {oe : Obj} {d : Option Addr} (T : ExP X.K C) (hz : Zc (.ref C) d oe) (hf : ∃ vs, oe.data = .fields vs) (hpin : (a, oe) ∈ X.pn) : CallR X (.builtin "isinstance") (rIsP X.K C a d) := by
  intro pins s σ H xs us Q I r h
  obtain ⟨c, cv, b, dd, fs, rfl, hc, kt, ed, ea, q⟩ := h
  subst ed
  have ha := (I.pin (a, oe) (List.mem_append_left pins hpin)).1
  obtain ⟨vs, hd⟩ := hf
  obtain ⟨mA, hns, hr⟩ := I.hok dd (.xd fs) ea
  obtain ⟨od, ho, hl⟩ := lookIn_ns hns
  have J : PySem.W.InstAt s.heap a oe C (some od) := ⟨ha, hz.1, by unfold PySem.W.notCls; rw [hd], by rw [hz.2]; exact ho⟩
  cases r with
  | cons r1 r2 =>
    cases r2 with
    | cons r2 r3 =>
      cases r3
      rename_i u1 u2
      obtain rfl : u1 = Value.ref a := r1
      have e2 : u2 = cv := by
        cases hc with
        | ty n => exact r2
        | own D => exact r2
      subst e2
      exact PySem.W.kia_one (PySem.W.kitx_exc T.is T.ga T.gg T.sub T.cls T.get T.tk T.mro) I.kIn J kt (fun z => nomatch z) fun tk => ⟨.bl b, H, I.kept (t' := tk) fun _ _ z => z, rfl, q⟩
end
end Spk

set_option Elab.async false
set_option linter.all false
set_option maxRecDepth 100000
set_option maxHeartbeats 1000000
namespace Spk
open PySem PySem.Spec PyProof.Rows PySem.W L2
/-! ## C(e, .., k = v, ..), its __init__ one with a star and keywords; what it raises -/
theorem passE {X : Cx} {E : XK} (tk : Takes X (fun cls d _ H => E cls d H)) : Passes (L2.CX X.prog X.w) X E := fun pins σ H s e s' I h => passAt tk σ pins H s e s' I h
def tMakePK (C : Addr) (m : Nat) (sp : List V → List V → Hp → VK → XK → Prop) (E : XK) (t tk : TA) : TE := fun σ H Q => t σ H fun vs H1 => tk σ H1 fun zs H2 => zs.length = m ∧
  ∀ x dx, H2 x = Option.none → H2 dx = Option.none → dx ≠ x → sp (V.ref x :: vs) zs (upd (upd H2 dx (.own x)) x (.ins C dx [])) (fun v H3 => v = .non ∧ Q (.ref x) H3) E
theorem i_mkpk {C : Addr} {m : Nat} {sp : List V → List V → Hp → VK → XK → Prop} {E : XK} {t tk : TA} {σ : L2.St} {H : Hp} {Q : VK} (h : t σ H fun vs H1 => tk σ H1 fun zs H2 => zs.length = m ∧
  ∀ x dx, H2 x = Option.none → H2 dx = Option.none → dx ≠ x → sp (V.ref x :: vs) zs (upd (upd H2 dx (.own x)) x (.ins C dx [])) (fun v H3 => v = .non ∧ Q (.ref x) H3) E) : tMakePK C m sp E t tk σ H Q := h
section
variable {X : Cx} {CX : CXT} {k : Nat} {f C : Addr} {ks : List Str} {sp : List V → List V → Hp → VK → XK → Prop} {E : XK} {x : Str} {p pos : Pos} {e : Expr} {es : List Expr} {kws : List Keyword} {t tk : TA}
theorem run_makePK {pins : List (Addr × Obj)} {σ : L2.St} {H : Hp} {s : Shared} {us ws : List Value} {vs zs : List V} {Q : VK} (M : Mk X.K C f) (F : FnK X.prog X.w X.K X.mg X.base CX k f ks sp) (hr : Room (k + 1) X.A) (hx : Passes CX X E) (I : L2.Inv X pins σ H s) (rv : Vals vs us) (rz : Vals zs ws) (l : zs.length = ks.length)
    (q : ∀ x dx, H x = Option.none → H dx = Option.none → dx ≠ x → sp (V.ref x :: vs) zs (upd (upd H dx (.own x)) x (.ins C dx [])) (fun v H3 => v = .non ∧ Q (.ref x) H3) E) : wpAny (model X.prog X.w) X.A (call (.ref C) us (ks.zip ws)) (EP X pins σ Q) X.xe s := by
  have hq := q (s.heap.objs.size + 1) s.heap.objs.size (I.hok.fresh (Nat.le_succ _)) (I.hok.fresh (Nat.le_refl _)) (Nat.ne_of_lt (Nat.lt_succ_self _))
  have J := Inv.made (C := C) I
  have rv' : Vals (V.ref (s.heap.objs.size + 1) :: vs) (Value.ref (s.heap.objs.size + 1) :: us) := .cons rfl rv
  refine wpAny_call (make_map (f := f) I.kIn M.makes M.init (beq_iff_eq.mp M.fn) (codeAny_mono (F _ X.stack _ _ (Value.ref (s.heap.objs.size + 1) :: us) ws _ _ _ E (hr.make C us (ks.zip ws)) (J.env0.make C us (ks.zip ws)) rv' rz l hq) ?_))
  intro r s4 hr4
  match r, hr4 with
  | .error er, hr4 => exact hx pins σ _ _ er s4 J hr4
  | .ok .next, hr4 => exact hr4.elim
  | .ok .brk, hr4 => exact hr4.elim
  | .ok .cont, hr4 => exact hr4.elim
  | .ok (.ret u), hr4 =>
    obtain ⟨v, H3, J3, rv3, ev, q3⟩ := J.after hr4
    subst ev
    exact ⟨rv3, ⟨V.ref (s.heap.objs.size + 1), H3, J3, rfl, q3⟩⟩
theorem pe_makePK (M : Mk X.K C f) (F : FnK X.prog X.w X.K X.mg X.base CX k f ks sp) (hr : Room (k + 1) X.A) (hg : Gl X x) (hm : X.mg x = some (.ref C)) (hx : Passes CX X E) (ha : PA X (e :: es) t) (hkw : PK X kws tk)
    (hall : (backToKw pos (keywordEach kws X.env)).all (·.1.isSome) = true := by rfl) (hks : (backToKw pos (keywordEach kws X.env)).filterMap (·.1) = ks := by rfl) (hdb : (x == ("__debug__" : Str)) = false := by decide)
    (hpl : (((backTo pos (starEach (e :: es) X.env)).any fun x => x.1) || (backToKw pos (keywordEach kws X.env)).any fun x => x.1.isNone) = false := by rfl)
    (hst : starEach (e :: es) X.env = (false, eval e X.env) :: starEach es X.env := by rfl) : PE X (.Call (.Name x p) (e :: es) kws pos) (tMakePK C ks.length sp E t tk) := by
  refine ⟨fun pins s σ H Q I h => ?_⟩
  refine wpAny_Call_Name_kw (ld_glob I hg hm ?_ hdb)
  refine PySem.W.callWith_KW (h₀ := X.base) I.ok.mod.kin M.kp hall (thn (ha.run pos pins s σ H _ I h) fun us s1 ⟨vs, H1, I1, rv, q1⟩ => thn (hkw.run pos pins s1 σ H1 _ I1 q1) fun ws s2 ⟨zs, H2, I2, rz, l2, q2⟩ => ⟨I2.kIn, ?_⟩) hpl hst
  rw [hks]
  exact run_makePK M F hr hx I2 rv rz l2 q2
theorem pe_makePK0 (M : Mk X.K C f) (F : FnK X.prog X.w X.K X.mg X.base CX k f ks sp) (hr : Room (k + 1) X.A) (hg : Gl X x) (hm : X.mg x = some (.ref C)) (hx : Passes CX X E) (hkw : PK X kws tk)
    (hall : (backToKw pos (keywordEach kws X.env)).all (·.1.isSome) = true := by rfl) (hks : (backToKw pos (keywordEach kws X.env)).filterMap (·.1) = ks := by rfl) (hdb : (x == ("__debug__" : Str)) = false := by decide)
    (hpl : (((backTo pos (starEach [] X.env)).any fun x => x.1) || (backToKw pos (keywordEach kws X.env)).any fun x => x.1.isNone) = false := by rfl) : PE X (.Call (.Name x p) [] kws pos) (tMakePK C ks.length sp E tNil tk) := by
  refine ⟨fun pins s σ H Q I h => ?_⟩
  refine wpAny_Call_Name_kw (ld_glob I hg hm ?_ hdb)
  refine PySem.W.callWith_KW0 (h₀ := X.base) I.ok.mod.kin M.kp hall (thn (hkw.run pos pins s σ H _ I h) fun ws s2 ⟨zs, H2, I2, rz, l2, q2⟩ => ⟨I2.kIn, ?_⟩) hpl
  rw [hks]
  exact run_makePK M F hr hx I2 .nil rz l2 q2
end
/-! ## C.m(e, .., k = v, ..), what it raises wished for at the slots as they stand -/
def tCMethKS (C : Addr) (n m : Nat) (sp : Sp) (gV : List V → List V → List V) (E : L2.St → XK) (ta : TE) (t tk : TA) : TE := fun σ H Q => ta σ H fun x H1 => x = .ref C ∧ t σ H1 fun vs H2 => tk σ H2 fun zs H3 => vs.length = n ∧ zs.length = m ∧ sp (gV (.ref C :: vs) zs) H3 Q (E σ)
section
open ClX
variable {X : Cx} {CX : CXT} {k n : Nat} {C p g : Addr} {fd : FuncData} {mc : Value} {sp : Sp} {E : L2.St → XK} {m : Str} {ps ks : List Str} {gg : List Value → List Value → List Value} {gV : List V → List V → List V} {pos apos : Pos} {e o : Expr} {es : List Expr} {kws : List Keyword} {ta : TE} {t tk : TA}
theorem pe_cmethKS {pl : Sem Bool} (he : PE X o ta) (r : CRead X.K C mc) (c : CMet X.K C mc m p g) (F : FnOk X.prog X.w X.K X.mg X.base CX k g fd ps sp) (hb : KBn X.K fd ps (n + 1) ks gg gV) (hr : Room k X.A) (hx : ∀ σ, PassesAt CX X σ (E σ)) (ha : PA X (e :: es) t) (hk : PK X kws tk)
    (hall : (backToKw pos (keywordEach kws X.env)).all (·.1.isSome) = true := by rfl) (hks : (backToKw pos (keywordEach kws X.env)).filterMap (·.1) = ks := by rfl)
    (hse : starEach (e :: es) X.env = (false, eval e X.env) :: starEach es X.env := by rfl)
    (hpl : (((backTo pos (starEach (e :: es) X.env)).any fun x => x.1) || (backToKw pos (keywordEach kws X.env)).any fun x => x.1.isNone) = false := by rfl)
    (ht : eval (.Call (.Attribute o m apos) (e :: es) kws pos) X.env = (do
      let ov ← eval o X.env
      standAt apos.atName
      let (f, first) ← holding [ov] (getMethod ov m pl)
      callWith pos f first (backTo pos (starEach (e :: es) X.env)) (backToKw pos (keywordEach kws X.env))) := by rfl) :
    PE X (.Call (.Attribute o m apos) (e :: es) kws pos) (tCMethKS C n ks.length sp gV E ta t tk) := by
  refine ⟨fun pins s σ H Q I h => ?_⟩
  refine PySem.W.methodCall_KW (pl := pl) (thn (he.run pins s σ H _ I h) fun u s1 ⟨x, H1, I1, rx, ex, z⟩ => ?_) ht
  subst ex
  obtain rfl : u = Value.ref C := rx
  refine getmethcm_ok I1 r c fun s2 I2 => ?_
  refine callwith_met (a := C) (g := g) hpl c.fi (evalArgs_kw2 hall (thn (ha.run pos _ s2 σ _ _ I2 z) fun us s3 ⟨vs, H2, I3, rv, z2⟩ => ?_) hse)
  refine thn (hk.run pos _ s3 σ H2 _ I3 z2) fun ws s4 ⟨zs, H3, I4, rz, l1, l2, q⟩ => ?_
  refine ⟨⟨pin_at I4, I4.kIn⟩, ?_⟩
  rw [hks]
  have w1 : us.length = n := by rw [← rv.length]; exact l1
  have w2 : ws.length = ks.length := by rw [← rz.length]; exact l2
  have rv' : Vals (V.ref C :: vs) (Value.ref C :: us) := .cons rfl rv
  refine wpAny_call (PySem.W.method_call (pin_at I4) (codeAny_mono (F.run X.A X.stack s4 H3 ⟨Value.ref C :: us, ks.zip ws⟩ (gg (Value.ref C :: us) ws) _ _ (E σ) hr I4.env0 (hb.to s4 (Value.ref C :: us) ws I4.kIn (by rw [List.length_cons, w1]) w2) (hb.rel rv' rz) q) ?_))
  intro r5 s5 hr5
  match r5, hr5 with
  | .error er, hr5 => exact hx σ _ _ _ er s5 I4 hr5
  | .ok .next, hr5 => exact hr5.elim
  | .ok .brk, hr5 => exact hr5.elim
  | .ok .cont, hr5 => exact hr5.elim
  | .ok (.ret u5), hr5 => exact ClX.unpinE (I4.after hr5)
end
end Spk

set_option Elab.async false
set_option linter.all false
set_option maxRecDepth 100000
set_option maxHeartbeats 1000000
namespace Spk
open PySem PySem.Spec PyProof.Rows L2
/-! ## xs != [], xs == [] of a list of anything -/
def rNeNil : R2 := fun x y H Q => ∃ a b xs, x = .ref a ∧ y = .ref b ∧ H a = some (.lst xs) ∧ H b = some (.lst []) ∧ Q (.bl (!xs.isEmpty)) H
def rEqNil : R2 := fun x y H Q => ∃ a b xs, x = .ref a ∧ y = .ref b ∧ H a = some (.lst xs) ∧ H b = some (.lst []) ∧ Q (.bl xs.isEmpty) H
theorem op_neNil {X : Cx} (hu : X.A.units < cLine) : OpR X (compareOp .NotEq) rNeNil := by
  intro pins s σ H x y v u Q I rx ry h
  obtain ⟨a, b, xs, rfl, rfl, ha, hb, q⟩ := h
  obtain rfl : v = Value.ref a := rx
  obtain rfl : u = Value.ref b := ry
  obtain ⟨its, rv, pl, hz⟩ := I.list (SqL.of ha)
  obtain ⟨its2, rv2, pl2, hz2⟩ := I.list (SqL.of hb)
  show wpAny (model X.prog X.w) X.A (richCompare .NotEq (.ref a) (.ref b)) (EP X pins σ Q) X.xe s
  have e2 : its2 = [] := List.eq_nil_of_length_eq_zero (by rw [← rv2.length]; rfl)
  subst e2
  cases xs with
  | nil =>
    have e1 : its = [] := List.eq_nil_of_length_eq_zero (by rw [← rv.length]; rfl)
    subst e1
    exact SeqAt.RcNeAt.lists (e := fun _ => true) pl.isList pl2.isList rfl hu (fun j h1 => absurd h1 (Nat.not_lt_zero _)) _ _ _ _ ⟨.bl _, H, I, rfl, q⟩
  | cons w ws =>
    refine SeqAt.RcNeAt.lists_lengths pl.isList pl2.isList ?_ hu _ _ _ _ ⟨.bl _, H, I, rfl, q⟩
    have := rv.length
    cases its with
    | nil => simp at this
    | cons i is => rfl
theorem op_eqNil {X : Cx} (hu : X.A.units < cLine) : OpR X (compareOp .Eq) rEqNil := by
  intro pins s σ H x y v u Q I rx ry h
  obtain ⟨a, b, xs, rfl, rfl, ha, hb, q⟩ := h
  obtain rfl : v = Value.ref a := rx
  obtain rfl : u = Value.ref b := ry
  obtain ⟨its, rv, pl, hz⟩ := I.list (SqL.of ha)
  obtain ⟨its2, rv2, pl2, hz2⟩ := I.list (SqL.of hb)
  show wpAny (model X.prog X.w) X.A (richCompare .Eq (.ref a) (.ref b)) (EP X pins σ Q) X.xe s
  have e2 : its2 = [] := List.eq_nil_of_length_eq_zero (by rw [← rv2.length]; rfl)
  subst e2
  cases xs with
  | nil =>
    have e1 : its = [] := List.eq_nil_of_length_eq_zero (by rw [← rv.length]; rfl)
    subst e1
    exact SeqAt.RcAt.lists (e := fun _ => true) pl.isList pl2.isList rfl hu (fun j h1 => absurd h1 (Nat.not_lt_zero _)) _ _ _ _ ⟨.bl _, H, I, rfl, q⟩
  | cons w ws =>
    refine SeqAt.RcAt.lists_lengths pl.isList pl2.isList ?_ hu _ _ _ _ ⟨.bl _, H, I, rfl, q⟩
    have := rv.length
    cases its with
    | nil => simp at this
    | cons i is => rfl
theorem roomU {k : Nat} {A : Around} (hr : Room k A) : A.units < cLine := by
  have := hr.un
  omega
end Spk

set_option Elab.async false
set_option linter.all false
set_option maxRecDepth 100000
set_option maxHeartbeats 1000000
namespace Spk
open PySem PySem.Spec PyProof.Rows L2
/-! ## methods of tuples that are known whole -/
/-- the tuple at a, its object known -/
def TupF (H : Hp) (a : Addr) (xs : List V) : Prop := ∃ o : Obj, H a = some (.frz o (.tup xs)) ∧ o.cls = .type "tuple" ∧ o.dict = none
theorem TupF.seq {K : PySem.W.Frag} {H : Hp} {a : Addr} {xs : List V} (h : TupF H a xs) : SqT K H a xs := by
  obtain ⟨o, h, _⟩ := h
  exact .inl (.inr ⟨o, h⟩)
theorem TupF.up {H H' : Hp} {a : Addr} {xs : List V} (e : Same H H') (h : TupF H a xs) : TupF H' a xs := by
  obtain ⟨o, h, r⟩ := h
  exact ⟨o, e _ _ h, r⟩
def tBMF (r : V → List V → Hp → VK → Prop) (to : TE) (t : TA) : TE := fun σ H Q => to σ H fun x H1 => (∃ a xs, x = .ref a ∧ TupF H1 a xs) ∧ t σ H1 fun xs H2 => r x xs H2 Q
theorem i_bmf {r : V → List V → Hp → VK → Prop} {to : TE} {t : TA} {σ : L2.St} {H : Hp} {Q : VK} (h : to σ H fun x H1 => (∃ a xs, x = .ref a ∧ TupF H1 a xs) ∧ t σ H1 fun xs H2 => r x xs H2 Q) : tBMF r to t σ H Q := h
theorem pe_bmF {X : Cx} {o e : Expr} {es : List Expr} {to : TE} {t : TA} {name : Str} {apos cpos : Pos} {id : String} {r : V → List V → Hp → VK → Prop} (pa : PlainAttrs "tuple") (slot : Slot "tuple" name id) (hty : typeOf (Value.builtin id) = pure (Value.type "method_descriptor"))
    (hm : MtR X id r) (ho : PE X o to) (ha : PA X (e :: es) t) (hbase : attributeBase o name X.env (eval o X.env) = eval o X.env := by rfl)
    (hfew : ((((backTo cpos (starEach (e :: es) X.env)).all fun x => !x.1) && (backToKw cpos (keywordEach [] X.env)).all fun x => x.1.isSome) && decide (((e :: es).length + ([] : List Keyword).length + if ([] : List Keyword).isEmpty = true then 0 else 1) < 30)) = true := by rfl)
    (hline : (apos.endLine == cpos.line) = true := by rfl) (hs : starEach (e :: es) X.env = (false, eval e X.env) :: starEach es X.env := by rfl) (hpl : ((backTo cpos (starEach es X.env)).any fun x => x.1) = false := by rfl) :
    PE X (.Call (.Attribute o name apos) (e :: es) [] cpos) (tBMF r to t) := by
  refine ⟨fun pins s σ H Q I h => wpAny_Call_method_late hbase hfew hline rfl (thn (ho.run pins s σ H _ I h) fun v s1 ⟨x, H1, I1, r1, ⟨a, xs, ex, ob, hf, hc, hd⟩, q1⟩ => ?_)⟩
  subst ex
  obtain rfl : v = Value.ref a := r1
  have hg : s1.heap.get? a = some ob := (I1.hok a _ hf).1
  refine ⟨"tuple", id, pa, slot, hty, ⟨ob, hg, hc⟩, fun b e => by cases e; exact ⟨ob, hg, hd⟩, ?_⟩
  have hA := ha.run cpos pins s1 σ H1 _ I1 q1
  rw [hs] at hA ⊢
  refine Calls.callWith_builtin (by show (false || _) = false; rw [Bool.false_or]; exact hpl) (Calls.evalArgs_plain (thn hA fun us s2 ⟨vs, H2, I2, r2, q2⟩ => ?_))
  exact hm pins s2 σ H2 (.ref a) vs _ us Q I2 rfl r2 q2
end Spk

set_option Elab.async false
set_option linter.all false
namespace Spk
open PySem L2
/-! ## rules whose reading names the written part K by itself: for what stands within a comprehension -/
section
variable {X : Cx} {K : PySem.W.Frag} {e : Expr} {f : Str} {pos : Pos} {ta : TE}
theorem op_inK (h : X.K = K) : OpR X (compareOp .In) (rIn K false) := by subst h; exact op_in_seq
theorem op_notInK (h : X.K = K) : OpR X (compareOp .NotIn) (rIn K true) := by subst h; exact op_notIn_seq
theorem call_isiK (h : X.K = K) : CallR X (.builtin "isinstance") (rIsi K) := by subst h; exact call_isi
theorem pe_fldK (h : X.K = K) (he : PE X e ta) (hb : attributeBase e f X.env (eval e X.env) = eval e X.env) : PE X (.Attribute e f pos) (tFld K ta f) := by subst h; exact pe_fld he hb
theorem ix_tupK (h : X.K = K) : IxR X (rIxT K) := by subst h; exact ix_tup
theorem ix_listK (h : X.K = K) : IxR X (rIxL K) := by subst h; exact ix_list
theorem mt_tup_indexK (h : X.K = K) : MtR X "tuple.index" (fun x xs H Q => ∃ p, ∃ ys : List Str, ∃ z j, x = .ref p ∧ xs = [.str z] ∧ SqT K H p (ys.map V.str) ∧ ys[j]? = some z ∧ (∀ m, m < j → ys[m]? ≠ some z) ∧ Q (.int (j : Nat)) H) := by subst h; exact mt_tup_index
theorem mt_indexDK (h : X.K = K) (hu : X.A.units + 65 < cLine) : MtR X "list.index" (rIndexD K) := by subst h; exact mt_indexD hu
theorem op_catAK (h : X.K = K) : OpR X (binaryOp .Add) (rCatA K) := by subst h; exact op_catA
theorem sl_tupK (h : X.K = K) : SlR X (rSlT K) := by subst h; exact sl_tup
theorem call_len_seqK (h : X.K = K) : CallR X (.builtin "len") (fun xs H Q => ∃ p ys, xs = [.ref p] ∧ (SqL K H p ys ∨ SqT K H p ys) ∧ Q (.int ys.length) H) := by subst h; exact call_len_seq
theorem pe_bmK {o : Expr} {es : List Expr} {to : TE} {t : TA} {name : Str} {apos cpos : Pos} {T id : String} {r : V → List V → Hp → VK → Prop} (h : X.K = K) (pa : PlainAttrs T) (slot : Slot T name id) (hty : typeOf (Value.builtin id) = pure (Value.type "method_descriptor")) (hm : MtR X id r) (ho : PE X o to) (ha : PA X (e :: es) t)
    (hbase : attributeBase o name X.env (eval o X.env) = eval o X.env := by rfl)
    (hfew : ((((backTo cpos (starEach (e :: es) X.env)).all fun x => !x.1) && (backToKw cpos (keywordEach [] X.env)).all fun x => x.1.isSome) && decide (((e :: es).length + ([] : List Keyword).length + if ([] : List Keyword).isEmpty = true then 0 else 1) < 30)) = true := by rfl)
    (hline : (apos.endLine == cpos.line) = true := by rfl) (hs : starEach (e :: es) X.env = (false, eval e X.env) :: starEach es X.env := by rfl) (hpl : ((backTo cpos (starEach es X.env)).any fun x => x.1) = false := by rfl) :
    PE X (.Call (.Attribute o name apos) (e :: es) [] cpos) (tBM K T r to t) := by subst h; exact pe_bm pa slot hty hm ho ha hbase hfew hline hs hpl
end
theorem room65 {k : Nat} {A : Around} (hr : Room k A) : A.units + 65 < cLine := by
  have := hr.un
  omega
end Spk

set_option Elab.async false
set_option linter.all false
set_option maxRecDepth 100000
set_option maxHeartbeats 2000000
namespace Spk
open PySem PySem.Spec PyProof.Rows L2
open AutoSeq1 (wpAny_loadPart')

/-! ## for i, x in enumerate(t), t a tuple -/
abbrev itO (l : Addr) : Obj := { cls := .type "tuple_iterator", data := .fields #[.ref l, .int 0 0] }
abbrev enO (k : Addr) : Obj := { cls := .type "enumerate", data := .fields #[.none, .bool false, .ref k, rawInt 0, .none, .none] }
set_option maxHeartbeats 4000000 in
theorem enum_newT (l : Addr) (items : Array Value) (n : Nat) (dd : Option Addr) (sl : Array (Option Value)) : Meets (Builtin.«enumerate.__new__» ⟨[.type "enumerate", .ref l], []⟩) (fun _ R s =>
      s.heap.get? l = some { cls := .type "tuple", dict := dd, data := .seq items n, slots := sl } ∧ R (.ok (.ret (.ref (s.heap.push (itO l)).objs.size))) { s with heap := (s.heap.push (itO l)).push (enO s.heap.objs.size) }) :=
  .of_wp fun prog w A R s h => by
    obtain ⟨hp, g, d, tk, os⟩ := s
    obtain ⟨hl, h⟩ := h
    have hT : hp.IsTuple l items := ⟨_, hl, rfl, n, rfl⟩
    have hsub := sub_enumerate
    wp_walk using wpAny_loadPart' hl
    refine wpAny_stack_any fun st => wpAny_pure ?_
    split
    · rename_i c _ _ _ _ _
      cases (c == Value.type "enumerate") <;> (wp_walk using wpAny_loadPart' hl, wpAny_pyIter_tuple hT; exact ⟨_, rfl, h⟩)
    · (wp_walk using wpAny_loadPart' hl, wpAny_pyIter_tuple hT); exact ⟨_, rfl, h⟩

theorem call_enumT {prog : Program} {w : World} {A : Around} {E : Value → Shared → Prop} {s : Shared} {l : Addr} {items : Array Value} {Q : Value → Shared → Prop} (hL : s.heap.IsTuple l items)
    (h : ∀ h', IsEnum h' (s.heap.objs.size + 1) s.heap.objs.size 0 .none → h'.IsTupleIter s.heap.objs.size l 0 → (∀ b o, s.heap.get? b = some o → h'.get? b = some o) → Q (.ref (s.heap.objs.size + 1)) { s with heap := h' }) :
    wpAny (model prog w) A (call (.type "enumerate") [.ref l]) Q E s := by
  obtain ⟨⟨c, dct, dt, sl⟩, hl, hc, n, hd⟩ := hL
  replace hc : c = .type "tuple" := hc
  replace hd : dt = .seq items n := hd
  subst hc hd
  have hz : (s.heap.push (itO l)).objs.size = s.heap.objs.size + 1 := Heap.size_push ..
  have he : IsEnum ((s.heap.push (itO l)).push (enO s.heap.objs.size)) (s.heap.objs.size + 1) s.heap.objs.size 0 .none := by
    have := Heap.get?_push_size (s.heap.push (itO l)) (o := enO s.heap.objs.size) rfl
    rw [hz] at this
    exact this
  have fin := h _ he ⟨_, Heap.get?_push_of_some _ (Heap.get?_push_size _ rfl), rfl, rfl⟩ fun b o x => Heap.get?_push_of_some _ (Heap.get?_push_of_some _ x)
  refine callType_new PySem.F.called_enumerate (by decide) (PySem.F.typeCall_enumerate_1 _) (PySem.F.newCall_enumerate_1 _) (fun obj => PySem.F.args_object_init_2 obj _) PySem.F.entry_enumerate_new (enum_newT l items n dct sl) ⟨hl, ?_⟩
  show _ ∧ _
  rw [hz]
  exact ⟨⟨_, he, rfl⟩, fin⟩
/-- the tuple at a, each item in a new pair -/
def IteT (K : PySem.W.Frag) (a : Addr) : It where
  go := fun i H => ∃ (xs : List V) (x : V), SqT K H a xs ∧ xs[i]? = some x
  yld := fun i H v H' => ∃ T x, v = .ref T ∧ H T = none ∧ H' = upd H T (.tup [.int (i : Nat), x]) ∧ ∀ xs, SqT K H a xs → xs[i]? = some x
  stop := fun i H => ∃ xs : List V, SqT K H a xs ∧ xs.length = i
theorem turn_enumT {P : Program} {w : World} {K : PySem.W.Frag} {elts : List Expr} {kk : Nat} {tpos : Pos} (a e it : Addr) :
    Turn P w K (.Tuple elts kk tpos) (IteT K a) [e, it] e (fun i h => (∃ old, IsEnum h e it ((i : Nat) : Int) old) ∧ h.IsTupleIter it a i ∧ e ≠ it ∧ a ≠ it ∧ a ≠ e) where
  mem := by simp
  obj := fun i h st b hb => by
    obtain ⟨⟨old, he⟩, ⟨o, ho, hc, hd⟩, _⟩ := st
    rcases List.mem_cons.mp hb with rfl | hb
    · exact ⟨_, he, fun v q => nomatch q⟩
    · rw [List.mem_singleton.mp hb]
      exact ⟨o, ho, fun v q => by rw [hd] at q; cases q⟩
  keep := fun i h h' st k => by
    obtain ⟨⟨old, he⟩, hi, hne⟩ := st
    exact ⟨⟨old, k e (by simp) _ he⟩, hi.at fun o q => k it (by simp) o q, hne⟩
  item := by
    intro X hP hw hK hc i pins s σ H E I hf st hg
    subst hP hw hK
    obtain ⟨⟨old, he⟩, hit, hne, hai, hae⟩ := st
    obtain ⟨xs, x, hq, hx⟩ := hg
    obtain ⟨its, rv, p, hz⟩ := I.tuple hq
    obtain ⟨u, hu, ru⟩ := rv.get hx
    have hel : e < s.heap.objs.size := Heap.lt_size he
    have hil : it < s.heap.objs.size := by
      obtain ⟨_, q, _⟩ := hit
      exact Heap.lt_size q
    have hi : i < its.toArray.size := by
      rw [List.size_toArray]
      exact (List.getElem?_eq_some_iff.mp hu).1
    have D := Draws.tuple (prog := X.prog) (w := X.w) (A := X.A.in1) (I.ok.hd hc) it a hai its.toArray
    refine wpAny_pyNext_enum_itemD D he ⟨hit, p⟩ hi hne (by simp [hne, Ne.symm hae]) fun x' h' tk hx' ho hst hT hsz hk => ?_
    have ex : x' = u := by
      have h1 : its.toArray[i]? = some u := by simpa using hu
      rw [h1] at hx'
      exact (Option.some.inj hx').symm
    subst ex
    refine ⟨_, rfl, wpAny_letOwnedTupleGo_enum (s := { s with heap := h', toks := tk + 1 }) ho fun h'' he' sb => ?_⟩
    have hT2 : h''.get? s.heap.objs.size = some { cls := .type "tuple", data := .seq #[.int i tk, x'] } := (sb.2 _ (Nat.ne_of_gt hel)).trans hT
    have new : ObjOk X.prog X.w (upd H s.heap.objs.size (.tup [.int (i : Nat), x])) h'' s.heap.objs.size (.tup [.int (i : Nat), x]) :=
      ⟨size_of (Nat.le_of_ble_eq_true rfl), [.int i tk, x'], .cons ⟨_, rfl⟩ (.cons ru .nil), ⟨_, hT2, rfl, _, rfl⟩⟩
    have keepB : ∀ b ob, b ∉ [e, it] → s.heap.get? b = some ob → h''.get? b = some ob := fun b ob hb q => by
      simp only [List.mem_cons, List.not_mem_nil, or_false, not_or] at hb
      exact (sb.2 b hb.1).trans (hk b ob hb.1 hb.2 q)
    have I1 := I.turnedNew (t' := tk + 1) (ch := [e, it]) keepB hf (Nat.le_refl _) new
    refine ⟨.ref s.heap.objs.size, _, I1, rfl, ⟨_, x, rfl, I.hok.fresh (Nat.le_refl _), rfl, fun ys hy => by rw [I.tuple_inj hy hq]; exact hx⟩, ⟨⟨x', ?_⟩, hst.1.at fun o q => (sb.2 it (Ne.symm hne)).trans q, hne, hai, hae⟩, fun b hb => ?_⟩
    · rw [show ((i + 1 : Nat) : Int) = (i : Int) + 1 from rfl]
      exact he'
    · have hb' : b < s.heap.objs.size := by
        rcases List.mem_cons.mp hb with rfl | hb
        · exact hel
        · rw [List.mem_singleton.mp hb]; exact hil
      rw [upd_ne (Nat.ne_of_lt hb')]
      exact (hf b hb).1
  done := by
    intro X hP hw hK hc i pins s σ H E I hf st hg
    subst hP hw hK
    obtain ⟨⟨old, he⟩, hit, hne, hai, hae⟩ := st
    obtain ⟨xs, hq, hx⟩ := hg
    obtain ⟨its, rv, p, hz⟩ := I.tuple hq
    obtain ⟨f0, f1, f2, f3, f4, f5⟩ := hf it (by simp)
    have D := Draws.tuple (prog := X.prog) (w := X.w) (A := X.A.in1) (I.ok.hd hc) it a hai its.toArray
    have hsz : its.toArray.size = i := by rw [List.size_toArray, ← rv.length]; exact hx
    refine wpAny_pyNext_enum_endD D he ⟨by rw [hsz]; exact hit, p⟩ fun h' eb => ⟨rfl, ?_⟩
    exact I.turned (t' := s.toks) (fun b o hb q => eb b o hb q) f0 f1 f3 f4 f5
  self := fun A i s Q E st h => by
    obtain ⟨⟨_, he⟩, _⟩ := st
    exact wpAny_pyIter_enum he h

def iEnumT (K : PySem.W.Frag) (ta : TA) : TI := fun σ H R => ta σ H fun vs H1 => ∃ a xs, vs = [.ref a] ∧ SqT K H1 a xs ∧ R (IteT K a) H1
theorem i_iET {K : PySem.W.Frag} {σ : L2.St} {H : Hp} {ts : TA} {R : It → Hp → Prop} (h : ts σ H fun vs H1 => ∃ a xs, vs = [.ref a] ∧ SqT K H1 a xs ∧ R (IteT K a) H1) : iEnumT K ts σ H R := h
theorem pi_enumT {X : Cx} {e : Expr} {ta : TA} {p pos tpos : Pos} {elts : List Expr} {kk : Nat} (hg : Gl X "enumerate") (hm : X.mg "enumerate" = none) (ha : PA X [e] ta) (hs : starEach [e] X.env = [(false, eval e X.env)] := by rfl) :
    PI X (.Tuple elts kk tpos) (.Call (.Name "enumerate" p) [e] [] pos) (iEnumT X.K ta) := by
  refine ⟨fun pins s σ H R I h => ?_⟩
  refine Call_ (ld_blt I hg hm boot_enumerate (callWith_type1 (thn (ha.run pos pins s σ H _ I h) fun us s1 ⟨vs, H1, I1, r1, q1⟩ => ?_) hs rfl))
  obtain ⟨a, xs, ex, hq, q⟩ := q1
  subst ex
  obtain ⟨u, rfl, ru⟩ := r1.one
  cases ru
  obtain ⟨its, rv, p', hz⟩ := I1.tuple hq
  have ha' : a < s1.heap.objs.size := by
    obtain ⟨o, ho, _⟩ := p'
    exact Heap.lt_size ho
  refine call_enumT p' fun h' he hit hk => wpAny_pyIter_enum he ?_
  have I2 : Inv X pins σ H1 { s1 with heap := h' } := I1.kept (t' := s1.toks) hk
  have ne1 : a ≠ s1.heap.objs.size := Nat.ne_of_lt ha'
  have ne2 : a ≠ s1.heap.objs.size + 1 := Nat.ne_of_lt (Nat.lt_succ_of_lt ha')
  refine ⟨s1.heap.objs.size + 1, [s1.heap.objs.size + 1, s1.heap.objs.size], _, _, H1, rfl, I2, turn_enumT a (s1.heap.objs.size + 1) s1.heap.objs.size, ⟨⟨.none, he⟩, hit, Nat.succ_ne_self _, ne1, ne2⟩, fun b hb => ?_, q⟩
  have hle : s1.heap.objs.size ≤ b := by
    rcases List.mem_cons.mp hb with rfl | hb
    · exact Nat.le_succ _
    · rw [List.mem_singleton.mp hb]
      exact Nat.le_refl _
  exact I1.fpOk hle (I1.hok.fresh hle)
theorem for_enumT {K : PySem.W.Frag} {a : Addr} {xs : List V} {g : TG} {tb : TS} {D : Ends} {σ : L2.St} {H : Hp} (Pv : Nat → L2.St → Hp → Prop) (h0 : Pv 0 σ H) (hl : ∀ i σ H, i ≤ xs.length → Pv i σ H → SqT K H a xs)
    (hs : ∀ i x T σ H, xs[i]? = some x → Pv i σ H → H T = none → g (.ref T) σ (upd H T (.tup [.int (i : Nat), x])) fun σ2 H2 => tb { D with nx := Pv (i + 1), ct := Pv (i + 1), bk := D.nx } σ2 H2) (hd : ∀ σ H, Pv xs.length σ H → D.nx σ H) :
    forK g tb D σ (IteT K a) H := by
  refine ⟨fun i m σ H => m = xs.length - i ∧ i ≤ xs.length ∧ Pv i σ H, ⟨_, rfl, Nat.zero_le _, h0⟩, ?_⟩
  rintro i m σ H ⟨rfl, hi, p⟩
  by_cases e : i = xs.length
  · subst e
    exact .inl ⟨⟨xs, hl _ _ _ hi p, rfl⟩, hd _ _ p⟩
  · have hlt : i < xs.length := by omega
    refine .inr ⟨⟨xs, xs[i], hl _ _ _ hi p, List.getElem?_eq_getElem hlt⟩, Pv (i + 1), fun σ' H' p' => ⟨_, ?_, rfl, hlt, p'⟩, ?_⟩
    · omega
    · rintro x H' ⟨T, y, rfl, hT, rfl, hy⟩
      exact hs i y T σ H (hy xs (hl _ _ _ hi p)) p hT
end Spk

set_option Elab.async false
set_option linter.all false
set_option maxRecDepth 100000
set_option maxHeartbeats 1000000
namespace Spk
open PySem L2
/-! ## for i, x in enumerate(list) -/
theorem i_iE {K : PySem.W.Frag} {σ : L2.St} {H : Hp} {ta : TA} {R : It → Hp → Prop} (h : ta σ H fun vs H1 => ∃ a xs, vs = [.ref a] ∧ SqL K H1 a xs ∧ R (Ite K a) H1) : iEnum K ta σ H R := h
theorem for_enumL {K : PySem.W.Frag} {a : Addr} {xs : List V} {g : TG} {tb : TS} {D : Ends} {σ : L2.St} {H : Hp} (Pv : Nat → L2.St → Hp → Prop) (h0 : Pv 0 σ H) (hl : ∀ i σ H, i ≤ xs.length → Pv i σ H → SqL K H a xs)
    (hs : ∀ i x T σ H, xs[i]? = some x → Pv i σ H → H T = none → g (.ref T) σ (upd H T (.tup [.int (i : Nat), x])) fun σ2 H2 => tb { D with nx := Pv (i + 1), ct := Pv (i + 1), bk := D.nx } σ2 H2) (hd : ∀ σ H, Pv xs.length σ H → D.nx σ H) :
    forK g tb D σ (Ite K a) H := by
  refine ⟨fun i m σ H => m = xs.length - i ∧ i ≤ xs.length ∧ Pv i σ H, ⟨_, rfl, Nat.zero_le _, h0⟩, ?_⟩
  rintro i m σ H ⟨rfl, hi, p⟩
  by_cases e : i = xs.length
  · subst e
    exact .inl ⟨⟨xs, hl _ _ _ hi p, Nat.le_refl _⟩, hd _ _ p⟩
  · have hlt : i < xs.length := by omega
    refine .inr ⟨⟨xs, xs[i], hl _ _ _ hi p, List.getElem?_eq_getElem hlt⟩, Pv (i + 1), fun σ' H' p' => ⟨_, ?_, rfl, hlt, p'⟩, ?_⟩
    · omega
    · rintro x H' ⟨T, y, rfl, hT, rfl, hy⟩
      exact hs i y T σ H (hy xs (hl _ _ _ hi p)) p hT
end Spk

set_option Elab.async false
set_option linter.all false
set_option maxRecDepth 100000
set_option maxHeartbeats 1000000
namespace Spk
open PySem L2
def top (i : Nat) : Stmt := PySem.Challenge.pw_speaklast_k85_filters_as_texts.main.body.getD i (.Pass ⟨0, 0, 0, 0⟩)
local macro_rules | `(tactic| walk_at "rd") => `(tactic| repeat (first
  | with_reducible refine i_seq ?_ | with_reducible refine i_asg ?_ | with_reducible refine i_ret ?_ | with_reducible refine i_ifS ?_ | with_reducible refine i_if ?_
  | with_reducible refine i_for ?_ | with_reducible refine i_iL ?_ | with_reducible refine i_iT ?_ | with_reducible refine i_ckw ?_ | with_reducible refine i_cm ?_ | with_reducible refine And.intro (rfl : V.ref _ = V.ref _) ?_ | with_reducible refine i_rng1 ?_ | with_reducible refine i_bm ?_ | with_reducible refine i_bm0 ?_
  | with_reducible refine i_drop ?_ | with_reducible refine i_next ?_
  | with_reducible refine i_var rfl ?_ | with_reducible refine i_c ?_ | with_reducible refine i_op ?_ | with_reducible refine i_un ?_ | with_reducible refine i_name ?_
  | with_reducible refine i_rI0 ?_ | with_reducible refine i_rU ?_ | with_reducible refine i_rEq rfl ?_ | with_reducible refine i_rNe rfl ?_
  | with_reducible refine i_test ?_ | with_reducible refine i_tB ?_ | with_reducible refine i_and ?_ | with_reducible refine i_or ?_ | with_reducible refine i_not ?_
  | with_reducible refine i_andV ?_ | with_reducible refine i_orV ?_ | with_reducible refine i_notV ?_
  | with_reducible refine i_cons ?_ | with_reducible refine i_nil ?_ | with_reducible refine i_cb ?_ | with_reducible refine i_call ?_ | with_reducible refine i_bl ?_
  | with_reducible refine i_tup ?_ | with_reducible refine i_lst ?_ | with_reducible refine i_par ?_ | with_reducible refine i_gcons ?_ | with_reducible refine i_gnil ?_
  | with_reducible refine And.intro (rfl : V.non = V.non) ?_ | with_reducible refine i_ixT (by assumption) rfl ?_ | with_reducible refine i_ixL (by assumption) rfl ?_ | with_reducible refine i_gtup (by assumption) rfl ?_
  | with_reducible refine i_gsub ?_
  | with_reducible refine Or.inl (Exists.intro _ (And.intro (rfl : [V.int _] = [V.int _]) ?_)) | with_reducible refine Exists.intro _ (And.intro (rfl : [V.int _] = [V.int _]) ?_)
  | with_reducible refine Or.inr (Exists.intro _ (And.intro (rfl : [V.bl _] = [V.bl _]) ?_))
  | with_reducible refine Exists.intro _ (Exists.intro _ (And.intro (rfl : [V.int _, V.int _] = [V.int _, V.int _]) ?_))
  | with_reducible refine Exists.intro _ (Exists.intro _ (And.intro (rfl : [V.ref _] = [V.ref _]) (And.intro (Or.inl (SqL.of (by assumption))) ?_)))
  | with_reducible refine i_rI (show (0 : Int) < _ by assumption) ?_ | with_reducible refine i_rI (show (0 : Int) < _ by decide) ?_
  | with_reducible refine i_rI (pow_ok (Nat.le_of_ble_eq_true rfl) (Nat.le_of_ble_eq_true rfl)) ?_
  | with_reducible refine i_rI (cmulL rfl) ?_))
theorem _root_.L2.Same.mut {H0 H : Hp} {d : Addr} {o : HO} (e : Same H0 H) (h : H0 d = none) : Same H0 (upd H d o) := fun b u hb => by
  rw [upd_ne (ne_of_none hb h)]
  exact e b u hb
theorem i_sl {r : V → Option Int → Option Int → Hp → VK → Prop} {te : TE} {tl th : TO} {σ : L2.St} {H : Hp} {Q : VK} (h : te σ H fun x H1 => tl σ H1 fun l H2 => th σ H2 fun u H3 => r x l u H3 Q) : tSl r te tl th σ H Q := h
theorem i_part {te : TE} {σ : L2.St} {H : Hp} {P : Option Int → Hp → Prop} (h : te σ H fun x H1 => ∃ i, x = .int i ∧ P (some i) H1) : tPart te σ H P := h
theorem i_noPart {σ : L2.St} {H : Hp} {P : Option Int → Hp → Prop} (h : P none H) : tNoPart σ H P := h
theorem sql_up {K : PySem.W.Frag} {H H' : Hp} {a : Addr} {xs : List V} (e : Same H H') (h : SqL K H a xs) : SqL K H' a xs := by
  rcases h with h | h
  · rcases h with h | ⟨o, h⟩
    · exact .inl (.inl (e _ _ h))
    · exact .inl (.inr ⟨o, e _ _ h⟩)
  · exact .inr h
/-! ### the pen: what is drawn from the script -/
/-- what a pen holds -/
def pend (L : Addr) (a l : Int) : List (Key × V) := [(Sum.inr "cells", .ref L), (Sum.inr "at", .int a), (Sum.inr "left", .int l)]
def penny : HO → Bool
  | .dK [(Sum.inr _, .ref _), (Sum.inr _, .int _), (Sum.inr _, .int _)] => true
  | _ => false
/-- all but a pen is as it was -/
def Keep (H H' : Hp) : Prop := ∀ b o, penny o = false → H b = some o → H' b = some o
theorem Keep.refl (H : Hp) : Keep H H := fun _ _ _ h => h
theorem Keep.trans {H H1 H2 : Hp} (a : Keep H H1) (b : Keep H1 H2) : Keep H H2 := fun c o p h => b c o p (a c o p h)
theorem Same.keep {H H' : Hp} (e : Same H H') : Keep H H' := fun b o _ h => e b o h
def Pen (H : Hp) (p L : Addr) (n : Nat) : Prop := ∃ (ns : List Int) (at_ lg : Int), H p = some (.dK (pend L at_ lg)) ∧ H L = some (.lst (ns.map V.int)) ∧ ns.length ≤ 63 ∧ 0 ≤ at_ ∧ at_ ≤ n ∧ 0 ≤ lg
theorem Pen.up {H H' : Hp} {p L : Addr} {n : Nat} (e : Same H H') (h : Pen H p L n) : Pen H' p L n := by
  obtain ⟨ns, a, l, h1, h2, r⟩ := h
  exact ⟨ns, a, l, e _ _ h1, e _ _ h2, r⟩
theorem Pen.mono {H : Hp} {p L : Addr} {n m : Nat} (h : Pen H p L n) (e : n ≤ m) : Pen H p L m := by
  obtain ⟨ns, a, l, h1, h2, h3, h4, h5, h6⟩ := h
  exact ⟨ns, a, l, h1, h2, h3, h4, by omega, h6⟩
theorem pend_cells {L : Addr} {a l : Int} : valV (pend L a l) (Sum.inr "cells") = some (.ref L) := rfl
theorem pend_at {L : Addr} {a l : Int} : valV (pend L a l) (Sum.inr "at") = some (.int a) := rfl
theorem pend_left {L : Addr} {a l : Int} : valV (pend L a l) (Sum.inr "left") = some (.int l) := rfl
theorem pend_setA {L : Addr} {a l a' : Int} : putK (pend L a l) (Sum.inr "at") (.int a') = pend L a' l := rfl
theorem pend_setL {L : Addr} {a l l' : Int} : putK (pend L a l) (Sum.inr "left") (.int l') = pend L a l' := rfl
section
variable {H : Hp} {p L : Addr} {a l : Int}
theorem pen_cells (h : H p = some (.dK (pend L a l))) : DGet H p (.str "cells") (some (.ref L)) := by
  rw [← pend_cells (a := a) (l := l)]
  exact DGet.k (k := Sum.inr "cells") h
theorem pen_at (h : H p = some (.dK (pend L a l))) : DGet H p (.str "at") (some (.int a)) := by
  rw [← pend_at (L := L) (l := l)]
  exact DGet.k (k := Sum.inr "at") h
theorem pen_left (h : H p = some (.dK (pend L a l))) : DGet H p (.str "left") (some (.int l)) := by
  rw [← pend_left (L := L) (a := a)]
  exact DGet.k (k := Sum.inr "left") h
theorem pen_putA {a' : Int} (h : H p = some (.dK (pend L a l))) : DPut H p (.str "at") (.int a') (upd H p (.dK (pend L a' l))) := by
  rw [← pend_setA (a := a)]
  exact DPut.k (k := Sum.inr "at") h (by show 3 < sizeLine; decide)
theorem pen_putL {l' : Int} (h : H p = some (.dK (pend L a l))) : DPut H p (.str "left") (.int l') (upd H p (.dK (pend L a l'))) := by
  rw [← pend_setL (l := l)]
  exact DPut.k (k := Sum.inr "left") h (by show 3 < sizeLine; decide)
end
theorem penny_lst (xs : List V) : penny (.lst xs) = false := rfl
/-- a pen is written anew -/
theorem pen_put {H : Hp} {p L : Addr} {ns : List Int} {a l a' l' : Int} (hp : H p = some (.dK (pend L a l))) (hL : H L = some (.lst (ns.map V.int))) :
    ∃ H1, upd H p (.dK (pend L a' l')) = H1 ∧ Keep H H1 ∧ H1 p = some (.dK (pend L a' l')) ∧ H1 L = some (.lst (ns.map V.int)) := by
  have : L ≠ p := fun z => by
    subst z
    rw [hp] at hL
    cases hL
  refine ⟨_, rfl, fun b o hb e => ?_, upd_same, by rw [upd_ne this]; exact hL⟩
  have : b ≠ p := fun z => by
    subst z
    rw [hp] at e
    cases e
    simp [penny, pend] at hb
  rw [upd_ne this]
  exact e
theorem pen_set {H : Hp} {p L : Addr} {ns : List Int} {a l a' l' : Int} {n : Nat} (hp : H p = some (.dK (pend L a l))) (hL : H L = some (.lst (ns.map V.int))) (h1 : ns.length ≤ 63) (h2 : 0 ≤ a') (h3 : a' ≤ n) (h4 : 0 ≤ l') :
    Keep H (upd H p (.dK (pend L a' l'))) ∧ Pen (upd H p (.dK (pend L a' l'))) p L n := by
  obtain ⟨H1, e, k, x, y⟩ := pen_put (a' := a') (l' := l') hp hL
  rw [e]
  exact ⟨k, ns, a', l', x, y, h1, h2, h3, h4⟩
theorem dps_ints {K : PySem.W.Frag} {H : Hp} : ∀ ns : List Int, DpAll K H (ns.map V.int) (ns.map PyData.int)
  | [] => .nil
  | n :: ns => .cons (.int n) (dps_ints ns)
theorem eqv_ints : ∀ ns ms : List Int, PyData.eqvAll (ns.map PyData.int) (ms.map PyData.int) = decide (ns = ms)
  | [], [] => by simp [PyData.eqvAll]
  | [], _ :: _ => by simp [PyData.eqvAll]
  | _ :: _, [] => by simp [PyData.eqvAll]
  | a :: ns, b :: ms => by
    simp only [List.map_cons, PyData.eqvAll, PyData.eqv, eqv_ints ns ms, List.cons.injEq]
    rw [Bool.eq_iff_iff]
    simp
theorem lay_ints : ∀ ns : List Int, PyData.canLayAll0 (ns.map PyData.int) = true
  | [] => by simp [PyData.canLayAll0]
  | n :: ns => by simp [PyData.canLayAll0, PyData.canLay0, lay_ints ns]
theorem dep_ints : ∀ ns : List Int, PyData.depthAll (ns.map PyData.int) ≤ 1
  | [] => by simp [PyData.depthAll]
  | n :: ns => by
    have := dep_ints ns
    simp only [List.map_cons, PyData.depthAll, PyData.depth]
    omega
theorem shaped_ints (ns : List Int) : SeqAt.shaped (.list (ns.map PyData.int)) = true := by
  have h1 := lay_ints ns
  have h2 := dep_ints ns
  have h3 : (PyData.list (ns.map PyData.int)).depth ≤ 2 := by
    simp only [PyData.depth]
    omega
  unfold SeqAt.shaped
  rw [Bool.and_eq_true, decide_eq_true_eq]
  exact ⟨by simpa only [PyData.canLay0] using h1, by omega⟩
theorem mul_bd {a b A B : Int} (h1 : 0 ≤ a) (h2 : a ≤ A) (h3 : 0 ≤ b) (h4 : b ≤ B) : 0 ≤ a * b ∧ a * b ≤ A * B :=
  ⟨Int.mul_nonneg h1 h3, Int.mul_le_mul h2 h4 h3 (Int.le_trans h1 h2)⟩
section
variable {P : Program} {w : World} {K : PySem.W.Frag} {mg : Str → Option Value} {base : Heap}
abbrev s_pen : Stmt := top 46
theorem sc_pen : FnScope ["_law_script"] ["_law_script"] (defScope s_pen) := ⟨rfl, rfl, rfl, by decide +kernel, rfl, by decide +kernel, by decide +kernel⟩
def sp_pen (K : PySem.W.Frag) : Sp := fun vs H Q _ => ∃ a, ∃ ns : List Int, vs = [.ref a] ∧ SqL K H a (ns.map V.int) ∧ ns.length ≤ 63 ∧ ∀ p L H', Same H H' → Pen H' p L 0 → Q (.ref p) H'
theorem cut_ints (ns : List Int) (lo hi : Option Int) : ∃ ns' : List Int, cutV (ns.map V.int) lo hi = ns'.map V.int ∧ ns'.length ≤ ns.length := by
  refine ⟨(ns.drop (HT.sIx (ns.map V.int).length 0 lo)).take (HT.sIx (ns.map V.int).length (ns.map V.int).length hi - HT.sIx (ns.map V.int).length 0 lo), ?_, ?_⟩
  · unfold cutV
    rw [List.map_take, List.map_drop]
  · rw [List.length_take, List.length_drop]
    omega
theorem ok_pen {f : Addr} {fd : FuncData} (F : Fun K "_law_pen" "_law_pen" s_pen f fd) (z_list : mg "list" = none) : FnOk P w K mg base CX0 1 f fd ["_law_script"] (sp_pen K) := by
  refine F.ok sc_pen (fun vs H Q E h => ?_) (fun cdv A outer s H vs Q E hr h => ?_)
  · obtain ⟨a, ns, rfl, _⟩ := h
    rfl
  · obtain ⟨a, ns, rfl, ha, hz, q⟩ := h
    refine ⟨_, (pss_one (ps_ret (pe_disp (pps_cons pe_str (pe_callTy call_list_of (by rfl) z_list (by decide +kernel) (pa_cons (pe_slice sl_list (pv 0) po_none (po_some pe_int)) pa_nil)) (pps_cons pe_str pe_int (pps_cons pe_str pe_int pps_nil))) (by rfl) (by rfl) (fun z => by cases z) (by decide)))), ?_⟩
    walk_at "rd"
    unfold tDisp
    intro p hp
    obtain ⟨H0, e0, s0, h0⟩ := new_heap (o := .dK []) hp
    rw [e0]
    unfold tPairs
    walk_at "rd"
    refine i_sl ?_
    walk_at "rd"
    refine i_noPart (i_part ?_)
    walk_at "rd"
    refine ⟨63, rfl, a, _, rfl, sql_up s0 ha, fun p1 hp1 => ?_⟩
    obtain ⟨ns', e, hl⟩ := cut_ints ns none (some 63)
    rw [e]
    obtain ⟨H1, e1, s1, h1⟩ := new_heap (o := .lst (ns'.map V.int)) hp1
    rw [e1]
    walk_at "rd"
    intro l hl'
    obtain ⟨H2, e2, s2, h2⟩ := new_heap (o := .lst (ns'.map V.int)) hl'
    rw [e2]
    show tPairs [_, _] _ _ _
    unfold tPairs
    walk_at "rd"
    unfold tPairs
    walk_at "rd"
    have s02 : Same H0 H2 := fun b o z => s2 _ _ (s1 _ _ z)
    refine ⟨s02 _ _ h0, [(Sum.inr "cells", .ref l), (Sum.inr "at", .int 0), (Sum.inr "left", .int 0)], rfl, (by show 3 ≤ 15; decide), ?_⟩
    rw [show mergeK [] [((Sum.inr "cells" : Key), V.ref l), (Sum.inr "at", .int 0), (Sum.inr "left", .int 0)] = pend l 0 0 from rfl]
    have lp : l ≠ p := fun z => by
      rw [z, s2 _ _ (s1 _ _ h0)] at h2
      cases h2
    refine q p l _ (Same.mut (fun b o z => s02 _ _ (s0 _ _ z)) hp) ⟨ns', 0, 0, upd_same, by rw [upd_ne lp]; exact h2, by omega, Int.le_refl _, Int.le_refl _, Int.le_refl _⟩
abbrev s_draw : Stmt := top 47
theorem sc_draw : FnScope ["_law_pen_here", "_law_many", "_law_digit", "_law_at", "_law_cells", "_law_cell", "_law_rest", "_law_one"] ["_law_pen_here", "_law_many"] (defScope s_draw) := ⟨rfl, rfl, rfl, by decide +kernel, rfl, by decide +kernel, by decide +kernel⟩
def sp_draw : Sp := fun vs H Q _ => ∃ p L n m, vs = [.ref p, .int m] ∧ Pen H p L n ∧ n ≤ 10000 ∧ 0 < m ∧ m ≤ 1000000000000 ∧ ∀ d H', 0 ≤ d → d < m → Keep H H' → Pen H' p L (n + 1) → Q (.int d) H'
theorem ok_draw {f : Addr} {fd : FuncData} (F : Fun K "_law_draw" "_law_draw" s_draw f fd) (z_int : mg "int" = none) (z_len : mg "len" = none) (z_abs : mg "abs" = none) : FnOk P w K mg base CX0 1 f fd ["_law_pen_here", "_law_many"] sp_draw := by
  refine F.ok sc_draw (fun vs H Q E h => ?_) (fun cdv A outer s H vs Q E hr h => ?_)
  · obtain ⟨p, L, n, m, rfl, _⟩ := h
    rfl
  · obtain ⟨p, L, n, m, rfl, ⟨ns, a, l, hp, hL, hz, a0, an, l0⟩, hn, m0, m1, q⟩ := h
    refine ⟨_, (pss_cons (ps_if (pt_cmpR op_gt (pe_dget (Nat.lt_of_le_of_lt (Nat.add_le_add_left (by decide : 1 ≤ 64) _) hr.units) (pv 0) pe_str (fun _ _ => rfl)) pe_int (nomark _))
 (pss_cons (ps_set (i := 2) sc_draw.nd rfl (Or.inl rfl) (pe_op op_mod (pe_callTy call_int1 (by rfl) z_int (by decide +kernel) (pa_cons (pe_dget (Nat.lt_of_le_of_lt (Nat.add_le_add_left (by decide : 1 ≤ 64) _) hr.units) (pv 0) pe_str (fun _ _ => rfl)) pa_nil)) (pv 1)))
 (pss_cons (ps_asg (pe_op op_fdivW (pe_callTy call_int1 (by rfl) z_int (by decide +kernel) (pa_cons (pe_dget (Nat.lt_of_le_of_lt (Nat.add_le_add_left (by decide : 1 ≤ 64) _) hr.units) (pv 0) pe_str (fun _ _ => rfl)) pa_nil)) (pv 1)) (pg_sub (pv 0) pe_str (set_dict (Nat.lt_of_le_of_lt (Nat.add_le_add_left (by decide : 1 ≤ 64) _) hr.units))))
 (pss_one (ps_ret (pv 2)))))
 pss_nil)
 (pss_cons (ps_set (i := 3) sc_draw.nd rfl (Or.inl rfl) (pe_callTy call_int1 (by rfl) z_int (by decide +kernel) (pa_cons (pe_dget (Nat.lt_of_le_of_lt (Nat.add_le_add_left (by decide : 1 ≤ 64) _) hr.units) (pv 0) pe_str (fun _ _ => rfl)) pa_nil)))
 (pss_cons (ps_asg (pe_op op_add (pv 3) pe_int) (pg_sub (pv 0) pe_str (set_dict (Nat.lt_of_le_of_lt (Nat.add_le_add_left (by decide : 1 ≤ 64) _) hr.units))))
 (pss_cons (ps_set (i := 4) sc_draw.nd rfl (Or.inl rfl) (pe_dget (Nat.lt_of_le_of_lt (Nat.add_le_add_left (by decide : 1 ≤ 64) _) hr.units) (pv 0) pe_str (fun _ _ => rfl)))
 (pss_cons (ps_set (i := 5) sc_draw.nd rfl (Or.inl rfl) (pe_ifExp (pt_cmpR (op_neD hr.units) (pv 4) (pe_lst pa_nil) (nomark _)) (pe_callTy call_int1 (by rfl) z_int (by decide +kernel) (pa_cons (pe_ix ix_list (pv 4) (pe_op op_mod (pe_callTy call_int1 (by rfl) z_int (by decide +kernel) (pa_cons (pv 3) pa_nil)) (pe_callB call_len_seq (by rfl) z_len PySem.boot_len (pa_cons (pv 4) pa_nil))) (fun _ _ => rfl)) pa_nil)) (pe_op op_mul pe_int (pv 3))))
 (pss_cons (ps_if (PW.pt (pw_and (pt_cmpR op_lt (pv 3) (pe_callB call_len_seq (by rfl) z_len PySem.boot_len (pa_cons (pv 4) pa_nil)) (nomark _)) (pw_and1 (pt_cmpR op_ge (pe_callB call_abs (by rfl) z_abs (by decide +kernel) (pa_cons (pv 5) pa_nil)) (pe_op op_pow pe_int pe_int) (nomark _)))))
 (pss_cons (ps_set (i := 6) sc_draw.nd rfl (Or.inl rfl) (pe_op op_add (pe_op op_mul pe_int (pe_callB call_abs (by rfl) z_abs (by decide +kernel) (pa_cons (pv 5) pa_nil))) (pe_callTy call_int1 (by rfl) z_int (by decide +kernel) (pa_cons (pe_cmpR op_lt (pv 5) pe_int (nomark _)) pa_nil))))
 (pss_cons (ps_asg (pe_op op_fdivW (pv 6) (pv 1)) (pg_sub (pv 0) pe_str (set_dict (Nat.lt_of_le_of_lt (Nat.add_le_add_left (by decide : 1 ≤ 64) _) hr.units))))
 (pss_one (ps_ret (pe_op op_mod (pe_callTy call_int1 (by rfl) z_int (by decide +kernel) (pa_cons (pv 6) pa_nil)) (pv 1))))))
 pss_nil)
 (pss_cons (ps_set (i := 7) sc_draw.nd rfl (Or.inl rfl) (pe_op op_mod (pe_callTy call_int1 (by rfl) z_int (by decide +kernel) (pa_cons (pe_op op_add (pe_op op_add (pe_op op_mul (pe_op op_mod (pe_callTy call_int1 (by rfl) z_int (by decide +kernel) (pa_cons (pv 5) pa_nil)) pe_int) pe_int) (pe_op op_mul (pv 3) pe_int)) pe_int) pa_nil)) pe_int))
 (pss_cons (ps_set (i := 7) sc_draw.nd rfl (Or.inl rfl) (pe_op op_mod (pe_callTy call_int1 (by rfl) z_int (by decide +kernel) (pa_cons (pe_op op_add (pe_op op_mul (pe_op op_mod (pe_callTy call_int1 (by rfl) z_int (by decide +kernel) (pa_cons (pe_op op_mul (pv 7) (pv 7)) pa_nil)) pe_int) pe_int) (pe_op op_mul (pv 3) pe_int)) pa_nil)) pe_int))
 (pss_one (ps_ret (pe_op op_mod (pe_callTy call_int1 (by rfl) z_int (by decide +kernel) (pa_cons (pe_op op_fdivW (pv 7) pe_int) pa_nil)) (pv 1)))))))))))), ?_⟩
    have wd : ∀ i : Int, CDivW i m := fun i => wide_div (b := 64) m0 (by omega) (by decide) (by decide)
    walk_at "rd"
    unfold tDGet
    walk_at "rd"
    refine ⟨p, _, rfl, pen_left hp, ?_⟩
    walk_at "rd"
    refine ite_d (fun h => ?_) (fun h => ?_)
    · walk_at "rd"
      refine ⟨p, _, rfl, pen_left hp, ?_⟩
      walk_at "rd"
      refine ⟨p, _, rfl, pen_left hp, ?_⟩
      walk_at "rd"
      refine i_rI (wd _) ?_
      walk_at "rd"
      refine ⟨p, _, rfl, pen_putL hp, ?_⟩
      walk_at "rd"
      obtain ⟨k, pe⟩ := pen_set (a' := a) (l' := l / m) (n := n + 1) hp hL hz a0 (by omega) (Int.ediv_nonneg l0 (by omega))
      exact q _ _ (Int.emod_nonneg _ (by omega)) (Int.emod_lt_of_pos _ m0) k pe
    · walk_at "rd"
      refine ⟨p, _, rfl, pen_at hp, ?_⟩
      walk_at "rd"
      refine ⟨p, _, rfl, pen_putA hp, ?_⟩
      obtain ⟨H1, e1, k1, hp1, hL1⟩ := pen_put (a' := a + 1) (l' := l) hp hL
      rw [e1]
      walk_at "rd"
      refine ⟨p, _, rfl, pen_cells hp1, ?_⟩
      walk_at "rd"
      refine ⟨Nat.zero_le _, fun r hr => ?_⟩
      obtain ⟨H2, e2, s2, h2⟩ := new_heap (o := .lst []) hr
      rw [e2]
      have hp2 := s2 _ _ hp1
      have hL2 := s2 _ _ hL1
      have k2 : Keep H H2 := k1.trans (Same.keep s2)
      refine ⟨.list (ns.map PyData.int), .list (([] : List Int).map PyData.int), .lst (SqL.of hL2) (dps_ints ns), .lst (SqL.of h2) .nil, shaped_ints ns, shaped_ints [], ?_⟩
      rw [show PyData.eqv (.list (ns.map PyData.int)) (.list (([] : List Int).map PyData.int)) = decide (ns = []) from eqv_ints ns []]
      -- the end of the draw, from the cell on
      have fin : ∀ (l' d : Int), 0 ≤ l' → 0 ≤ d → d < m → Q (.int d) (upd H2 p (.dK (pend L (a + 1) l'))) := fun l' d hl' hd0 hd1 => by
        obtain ⟨k, pe⟩ := pen_set (a' := a + 1) (l' := l') (n := n + 1) hp2 hL2 hz (by omega) (by omega) hl'
        exact q _ _ hd0 hd1 (k2.trans k) pe
      have fin0 : ∀ d : Int, 0 ≤ d → d < m → Q (.int d) H2 := fun d h0 h1 =>
        q _ _ h0 h1 k2 ⟨ns, a + 1, l, hp2, hL2, hz, by omega, by omega, l0⟩
      walk_at "rd"
      refine ite_nd (fun hne => ?_) (fun he => ?_)
      · walk_at "rd"
        have hpos : (0 : Int) < ((ns.map V.int).length : Int) := by
          cases ns with
          | nil => exact absurd rfl hne
          | cons x xs => simp
        refine i_rI hpos ?_
        have hlen : ((ns.map V.int).length : Int) = (ns.length : Int) := by rw [List.length_map]
        rw [hlen] at hpos ⊢
        have i0 := Int.emod_nonneg a (b := (ns.length : Int)) (by omega)
        have i1 := Int.emod_lt_of_pos a hpos
        obtain ⟨j, hj⟩ : ∃ j : Nat, a % (ns.length : Int) = (j : Int) := ⟨(a % (ns.length : Int)).toNat, by omega⟩
        rw [hj]
        have hjl : j < ns.length := by omega
        refine i_ixL hL2 (atI_nat (by rw [List.getElem?_map, List.getElem?_eq_getElem hjl]; rfl)) ?_
        walk_at "rd"
        generalize hc : ns[j] = c
        refine ite_d (fun h1 => ?_) (fun h1 => ?_)
        · walk_at "rd"
          refine ite_d (fun h2 => ?_) (fun h2 => ?_)
          · walk_at "rd"
            refine i_rI (wd _) ?_
            walk_at "rd"
            refine ⟨p, _, rfl, pen_putL hp2, ?_⟩
            walk_at "rd"
            refine fin _ _ (Int.ediv_nonneg ?_ (by omega)) (Int.emod_nonneg _ (by omega)) (Int.emod_lt_of_pos _ m0)
            split <;> split <;> omega
          · walk_at "rd"
            have c0 := Int.emod_nonneg c (b := 1000003) (by decide)
            have c1 := Int.emod_lt_of_pos c (b := 1000003) (by decide)
            refine i_rI (.inl ⟨by omega, by omega⟩) ?_
            walk_at "rd"
            refine i_rI (.inl ⟨by omega, by omega⟩) ?_
            walk_at "rd"
            generalize hx : (c % 1000003 * 48271 + a * 69621 + 12345) % 2147483647 = x
            have x0 : 0 ≤ x := by rw [← hx]; exact Int.emod_nonneg _ (by decide)
            have x1 : x < 2147483647 := by rw [← hx]; exact Int.emod_lt_of_pos _ (by decide)
            refine i_rI (.inl ⟨by omega, by omega⟩) ?_
            walk_at "rd"
            generalize hy : x * x % 2147483629 = y
            have y0 : 0 ≤ y := by rw [← hy]; exact Int.emod_nonneg _ (by decide)
            have y1 : y < 2147483629 := by rw [← hy]; exact Int.emod_lt_of_pos _ (by decide)
            refine i_rI (.inl ⟨by omega, by omega⟩) ?_
            walk_at "rd"
            refine i_rI (.inl ⟨by omega, by omega⟩) ?_
            walk_at "rd"
            refine i_rI (wide_div (b := 8) (by decide) (by decide) (by decide) (by decide)) ?_
            walk_at "rd"
            exact fin0 _ (Int.emod_nonneg _ (by omega)) (Int.emod_lt_of_pos _ m0)
        · refine iteF ?_
          walk_at "rd"
          have c0 := Int.emod_nonneg c (b := 1000003) (by decide)
          have c1 := Int.emod_lt_of_pos c (b := 1000003) (by decide)
          refine i_rI (.inl ⟨by omega, by omega⟩) ?_
          walk_at "rd"
          refine i_rI (.inl ⟨by omega, by omega⟩) ?_
          walk_at "rd"
          generalize hx : (c % 1000003 * 48271 + a * 69621 + 12345) % 2147483647 = x
          have x0 : 0 ≤ x := by rw [← hx]; exact Int.emod_nonneg _ (by decide)
          have x1 : x < 2147483647 := by rw [← hx]; exact Int.emod_lt_of_pos _ (by decide)
          refine i_rI (.inl ⟨by omega, by omega⟩) ?_
          walk_at "rd"
          generalize hy : x * x % 2147483629 = y
          have y0 : 0 ≤ y := by rw [← hy]; exact Int.emod_nonneg _ (by decide)
          have y1 : y < 2147483629 := by rw [← hy]; exact Int.emod_lt_of_pos _ (by decide)
          refine i_rI (.inl ⟨by omega, by omega⟩) ?_
          walk_at "rd"
          refine i_rI (.inl ⟨by omega, by omega⟩) ?_
          walk_at "rd"
          refine i_rI (wide_div (b := 8) (by decide) (by decide) (by decide) (by decide)) ?_
          walk_at "rd"
          exact fin0 _ (Int.emod_nonneg _ (by omega)) (Int.emod_lt_of_pos _ m0)
      · subst he
        walk_at "rd"
        generalize hc : 31 * a = c
        refine ite_d (fun h1 => ?_) (fun h1 => ?_)
        · walk_at "rd"
          refine ite_d (fun h2 => ?_) (fun h2 => ?_)
          · walk_at "rd"
            refine i_rI (wd _) ?_
            walk_at "rd"
            refine ⟨p, _, rfl, pen_putL hp2, ?_⟩
            walk_at "rd"
            refine fin _ _ (Int.ediv_nonneg ?_ (by omega)) (Int.emod_nonneg _ (by omega)) (Int.emod_lt_of_pos _ m0)
            split <;> split <;> omega
          · walk_at "rd"
            have c0 := Int.emod_nonneg c (b := 1000003) (by decide)
            have c1 := Int.emod_lt_of_pos c (b := 1000003) (by decide)
            refine i_rI (.inl ⟨by omega, by omega⟩) ?_
            walk_at "rd"
            refine i_rI (.inl ⟨by omega, by omega⟩) ?_
            walk_at "rd"
            generalize hx : (c % 1000003 * 48271 + a * 69621 + 12345) % 2147483647 = x
            have x0 : 0 ≤ x := by rw [← hx]; exact Int.emod_nonneg _ (by decide)
            have x1 : x < 2147483647 := by rw [← hx]; exact Int.emod_lt_of_pos _ (by decide)
            refine i_rI (.inl ⟨by omega, by omega⟩) ?_
            walk_at "rd"
            generalize hy : x * x % 2147483629 = y
            have y0 : 0 ≤ y := by rw [← hy]; exact Int.emod_nonneg _ (by decide)
            have y1 : y < 2147483629 := by rw [← hy]; exact Int.emod_lt_of_pos _ (by decide)
            refine i_rI (.inl ⟨by omega, by omega⟩) ?_
            walk_at "rd"
            refine i_rI (.inl ⟨by omega, by omega⟩) ?_
            walk_at "rd"
            refine i_rI (wide_div (b := 8) (by decide) (by decide) (by decide) (by decide)) ?_
            walk_at "rd"
            exact fin0 _ (Int.emod_nonneg _ (by omega)) (Int.emod_lt_of_pos _ m0)
        · refine iteF ?_
          walk_at "rd"
          have c0 := Int.emod_nonneg c (b := 1000003) (by decide)
          have c1 := Int.emod_lt_of_pos c (b := 1000003) (by decide)
          refine i_rI (.inl ⟨by omega, by omega⟩) ?_
          walk_at "rd"
          refine i_rI (.inl ⟨by omega, by omega⟩) ?_
          walk_at "rd"
          generalize hx : (c % 1000003 * 48271 + a * 69621 + 12345) % 2147483647 = x
          have x0 : 0 ≤ x := by rw [← hx]; exact Int.emod_nonneg _ (by decide)
          have x1 : x < 2147483647 := by rw [← hx]; exact Int.emod_lt_of_pos _ (by decide)
          refine i_rI (.inl ⟨by omega, by omega⟩) ?_
          walk_at "rd"
          generalize hy : x * x % 2147483629 = y
          have y0 : 0 ≤ y := by rw [← hy]; exact Int.emod_nonneg _ (by decide)
          have y1 : y < 2147483629 := by rw [← hy]; exact Int.emod_lt_of_pos _ (by decide)
          refine i_rI (.inl ⟨by omega, by omega⟩) ?_
          walk_at "rd"
          refine i_rI (.inl ⟨by omega, by omega⟩) ?_
          walk_at "rd"
          refine i_rI (wide_div (b := 8) (by decide) (by decide) (by decide) (by decide)) ?_
          walk_at "rd"
          exact fin0 _ (Int.emod_nonneg _ (by omega)) (Int.emod_lt_of_pos _ m0)
end
end Spk

set_option Elab.async false
set_option linter.all false
set_option maxRecDepth 100000
set_option maxHeartbeats 1000000
namespace Spk
open PySem PySem.Spec PyProof.Rows PySem.W L2
/-! ## a dict with texts as keys that stands at the program's top: it is read, never written -/
/-- its entries -/
def dEs (K : PySem.W.Frag) (a : Addr) : Option (List (Int × Option V × Option V)) := match K.lookup a with
  | some ⟨c, none, .dict es _, sl⟩ => if c = .type "dict" ∧ sl.size = 0 then some (es.toList.map fun e => (e.hash, absV e.key, absV e.val)) else none
  | _ => none
/-- the entries of these pairs -/
def dEw (w : World) (kvs : List (Str × V)) : List (Int × Option V × Option V) := kvs.map fun p => (hashStr w p.1, some (.str p.1), some p.2)
structure DW (K : PySem.W.Frag) (w : World) (a : Addr) (kvs : List (Str × V)) : Prop where
  ne : (a == sysModules) = false
  es : dEs K a = some (dEw w kvs)
  nd : (kvs.map (·.1)).Nodup
theorem abs_rel {u : Value} {x : V} (h : absV u = some x) : RelV x u := by
  cases u <;> simp only [absV, Option.some.injEq, reduceCtorEq] at h <;> subst h
  all_goals first | rfl | exact ⟨_, rfl⟩
abbrev kOf (kvs : List (Str × V)) : List (Key × V) := kvs.map fun p => (Sum.inr p.1, p.2)
theorem dw_pairs {P : Program} {w : World} : ∀ {es : List DictEntry} {kvs : List (Str × V)}, (es.map fun e => (e.hash, absV e.key, absV e.val)) = dEw w kvs →
    ∃ vs : List (Key × Value), KV (kOf kvs) vs ∧ Pairs (mixKind P w) es vs ∧ (∀ e, e ∈ es → ∃ k, (mixKind P w).is k e.key = true ∧ e.hash = (mixKind P w).hash k) ∧ vs.map (·.1) = kvs.map fun p => Sum.inr p.1
  | [], [], _ => ⟨[], .nil, .nil, fun e h => absurd h List.not_mem_nil, rfl⟩
  | [], _ :: _, h => by simp [dEw] at h
  | _ :: _, [], h => by simp [dEw] at h
  | e :: es, p :: kvs, h => by
    simp only [dEw, List.map_cons, List.cons.injEq, Prod.mk.injEq] at h
    obtain ⟨⟨h1, h2, h3⟩, h4⟩ := h
    obtain ⟨vs, a, b, c, d⟩ := dw_pairs (P := P) (w := w) (es := es) (kvs := kvs) h4
    have rk : RelV (kV (Sum.inr p.1)) e.key := abs_rel h2
    refine ⟨(Sum.inr p.1, e.val) :: vs, .cons ⟨rfl, abs_rel h3⟩ a, .cons (kV_is rk) rfl b, fun x hx => ?_, by rw [List.map_cons, d]; rfl⟩
    rcases List.mem_cons.mp hx with z | hx
    · subst z
      exact ⟨Sum.inr p.1, kV_is rk, h1⟩
    · exact c x hx
theorem DW.dict {K : PySem.W.Frag} {P : Program} {w : World} {a : Addr} {kvs : List (Str × V)} {h : Heap} (D : DW K w a kvs) (X : K.In h) : ∃ vs, KV (kOf kvs) vs ∧ h.DictOf (mixKind P w) a vs := by
  have e := D.es
  unfold dEs at e
  split at e
  · rename_i c es ep sl hk
    split at e
    · rename_i hc
      obtain ⟨hc, hs⟩ := hc
      obtain ⟨vs, r, p, ks, m⟩ := dw_pairs (P := P) (w := w) (Option.some.inj e)
      refine ⟨vs, r, _, es, ep, X _ _ hk, ⟨hc, rfl, Array.eq_empty_of_size_eq_zero hs⟩, rfl, fun x hx => ks x (Array.mem_toList_iff.mpr hx), p, ?_⟩
      rw [m]
      have : (kvs.map fun p => (Sum.inr p.1 : Key)) = (kvs.map (·.1)).map Sum.inr := by rw [List.map_map]; rfl
      rw [this]
      exact List.pairwise_map.mpr (List.Pairwise.imp (fun {a b} hne z => hne (Sum.inr.inj z)) D.nd)
    · cases e
  · cases e
/-- what it holds at a key -/
def atW (kvs : List (Str × V)) (k : Str) : Option V := valV (kOf kvs) (Sum.inr k)
def tWIn (K : PySem.W.Frag) (w : World) (ty td : TE) : TE := fun σ H Q => ty σ H fun y H1 => td σ H1 fun x H2 => ∃ a k kvs, x = .ref a ∧ y = .str k ∧ DW K w a kvs ∧ Q (.bl (atW kvs k).isSome) H2
def tWGet (K : PySem.W.Frag) (w : World) (td ty : TE) : TE := fun σ H Q => td σ H fun x H1 => ty σ H1 fun y H2 => ∃ a k kvs v, x = .ref a ∧ y = .str k ∧ DW K w a kvs ∧ atW kvs k = some v ∧ Q v H2
section
variable {X : Cx} {o i : Expr} {pos : Pos} {td ty : TE}
theorem pc_win (hi : PE X i ty) (ho : PE X o td) : PC X .In i o (tWIn X.K X.w ty td) := by
  refine ⟨fun pins s σ H Q I h => ?_⟩
  refine thn (hi.run pins s σ H _ I h) fun iv s1 ⟨y, H1, I1, ry, q1⟩ => thn (ho.run pins s1 σ H1 _ I1 q1) fun u s2 ⟨x, H2, I2, rx, a, k, kvs, ex, ey, D, q2⟩ => ?_
  subst ex ey
  obtain rfl : u = Value.ref a := rx
  obtain ⟨vs, rel, dd⟩ := D.dict (P := X.prog) I2.kIn
  have rk : RelV (kV (Sum.inr k)) iv := ry
  refine wpAny_in_of (kV_is rk) D.ne dd.mapOf ?_
  rw [← (rel.val (Sum.inr k)).isSome_eq]
  exact ⟨.bl _, H2, I2.tok _, rfl, q2⟩
theorem pe_wget (ho : PE X o td) (hi : PE X i ty) (hs : NoSl i) : PE X (.Subscript o i pos) (tWGet X.K X.w td ty) := by
  refine ⟨fun pins s σ H Q I h => ?_⟩
  refine subD_of PySem.F.slot_dict_getitem.lookup hs (thn (ho.run pins s σ H _ I h) fun u s1 ⟨x, H1, I1, rx, q1⟩ => thn (hi.run pins s1 σ H1 _ I1 q1) fun iv s2 ⟨y, H2, I2, ry, a, k, kvs, v, ex, ey, D, hv, q2⟩ => ?_)
  subst ex ey
  obtain rfl : u = Value.ref a := rx
  obtain ⟨vs, rel, dd⟩ := D.dict (P := X.prog) I2.kIn
  have rk : RelV (kV (Sum.inr k)) iv := ry
  obtain ⟨w', hw, rw'⟩ := RelO.some_of (v := v) (o := valueAt vs (Sum.inr k)) (by rw [← hv]; exact rel.val (Sum.inr k))
  exact ⟨dd.typeIs, wpAny_getItem_of (kV_is rk) dd.mapOf hw ⟨v, H2, I2.tok _, rw', q2⟩⟩
end
end Spk

set_option Elab.async false
set_option linter.all false
set_option maxRecDepth 100000
set_option maxHeartbeats 0
namespace Spk
open PySem L2
/-! ### what the top leaves -/
abbrev at1 (x : Str) : PySem.W.Frag → Addr := fun K => He.ga K x
abbrev atM (c m : Str) : PySem.W.Frag → Addr := fun K => He.ma K (He.ga K c) m
abbrev atC (c m : Str) : PySem.W.Frag → Addr := fun K => He5.wf K (He.ga K c) "classmethod" m
abbrev atP (c m : Str) : PySem.W.Frag → Addr := fun K => He5.wf K (He.ga K c) "property" m
def dfn (a : PySem.W.Frag → Addr) (x q : Str) (st : Stmt) : He5.DefA := ⟨a, x, q, defArgs st, defBody st, defScope st, [], []⟩
def defs : List He5.DefA := [dfn (at1 "show_ranges") "show_ranges" "show_ranges" (top 2),
  dfn (at1 "text_of_parts") "text_of_parts" "text_of_parts" (top 3),
  dfn (at1 "text_of_part") "text_of_part" "text_of_part" (top 4),
  dfn (at1 "text_of_end") "text_of_end" "text_of_end" (top 5),
  dfn (at1 "show_filter") "show_filter" "show_filter" (top 6),
  dfn (at1 "words_of_tree") "words_of_tree" "words_of_tree" (top 7),
  dfn (at1 "start_of") "start_of" "start_of" (top 10),
  dfn (at1 "joined") "joined" "joined" (top 11),
  dfn (at1 "touches") "touches" "touches" (top 12),
  dfn (at1 "later_end") "later_end" "later_end" (top 13),
  dfn (at1 "in_parts") "in_parts" "in_parts" (top 15),
  dfn (at1 "all_columns") "all_columns" "all_columns" (top 18),
  dfn (at1 "truth_of") "truth_of" "truth_of" (top 19),
  dfn (at1 "truth_within") "truth_within" "truth_within" (top 20),
  dfn (at1 "both") "both" "both" (top 21),
  dfn (at1 "either") "either" "either" (top 22),
  dfn (at1 "negated") "negated" "negated" (top 23),
  dfn (at1 "is_name") "is_name" "is_name" (top 28),
  dfn (at1 "closed") "closed" "closed" (top 35),
  dfn (at1 "joined_by") "joined_by" "joined_by" (top 36),
  dfn (at1 "number_in") "number_in" "number_in" (top 37),
  dfn (at1 "ranges_in") "ranges_in" "ranges_in" (top 38),
  dfn (at1 "stretch_in") "stretch_in" "stretch_in" (top 39),
  dfn (at1 "read_filter") "read_filter" "read_filter" (top 41),
  dfn (at1 "phrases_of") "phrases_of" "phrases_of" (top 42),
  dfn (at1 "phrases_in") "phrases_in" "phrases_in" (top 43),
  dfn (at1 "end_of_line") "end_of_line" "end_of_line" (top 44),
  dfn (at1 "_law_pen") "_law_pen" "_law_pen" (top 46),
  dfn (at1 "_law_draw") "_law_draw" "_law_draw" (top 47),
  dfn (at1 "_law_name") "_law_name" "_law_name" (top 48),
  dfn (at1 "_law_names") "_law_names" "_law_names" (top 49),
  dfn (at1 "_law_bound") "_law_bound" "_law_bound" (top 50),
  dfn (at1 "_law_parts") "_law_parts" "_law_parts" (top 51),
  dfn (at1 "_law_ranges") "_law_ranges" "_law_ranges" (top 52),
  dfn (at1 "_law_parts_text") "_law_parts_text" "_law_parts_text" (top 53),
  dfn (at1 "_law_leaf") "_law_leaf" "_law_leaf" (top 54),
  dfn (at1 "_law_tree") "_law_tree" "_law_tree" (top 55),
  dfn (at1 "_law_filter") "_law_filter" "_law_filter" (top 56),
  dfn (at1 "_law_words") "_law_words" "_law_words" (top 57),
  dfn (at1 "_law_flat") "_law_flat" "_law_flat" (top 58),
  dfn (at1 "_law_right") "_law_right" "_law_right" (top 59),
  dfn (at1 "_law_deep") "_law_deep" "_law_deep" (top 60),
  dfn (at1 "_law_long") "_law_long" "_law_long" (top 61),
  dfn (at1 "law") "law" "law" (top 62),
  dfn (atM "Ranges" "__init__") "__init__" "Ranges.__init__" (inClass (top 9) 0),
  dfn (atM "Ranges" "__or__") "__or__" "Ranges.__or__" (inClass (top 9) 5),
  dfn (atM "Filter" "__init__") "__init__" "Filter.__init__" (inClass (top 17) 0),
  dfn (atM "Filter" "__and__") "__and__" "Filter.__and__" (inClass (top 17) 5),
  dfn (atM "Filter" "__or__") "__or__" "Filter.__or__" (inClass (top 17) 6),
  dfn (atM "Filter" "__invert__") "__invert__" "Filter.__invert__" (inClass (top 17) 7),
  dfn (atM "Filter" "__eq__") "__eq__" "Filter.__eq__" (inClass (top 17) 8),
  dfn (atM "Filter" "__call__") "__call__" "Filter.__call__" (inClass (top 17) 9),
  dfn (atM "Phrase" "__init__") "__init__" "Phrase.__init__" (inClass (top 34) 0),
  dfn (atM "Phrase" "has_more") "has_more" "Phrase.has_more" (inClass (top 34) 1),
  dfn (atM "Phrase" "next_word") "next_word" "Phrase.next_word" (inClass (top 34) 2),
  dfn (atM "Phrase" "check") "check" "Phrase.check" (inClass (top 34) 3),
  dfn (atM "Phrase" "end") "end" "Phrase.end" (inClass (top 34) 4),
  dfn (atM "Phrase" "next_name") "next_name" "Phrase.next_name" (inClass (top 34) 6),
  dfn (atM "Phrase" "next_ranges") "next_ranges" "Phrase.next_ranges" (inClass (top 34) 11),
  dfn (atM "Phrase" "next_filter") "next_filter" "Phrase.next_filter" (inClass (top 34) 12),
  dfn (atM "Phrase" "condition") "condition" "Phrase.condition" (inClass (top 34) 13),
  dfn (atC "Ranges" "between") "between" "Ranges.between" (inClass (top 9) 2),
  dfn (atC "Ranges" "empty") "empty" "Ranges.empty" (inClass (top 9) 4),
  dfn (atC "Filter" "within") "within" "Filter.within" (inClass (top 17) 1),
  dfn (atC "Filter" "missing") "missing" "Filter.missing" (inClass (top 17) 2),
  dfn (atC "Filter" "always") "always" "Filter.always" (inClass (top 17) 3),
  dfn (atC "Filter" "never") "never" "Filter.never" (inClass (top 17) 4)]
def names : List Str := "show_ranges" :: "text_of_parts" :: "text_of_part" :: "text_of_end" :: "show_filter" :: "words_of_tree" :: "start_of" :: "joined" :: "touches" :: "later_end" :: "in_parts" :: "all_columns" :: "truth_of" :: "truth_within" :: "both" :: "either" :: "negated" :: "is_name" :: "closed" :: "joined_by" :: "number_in" :: "ranges_in" :: "stretch_in" :: "read_filter" :: "phrases_of" :: "phrases_in" :: "end_of_line" :: "_law_pen" :: "_law_draw" :: "_law_name" :: "_law_names" :: "_law_bound" :: "_law_parts" :: "_law_ranges" :: "_law_parts_text" :: "_law_leaf" :: "_law_tree" :: "_law_filter" :: "_law_words" :: "_law_flat" :: "_law_right" :: "_law_deep" :: "_law_long" :: "law" :: "Ranges" :: "Filter" :: "Phrase" :: "SIGNS" :: []
def kits : List Str := ["abs", "all", "bool", "enumerate", "int", "isinstance", "len", "list", "max", "range", "repr", "set", "sorted", "str", "tuple"]
def plain : List He.Fa := names.map He.Fa.glo ++ (kits.map He.Fa.free ++ [.int "MOST_WORDS" 400, .int "MOST_SIGNS" 100, .int "DIGITS_OF_BOUNDS" 12, .cls "Ranges", .noat "Ranges" "parts", .mkr "Ranges", .meth "Ranges" "__or__", .meth "Ranges" "__eq__", .cls "Filter", .noat "Filter" "tree", .noat "Filter" "columns", .mkr "Filter", .meth "Filter" "__and__", .meth "Filter" "__or__", .meth "Filter" "__invert__", .meth "Filter" "__eq__", .meth "Filter" "__call__", .cls "Phrase", .noat "Phrase" "line", .noat "Phrase" "words", .noat "Phrase" "place", .mkr "Phrase", .meth "Phrase" "has_more", .meth "Phrase" "next_word", .meth "Phrase" "check", .meth "Phrase" "end", .meth "Phrase" "next_ranges", .meth "Phrase" "next_name", .meth "Phrase" "condition", .meth "Phrase" "next_filter"])
def six : List String := ["NoneType", "bool", "int", "str", "list", "tuple"]
/-- what else is told of the class -/
def eqB (K : PySem.W.Frag) (C : Addr) : Bool :=
  (decide (PySem.W.findIn K (.ref C) "__ne__" = some (some (.builtin "object.__ne__"))) && (decide (PySem.W.subIn K (.ref C) (.type "object") = some true) && ((six.all fun t => decide (PySem.W.subIn K (.ref C) (.type t) = some false)) &&
  ((six.all fun t => decide (PySem.W.kitOne K (.type t) (.ref C) = some false)) && ((six.all fun t => PySem.W.notFirst K C (.type t)) && (decide (PySem.W.findIn K (.ref C) "__class__" = some (some (.builtin "object.__class__"))) &&
  (decide (PySem.W.specialIn K (.builtin "object.__class__") "__get__" = some (some (.builtin "getset_descriptor.__get__"))) && (decide (PySem.W.takesIn K (.builtin "object.__class__") = some true) && (decide (PySem.W.mroIn K C (.type "object") = some true) &&
  decide (PySem.W.kitOne K (.ref C) (.ref C) = some true))))))))))
/-- a class's classmethods -/
def clmB (K : PySem.W.Frag) (C : Addr) (ms : List Str) : Bool := PySem.W.readsIn K C (.type "type") && (decide (PySem.W.specialIn K (.ref C) "__getattribute__" = some (some (.builtin "type.__getattribute__"))) && ms.all fun m => He5.wrapB K C "classmethod" "classmethod.__get__" m && PySem.W.fnIn K (He5.wf K C "classmethod" m))
/-- what else is told of the classes -/
def moreB (K : PySem.W.Frag) : Bool :=
  (clmB K (He.ga K "Ranges") ["between", "empty"] && (eqB K (He.ga K "Ranges") && (PySem.W.selfFirst K (He.ga K "Ranges") && (clmB K (He.ga K "Filter") ["within", "missing", "always", "never"] && (eqB K (He.ga K "Filter") && (PySem.W.selfFirst K (He.ga K "Filter") && (PySem.W.fnIn K (He.ma K (He.ga K "Filter") "__call__") && (!(He.ga K "SIGNS" == sysModules) && true))))))))
/-- where to look: what the names reach in n steps, and what stands behind the classes' functions -/
def seeds : List (Str × Str) := [("Ranges", "__init__"), ("Ranges", "__or__"), ("Ranges", "between"), ("Ranges", "empty"), ("Filter", "__init__"), ("Filter", "__and__"), ("Filter", "__or__"), ("Filter", "__invert__"), ("Filter", "__eq__"), ("Filter", "__call__"), ("Filter", "within"), ("Filter", "missing"), ("Filter", "always"), ("Filter", "never"), ("Phrase", "__init__"), ("Phrase", "has_more"), ("Phrase", "next_word"), ("Phrase", "check"), ("Phrase", "end"), ("Phrase", "next_ranges"), ("Phrase", "next_name"), ("Phrase", "condition"), ("Phrase", "next_filter")]
def asX (g : Addr → Option Obj) (n : Nat) : List Addr := He5.asA g n ++ He.growD g (He.growD g (He.growD g (seeds.map fun x => He.ma (He.frG g (He5.asA g n)) (He.ga (He.frG g (He5.asA g n)) x.1) x.2)))
abbrev DL : Type := List (Option (List (Int × Option V × Option V)))
def dictsX (K : PySem.W.Frag) : DL := [dEs K (He.ga K "SIGNS")]
def dictsV (w : World) : DL := [some (dEw w [("&", .int 2), ("|", .int 2), ("~", .int 1)])]
abbrev Seen : Type := Bool × (DL × He.AlD)
def seenAt (n : Nat) (g : Addr → Option Obj) : Seen := (moreB (He.frG g (asX g n)), (dictsX (He.frG g (asX g n)), He5.obsA plain defs (He.frG g (asX g n))))
def ToldX (w : World) (K : PySem.W.Frag) : Prop := moreB K = true ∧ (dictsX K = dictsV w ∧ He5.SaysA plain defs K)
def hook (n : Nat) : PySem.W.Hook where
  α := Seen
  obs := fun s => seenAt n s.heap.get?
  val := fun w => (true, (dictsV w, He5.valA defs))
  says := fun w h => ∃ K : PySem.W.Frag, K.In h ∧ ToldX w K
  of := fun _ _ e => ⟨_, He.frG_in, congrArg (fun x : Seen => x.1) e, congrArg (fun x : Seen => x.2.1) e, congrArg (fun x : Seen => x.2.2) e⟩
  keeps := fun _ _ _ ⟨K, hK, c⟩ k => ⟨K, PySem.W.Frag.In.keeps hK k, c⟩
abbrev Rw : PySem.W.OpenRow := PySem.W.OpenLaw.row PySem.Challenge.rw_speaklast_k85_filters_as_texts
abbrev hk : PySem.W.Hook := hook 3
def obT (s : PySem.W.SharedT) : Seen := seenAt 3 (HandSHeadRun.getT s)
theorem obT_eq (s : PySem.W.SharedT) : obT s = hk.obs s.abs := by
  have e : HandSHeadRun.getT s = s.abs.heap.get? := funext (HandSHeadRun.getT_eq s)
  unfold obT
  rw [e]
  rfl
def loose : List Str := "_wall" :: "show_ranges" :: "text_of_parts" :: "text_of_part" :: "text_of_end" :: "show_filter" :: "words_of_tree" :: "Ranges" :: "start_of" :: "joined" :: "touches" :: "later_end" :: "gaps" :: "in_parts" :: "Filter" :: "all_columns" :: "truth_of" :: "truth_within" :: "both" :: "either" :: "negated" :: "FeedError" :: "InvalidText" :: "is_name" :: "MOST_WORDS" :: "MOST_SIGNS" :: "DIGITS_OF_BOUNDS" :: "SIGNS" :: "Phrase" :: "closed" :: "joined_by" :: "number_in" :: "ranges_in" :: "stretch_in" :: "read_filter" :: "phrases_of" :: "phrases_in" :: "end_of_line" :: "_law_pen" :: "_law_draw" :: "_law_name" :: "_law_names" :: "_law_bound" :: "_law_parts" :: "_law_ranges" :: "_law_parts_text" :: "_law_leaf" :: "_law_tree" :: "_law_filter" :: "_law_words" :: "_law_flat" :: "_law_right" :: "_law_deep" :: "_law_long" :: []
theorem pair_map {σ A B C E : Type} {o : Option σ} {f : σ → A} {g : σ → B} {h1 : σ → C} {h2 : σ → E} {a : A} {b : B} {c : C} {d : E} (e1 : o.map (fun s => (f s, g s, h1 s)) = some (a, b, c)) (e2 : o.map h2 = some d) : o.map (fun s => (f s, g s, (h1 s, h2 s))) = some (a, b, (c, d)) := by
  cases o with
  | none => cases e1
  | some s =>
    simp only [Option.map_some, Option.some.injEq, Prod.mk.injEq] at e1 e2 ⊢
    exact ⟨e1.1, e1.2.1, e1.2.2, e2⟩
open PySem.W HandSHeadRun PyProof.Rows in
theorem runs1f (w : World) (os : OsState) : (endF (stepQ (denQ tabQ) Rw.prog (w.withFollow "special-get-raises" false)) 9000 Rw.prog (w.withFollow "special-get-raises" false) os).map (fun s => (looksF Rw.prog (boot_heap ((w.withFollow "special-get-raises" false)).params) s.abs, seenQ (PySem.W.view Rw.prog [62]) loose (importedModules Rw.prog.main.body) (fun s => xlAt (PySem.W.view Rw.prog [62]) [] s && recOk Rw.toRowW.records s) s.abs, moreB (He.frG (getT s) (asX (getT s) 3)))) = some (true, openGood (PySem.W.view Rw.prog [62]) loose, true) := by
  kernel_rfl
open PySem.W HandSHeadRun PyProof.Rows in
theorem runs2f (w : World) (os : OsState) : (endF (stepQ (denQ tabQ) Rw.prog (w.withFollow "special-get-raises" false)) 9000 Rw.prog (w.withFollow "special-get-raises" false) os).map (fun s => (dictsX (He.frG (getT s) (asX (getT s) 3)), He5.obsA plain defs (He.frG (getT s) (asX (getT s) 3)))) = some (dictsV w, He5.valA defs) := by
  kernel_rfl
open PySem.W HandSHeadRun PyProof.Rows in
theorem runs1t (w : World) (os : OsState) : (endF (stepQ (denQ tabQ) Rw.prog (w.withFollow "special-get-raises" true)) 9000 Rw.prog (w.withFollow "special-get-raises" true) os).map (fun s => (looksF Rw.prog (boot_heap ((w.withFollow "special-get-raises" true)).params) s.abs, seenQ (PySem.W.view Rw.prog [62]) loose (importedModules Rw.prog.main.body) (fun s => xlAt (PySem.W.view Rw.prog [62]) [] s && recOk Rw.toRowW.records s) s.abs, moreB (He.frG (getT s) (asX (getT s) 3)))) = some (true, openGood (PySem.W.view Rw.prog [62]) loose, true) := by
  kernel_rfl
open PySem.W HandSHeadRun PyProof.Rows in
theorem runs2t (w : World) (os : OsState) : (endF (stepQ (denQ tabQ) Rw.prog (w.withFollow "special-get-raises" true)) 9000 Rw.prog (w.withFollow "special-get-raises" true) os).map (fun s => (dictsX (He.frG (getT s) (asX (getT s) 3)), He5.obsA plain defs (He.frG (getT s) (asX (getT s) 3)))) = some (dictsV w, He5.valA defs) := by
  kernel_rfl
theorem runs (w : World) : HandSHeadRun.RunEq Rw (PySem.W.view Rw.prog [62]) hk obT 9000 loose w := PySem.W.byRow2 "special-get-raises" (P := fun w => HandSHeadRun.RunEq Rw (PySem.W.view Rw.prog [62]) hk obT 9000 loose w) (fun w os => pair_map (runs1f w os) (runs2f w os)) (fun w os => pair_map (runs1t w os) (runs2t w os)) w
end Spk

set_option Elab.async false
set_option linter.all false
set_option maxRecDepth 100000
set_option maxHeartbeats 1000000
namespace Spk
open PySem L2
local macro_rules | `(tactic| walk_at "rd") => `(tactic| repeat (first
  | with_reducible refine i_seq ?_ | with_reducible refine i_asg ?_ | with_reducible refine i_ret ?_ | with_reducible refine i_ifS ?_ | with_reducible refine i_if ?_
  | with_reducible refine i_for ?_ | with_reducible refine i_iL ?_ | with_reducible refine i_iT ?_ | with_reducible refine i_ckw ?_ | with_reducible refine i_cm ?_ | with_reducible refine And.intro (rfl : V.ref _ = V.ref _) ?_ | with_reducible refine i_rng1 ?_ | with_reducible refine i_bm ?_ | with_reducible refine i_bm0 ?_
  | with_reducible refine i_drop ?_ | with_reducible refine i_next ?_
  | with_reducible refine i_var rfl ?_ | with_reducible refine i_c ?_ | with_reducible refine i_op ?_ | with_reducible refine i_un ?_ | with_reducible refine i_name ?_
  | with_reducible refine i_rI0 ?_ | with_reducible refine i_rU ?_ | with_reducible refine i_rEq rfl ?_ | with_reducible refine i_rNe rfl ?_
  | with_reducible refine i_test ?_ | with_reducible refine i_tB ?_ | with_reducible refine i_and ?_ | with_reducible refine i_or ?_ | with_reducible refine i_not ?_
  | with_reducible refine i_andV ?_ | with_reducible refine i_orV ?_ | with_reducible refine i_notV ?_
  | with_reducible refine i_cons ?_ | with_reducible refine i_nil ?_ | with_reducible refine i_cb ?_ | with_reducible refine i_call ?_ | with_reducible refine i_bl ?_
  | with_reducible refine i_tup ?_ | with_reducible refine i_lst ?_ | with_reducible refine i_par ?_ | with_reducible refine i_gcons ?_ | with_reducible refine i_gnil ?_
  | with_reducible refine And.intro (rfl : V.non = V.non) ?_ | with_reducible refine i_ixT (by assumption) rfl ?_ | with_reducible refine i_ixL (by assumption) rfl ?_ | with_reducible refine i_gtup (by assumption) rfl ?_
  | with_reducible refine i_gsub ?_
  | with_reducible refine Or.inl (Exists.intro _ (And.intro (rfl : [V.int _] = [V.int _]) ?_)) | with_reducible refine Exists.intro _ (And.intro (rfl : [V.int _] = [V.int _]) ?_)
  | with_reducible refine Or.inr (Exists.intro _ (And.intro (rfl : [V.bl _] = [V.bl _]) ?_))
  | with_reducible refine Exists.intro _ (Exists.intro _ (And.intro (rfl : [V.int _, V.int _] = [V.int _, V.int _]) ?_))
  | with_reducible refine Exists.intro _ (Exists.intro _ (And.intro (rfl : [V.ref _] = [V.ref _]) (And.intro (Or.inl (SqL.of (by assumption))) ?_)))
  | with_reducible refine i_rI (show (0 : Int) < _ by assumption) ?_ | with_reducible refine i_rI (show (0 : Int) < _ by decide) ?_
  | with_reducible refine i_rI (pow_ok (Nat.le_of_ble_eq_true rfl) (Nat.le_of_ble_eq_true rfl)) ?_
  | with_reducible refine i_rI (cmulL rfl) ?_))
/-- the parts of a set stand at t -/
def PartsT (H : Hp) (t : Addr) (ps : List Stc) : Prop := ∃ vs, H t = some (.tup vs) ∧ Tups H vs ps
theorem PartsT.up {H H' : Hp} {t : Addr} {ps : List Stc} (e : Same H H') (h : PartsT H t ps) : PartsT H' t ps := by
  obtain ⟨vs, h, z⟩ := h
  exact ⟨vs, e _ _ h, z.up e⟩
theorem ov_non {o : Option Int} (h : ov o = .non) : o = none := by
  cases o with
  | none => rfl
  | some i => cases h
theorem ov_some {o : Option Int} (h : ¬ ov o = .non) : ∃ i, o = some i := by
  cases o with
  | none => exact absurd rfl h
  | some i => exact ⟨i, rfl⟩

section
variable {P : Program} {w : World} {K : PySem.W.Frag} {mg : Str → Option Value} {base : Heap}
/-! ### start_of, touches, later_end -/
abbrev s_start_of : Stmt := top 10
theorem sc_start_of : FnScope ["stretch", "low"] ["stretch"] (defScope s_start_of) := ⟨rfl, rfl, rfl, by decide +kernel, rfl, by decide +kernel, by decide +kernel⟩
def sp_start_of : Sp := fun vs H Q _ => ∃ (v : V) (s : Stc), vs = [v] ∧ TupS H v s ∧ ∀ p H', Same H H' → H' p = some (.tup (key s)) → Q (.ref p) H'
theorem ok_start_of {f : Addr} {fd : FuncData} (F : Fun K "start_of" "start_of" s_start_of f fd) : FnOk P w K mg base CX0 1 f fd ["stretch"] sp_start_of := by
  refine F.ok sc_start_of (fun vs H Q E h => ?_) (fun cdv A outer s H vs Q E hr h => ?_)
  · obtain ⟨v, s, rfl, _⟩ := h
    rfl
  · obtain ⟨v, ⟨lo, hi⟩, rfl, ⟨a, rfl, ha⟩, q⟩ := h
    refine ⟨_, (pss_cons (ps_set (i := 1) sc_start_of.nd rfl (Or.inl rfl) (pe_ix ix_tup (pv 0) pe_int (fun _ _ => rfl)))
 (pss_one (ps_ret (pe_ifExp (pt_cmpR op_isN (pv 1) pe_non (nomark _)) (pe_tup (pa_cons pe_int (pa_cons pe_int pa_nil))) (pe_tup (pa_cons pe_int (pa_cons (pv 1) pa_nil))))))), ?_⟩
    walk_at "rd"
    refine ite_d (fun h => ?_) (fun h => ?_)
    · walk_at "rd"
      have e := ov_non h
      dsimp only at e
      subst e
      exact i_sz (Nat.le_of_ble_eq_true rfl) fun p H1 s1 _ e => q p H1 s1 e
    · obtain ⟨i, rfl⟩ := ov_some h
      walk_at "rd"
      exact i_sz (Nat.le_of_ble_eq_true rfl) fun p H1 s1 _ e => q p H1 s1 e
abbrev s_touches : Stmt := top 12
theorem sc_touches : FnScope ["part", "low", "high"] ["part", "low"] (defScope s_touches) := ⟨rfl, rfl, rfl, by decide +kernel, rfl, by decide +kernel, by decide +kernel⟩
def sp_touches : Sp := fun vs H Q _ => ∃ (v : V) (s : Stc) (lo : Option Int), vs = [v, ov lo] ∧ TupS H v s ∧ Q (.bl (touchB s.2 lo)) H
theorem ok_touches {f : Addr} {fd : FuncData} (F : Fun K "touches" "touches" s_touches f fd) : FnOk P w K mg base CX0 1 f fd ["part", "low"] sp_touches := by
  refine F.ok sc_touches (fun vs H Q E h => ?_) (fun cdv A outer s H vs Q E hr h => ?_)
  · obtain ⟨v, s, lo, rfl, _⟩ := h
    rfl
  · obtain ⟨v, ⟨lo, hi⟩, l, rfl, ⟨a, rfl, ha⟩, q⟩ := h
    refine ⟨_, (pss_cons (ps_set (i := 2) sc_touches.nd rfl (Or.inl rfl) (pe_ix ix_tup (pv 0) pe_int (fun _ _ => rfl)))
 (pss_one (ps_ret (pe_or (pe_cmpR op_isN (pv 1) pe_non (nomark _)) (pe_or (pe_cmpR op_isN (pv 2) pe_non (nomark _)) (pe_one (pe_cmpR op_le (pv 1) (pe_op op_add (pv 2) pe_int) (nomark _)))))))), ?_⟩
    walk_at "rd"
    refine ite_d (fun h => ?_) (fun h => ?_)
    · have e := ov_non h
      subst e
      exact q
    · obtain ⟨i, rfl⟩ := ov_some h
      walk_at "rd"
      refine ite_d (fun h => ?_) (fun h => ?_)
      · have e := ov_non h
        subst e
        exact q
      · obtain ⟨j, rfl⟩ := ov_some h
        walk_at "rd"
        exact q
abbrev s_later_end : Stmt := top 13
theorem sc_later_end : FnScope ["one", "other"] ["one", "other"] (defScope s_later_end) := ⟨rfl, rfl, rfl, by decide +kernel, rfl, by decide +kernel, by decide +kernel⟩
def sp_later_end : Sp := fun vs H Q _ => ∃ (a b : Option Int), vs = [ov a, ov b] ∧ Q (ov (laterE a b)) H
theorem ok_later_end {f : Addr} {fd : FuncData} (F : Fun K "later_end" "later_end" s_later_end f fd) (z_max : mg "max" = none) : FnOk P w K mg base CX0 1 f fd ["one", "other"] sp_later_end := by
  refine F.ok sc_later_end (fun vs H Q E h => ?_) (fun cdv A outer s H vs Q E hr h => ?_)
  · obtain ⟨a, b, rfl, _⟩ := h
    rfl
  · obtain ⟨a, b, rfl, q⟩ := h
    refine ⟨_, (pss_cons (ps_if (PW.pt (pw_or (pt_cmpR op_isN (pv 0) pe_non (nomark _)) (pw_or1 (pt_cmpR op_isN (pv 1) pe_non (nomark _)))))
 (pss_one (ps_ret pe_non))
 pss_nil)
 (pss_one (ps_ret (pe_callB (call_max2 rfl) (by rfl) z_max (by decide +kernel) (pa_cons (pv 0) (pa_cons (pv 1) pa_nil)))))), ?_⟩
    walk_at "rd"
    refine ite_d (fun h => ?_) (fun h => ?_)
    · have e := ov_non h
      subst e
      refine iteT ?_
      walk_at "rd"
      exact q
    · obtain ⟨i, rfl⟩ := ov_some h
      walk_at "rd"
      refine ite_d (fun h => ?_) (fun h => ?_)
      · have e := ov_non h
        subst e
        walk_at "rd"
        exact q
      · obtain ⟨j, rfl⟩ := ov_some h
        walk_at "rd"
        exact q
/-! ### in_parts -/
theorem tups_get {H : Hp} {vs : List V} {ps : List Stc} (h : Tups H vs ps) {i : Nat} (hi : i < ps.length) : ∃ v, vs[i]? = some v ∧ TupS H v ps[i] := by
  induction h generalizing i with
  | nil => simp at hi
  | cons r t ih =>
    cases i with
    | zero => exact ⟨_, rfl, r⟩
    | succ i => exact ih (by simpa using hi)
theorem tups_len {H : Hp} {vs : List V} {ps : List Stc} (h : Tups H vs ps) : vs.length = ps.length := Paired.length h
structure SInv (t : Addr) (n : Int) (ps : List Stc) (H0 : Hp) (m : Nat) (σ : L2.St) (H : Hp) : Prop where
  ex : ∃ (a b : Nat) (x y z : Option V), m = b - a ∧ a ≤ b ∧ b ≤ ps.length ∧ H = H0 ∧ σ = [some (.ref t), some (.int n), some (.int a), some (.int b), x, y, z] ∧
    (∀ (j : Nat) s, j < a → ps[j]? = some s → has1 s n = false) ∧ (∀ (j : Nat) s, b ≤ j → ps[j]? = some s → has1 s n = false)
abbrev s_in_parts : Stmt := top 15
theorem sc_in_parts : FnScope ["parts", "number", "start", "end", "middle", "low", "high"] ["parts", "number"] (defScope s_in_parts) := ⟨rfl, rfl, rfl, by decide +kernel, rfl, by decide +kernel, by decide +kernel⟩
def sp_in_parts : Sp := fun vs H Q _ => ∃ (t : Addr) (ps : List Stc) (n : Int), vs = [.ref t, .int n] ∧ PartsT H t ps ∧ Canon ps ∧ Q (.bl (hasL ps n)) H
theorem ok_in_parts {f : Addr} {fd : FuncData} (F : Fun K "in_parts" "in_parts" s_in_parts f fd) (z_len : mg "len" = none) : FnOk P w K mg base CX0 1 f fd ["parts", "number"] sp_in_parts := by
  refine F.ok sc_in_parts (fun vs H Q E h => ?_) (fun cdv A outer s H vs Q E hr h => ?_)
  · obtain ⟨t, ps, n, rfl, _⟩ := h
    rfl
  · obtain ⟨t, ps, n, rfl, ⟨vs, ht, tu⟩, hc, q⟩ := h
    refine ⟨_, (pss_cons (ps_set (i := 2) sc_in_parts.nd rfl (Or.inl rfl) pe_int)
 (pss_cons (ps_set (i := 3) sc_in_parts.nd rfl (Or.inl rfl) (pe_callB call_len_seq (by rfl) z_len PySem.boot_len (pa_cons (pv 0) pa_nil)))
 (pss_cons (ps_while PassesOwn.never (pt_cmpR op_lt (pv 2) (pv 3) (nomark _))
 (pss_cons (ps_set (i := 4) sc_in_parts.nd rfl (Or.inl rfl) (pe_op op_fdivW (pe_op op_add (pv 2) (pv 3)) pe_int))
 (pss_cons (ps_asg (pe_ix ix_tup (pv 0) (pv 4) (fun _ _ => rfl)) (pg_tup (by rfl) (pgs_cons (pg_name (i := 5) sc_in_parts.nd rfl (Or.inl rfl)) (pgs_cons (pg_name (i := 6) sc_in_parts.nd rfl (Or.inl rfl)) pgs_nil))))
 (pss_one (ps_if (PW.pt (pw_and (pt_cmpR op_notN (pv 5) pe_non (nomark _)) (pw_and1 (pt_cmpR op_lt (pv 1) (pv 5) (nomark _)))))
 (pss_one (ps_set (i := 3) sc_in_parts.nd rfl (Or.inl rfl) (pv 4)))
 (pss_one (ps_if (PW.pt (pw_and (pt_cmpR op_notN (pv 6) pe_non (nomark _)) (pw_and1 (pt_cmpR op_gt (pv 1) (pv 6) (nomark _)))))
 (pss_one (ps_set (i := 2) sc_in_parts.nd rfl (Or.inl rfl) (pe_op op_add (pv 4) pe_int)))
 (pss_one (ps_ret pe_bl)))))))))
 (pss_one (ps_ret pe_bl))))), ?_⟩
    walk_at "rd"
    refine ⟨t, vs, rfl, .inr (SqT.of ht), ?_⟩
    walk_at "rd"
    have hlen := tups_len tu
    refine ⟨SInv t n ps H, ⟨vs.length, ⟨0, vs.length, none, none, none, rfl, Nat.zero_le _, Nat.le_of_eq hlen, rfl, rfl, fun j s h => absurd h (Nat.not_lt_zero _), fun j s h e => ?_⟩⟩, ?_⟩
    · rw [List.getElem?_eq_none (by omega)] at e
      cases e
    rintro m σ H' ⟨⟨a, b, x, y, z, em, hab, hb, eH, rfl, lo, hi⟩⟩
    subst H'
    walk_at "rd"
    refine ite_d (fun h => ?_) (fun h => ?_)
    · refine ⟨fun σ' H' => ∃ m', m' < m ∧ SInv t n ps H m' σ' H', fun _ _ h => h, ?_⟩
      walk_at "rd"
      refine i_rI (wide_div (b := 2) (by decide) (by decide) (by decide) (by decide)) ?_
      walk_at "rd"
      have e2 : (((a : Int) + (b : Int)) / 2) = (((a + b) / 2 : Nat) : Int) := by omega
      have hm : (a + b) / 2 < ps.length := by omega
      obtain ⟨v, hv, c, rfl, hcc⟩ := tups_get tu hm
      rw [e2]
      refine i_ixT ht (atI_nat hv) ?_
      walk_at "rd"
      generalize hs : ps[(a + b) / 2] = s at hcc
      have hs' : ps[(a + b) / 2]? = some s := by rw [List.getElem?_eq_getElem hm, hs]
      obtain ⟨l, r⟩ := s
      dsimp only at hcc ⊢
      -- the number lies ahead of this part, behind it, or in it
      have goL : ∀ (k : Int) (x y z : Option V), l = some k → n < k → ∃ m', m' < m ∧ SInv t n ps H m' [some (.ref t), some (.int n), some (.int a), some (.int ((a + b) / 2 : Nat)), x, y, z] H := fun k x y z hk hn =>
        ⟨(a + b) / 2 - a, by omega, ⟨a, (a + b) / 2, x, y, z, rfl, by omega, by omega, rfl, rfl, lo, fun j s hj e => search_low hc hs' hk hn hj e⟩⟩
      have goR : ∀ (k : Int) (x y z : Option V), r = some k → k < n → ∃ m', m' < m ∧ SInv t n ps H m' [some (.ref t), some (.int n), some (.int ((a + b) / 2 + 1 : Nat)), some (.int b), x, y, z] H := fun k x y z hk hn =>
        ⟨b - ((a + b) / 2 + 1), by omega, ⟨(a + b) / 2 + 1, b, x, y, z, rfl, by omega, hb, rfl, rfl, fun j s hj e => search_high hc hs' hk hn (by omega) e, hi⟩⟩
      have found : has1 (l, r) n = true → Q (.bl true) H := fun hh => by
        have e : hasL ps n = true := List.any_eq_true.mpr ⟨_, List.mem_of_getElem? hs', hh⟩
        rw [e] at q
        exact q
      have rest : (∀ k, l = some k → k ≤ n) → tIfS
            (tAnd (tTest (tOp (fun x y H Q => y = V.non ∧ Q (V.bl !decide (x = V.non)) H) (tVar 6) (tC V.non)))
              (tTest (tOp (rI0 fun i j => V.bl (decide (j < i))) (tVar 1) (tVar 6))))
            (tAsg (tOp (rI0 fun i j => V.int (i + j)) (tVar 4) (tC (V.int 1))) (gName 2)) (tRet (tC (V.bl true)))
            { nx := fun σ' H' => ∃ m', m' < m ∧ SInv t n ps H m' σ' H', rt := Q, bk := fun σ H => Q (.bl false) H, ct := fun σ' H' => ∃ m', m' < m ∧ SInv t n ps H m' σ' H' }
            [some (.ref t), some (.int n), some (.int a), some (.int b), some (.int ((a + b) / 2 : Nat)), some (ov l), some (ov r)] H := by
        intro hl
        walk_at "rd"
        cases r with
        | none =>
          refine ite_nd (fun h => absurd rfl h) (fun _ => ?_)
          refine iteF ?_
          walk_at "rd"
          exact found (has1_of hl fun k hk => nomatch hk)
        | some k =>
          refine ite_nd (fun _ => ?_) (fun h => nomatch h)
          walk_at "rd"
          refine ite_d (fun h => ?_) (fun h => ?_)
          · walk_at "rd"
            exact goR k _ _ _ rfl h
          · walk_at "rd"
            exact found (has1_of hl fun j hj => by cases hj; omega)
      cases l with
      | none =>
        refine ite_nd (fun h => absurd rfl h) (fun _ => ?_)
        refine iteF ?_
        exact rest (fun k hk => nomatch hk)
      | some k =>
        refine ite_nd (fun _ => ?_) (fun h => nomatch h)
        walk_at "rd"
        refine ite_d (fun h => ?_) (fun h => ?_)
        · walk_at "rd"
          exact goL k _ _ _ rfl h
        · exact rest (fun j hj => by cases hj; omega)
    · walk_at "rd"
      have e : hasL ps n = false := by
        unfold hasL
        rw [List.any_eq_false]
        intro s hs
        obtain ⟨j, hj⟩ := List.mem_iff_getElem?.mp hs
        rcases Nat.lt_or_ge j a with q1 | q1
        · rw [lo j s q1 hj]; simp
        · rw [hi j s (by omega) hj]; simp
      rw [e] at q
      exact q

/-! ### joined -/
theorem dp_key {H : Hp} {p : Addr} {s : Stc} (h : H p = some (.tup (key s))) : Dp K H (.ref p) (keyD s) := .tup (SqT.of h) (.cons (.int _) (.cons (.int _) .nil))
abbrev s_joined : Stmt := top 11
theorem sc_joined : FnScope ["stretches", "parts", "low", "high", "first", "last"] ["stretches"] (defScope s_joined) := ⟨rfl, rfl, rfl, by decide +kernel, rfl, by decide +kernel, by decide +kernel⟩
def sp_joined (K : PySem.W.Frag) : Sp := fun vs H Q _ => ∃ (l : Addr) (xs : List V) (ss : List Stc), vs = [.ref l] ∧ (SqL K H l xs ∨ SqT K H l xs) ∧ Tups H xs ss ∧ ss.length ≤ 1000 ∧ (∀ s, s ∈ ss → NE s) ∧
  ∀ p H' ps, Same H H' → PartsT H' p ps → Canon ps → (∀ n, hasL ps n = hasL ss n) → ps.length ≤ ss.length → Q (.ref p) H'
/-- what holds between two turns: the list at d holds the joined stretches so far -/
structure JInv (H0 : Hp) (a p d : Addr) (L : List V) (ss : List Stc) (i : Nat) (σ : L2.St) (H : Hp) : Prop where
  ex : ∃ (acc : List Stc) (vs : List V) (x y z w : Option V), σ = [some (.ref a), some (.ref d), x, y, z, w] ∧ Same H0 H ∧ H p = some (.lst L) ∧ H d = some (.lst vs) ∧ Tups H vs acc ∧ Joins acc (ss.take i) (ss.drop i) ∧ acc.length ≤ i
theorem joinF_len (acc : List Stc) (s : Stc) : (joinF acc s).length ≤ acc.length + 1 := by
  unfold joinF
  cases h : acc.getLast? with
  | none => simp
  | some p =>
    dsimp only
    split
    · simp
    · simp
theorem Tups.mut {H : Hp} {d : Addr} {ys zs : List V} {vs : List V} {ss : List Stc} (h : Tups H vs ss) (hd : H d = some (.lst ys)) : Tups (upd H d (.lst zs)) vs ss :=
  Paired.mapP h fun v s ⟨a, e, ha⟩ => ⟨a, e, by rw [upd_ne (ne_of ha hd (by intro z; cases z))]; exact ha⟩
theorem tups_snoc {H : Hp} {vs : List V} {ss : List Stc} {v : V} {s : Stc} (h : Tups H vs ss) (hv : TupS H v s) : Tups H (vs ++ [v]) (ss ++ [s]) := by
  induction h with
  | nil => exact .cons hv .nil
  | cons r t ih => exact .cons r ih
theorem tups_concat {H : Hp} {s : Stc} : ∀ {ss : List Stc} {vs : List V}, Tups H vs (ss ++ [s]) → ∃ vs' v, vs = vs' ++ [v] ∧ Tups H vs' ss ∧ TupS H v s
  | [], _, .cons r .nil => ⟨[], _, rfl, .nil, r⟩
  | a :: ss, _, .cons r t => by
    obtain ⟨vs', v, e, t', hv⟩ := tups_concat (ss := ss) t
    subst e
    exact ⟨_ :: vs', v, rfl, .cons r t', hv⟩
theorem ok_joined {f fS fT fE : Addr} {fd fdS fdT fdE : FuncData} (F : Fun K "joined" "joined" s_joined f fd) (FS : Fun K "start_of" "start_of" s_start_of fS fdS) (B_start_of : Binds K fdS ["stretch"] []) (g_start_of : mg "start_of" = some (.ref fS))
    (F_touches : Fun K "touches" "touches" s_touches fT fdT) (B_touches : Binds K fdT ["part", "low"] []) (g_touches : mg "touches" = some (.ref fT))
    (F_later_end : Fun K "later_end" "later_end" s_later_end fE fdE) (B_later_end : Binds K fdE ["one", "other"] []) (g_later_end : mg "later_end" = some (.ref fE))
    (z_max : mg "max" = none) (z_sorted : mg "sorted" = none) (z_tuple : mg "tuple" = none) : FnOk P w K mg base CX0 4 f fd ["stretches"] (sp_joined K) := by
  have GS : FnOk P w K mg base CX0 1 fS fdS ["stretch"] sp_start_of := ok_start_of FS
  have RS := FnOk.raw GS B_start_of .nil
  have G_touches : FnOk P w K mg base CX0 1 fT fdT ["part", "low"] sp_touches := ok_touches F_touches
  have G_later_end : FnOk P w K mg base CX0 1 fE fdE ["one", "other"] sp_later_end := ok_later_end F_later_end z_max
  refine F.ok sc_joined (fun vs H Q E h => ?_) (fun cdv A outer s H vs Q E hr h => ?_)
  · obtain ⟨l, xs, ss, rfl, _⟩ := h
    rfl
  · obtain ⟨l, xs, ss, rfl, hl, tu, hz, hne, q⟩ := h
    refine ⟨_, (pss_cons (ps_set (i := 1) sc_joined.nd rfl (Or.inl rfl) (pe_lst pa_nil))
 (pss_cons (ps_for PassesOwn.never rfl (pi_list (pe_callBK (cr_sortKey RS (hr.mono (by decide))) (by rfl) z_sorted (by decide +kernel) (pa_cons (pv 0) pa_nil) (pk_cons (pe_glob rfl g_start_of (relR _)) pk_nil))) (pg_tup (by rfl) (pgs_cons (pg_name (i := 2) sc_joined.nd rfl (Or.inl rfl)) (pgs_cons (pg_name (i := 3) sc_joined.nd rfl (Or.inl rfl)) pgs_nil)))
 (pss_one (ps_if (PW.pt (pw_and (pt_truth (pv 1) (by intro _; rfl)) (pw_and1 (pt_val (pe_call G_touches (hr.mono (by decide)) rfl g_touches F_touches.kp B_touches .nil pass0 (pa_cons (pe_ix ix_list (pv 1) (pe_un un_neg pe_int) (fun _ _ => rfl)) (pa_cons (pv 2) pa_nil)))))))
 (pss_cons (ps_asg (pe_bm0 PySem.F.plainAttrs_list PySem.F.slot_list_pop PySem.F.type_list_pop mt_pop (pv 1)) (pg_tup (by rfl) (pgs_cons (pg_name (i := 4) sc_joined.nd rfl (Or.inl rfl)) (pgs_cons (pg_name (i := 5) sc_joined.nd rfl (Or.inl rfl)) pgs_nil))))
 (pss_one (ps_expr (pe_bm PySem.F.plainAttrs_list PySem.F.slot_list_append PySem.F.type_list_append mt_append (pv 1) (pa_cons (pe_tup (pa_cons (pv 4) (pa_cons (pe_call G_later_end (hr.mono (by decide)) rfl g_later_end F_later_end.kp B_later_end .nil pass0 (pa_cons (pv 5) (pa_cons (pv 3) pa_nil))) pa_nil))) pa_nil)))))
 (pss_one (ps_expr (pe_bm PySem.F.plainAttrs_list PySem.F.slot_list_append PySem.F.type_list_append mt_append (pv 1) (pa_cons (pe_tup (pa_cons (pv 2) (pa_cons (pv 3) pa_nil))) pa_nil)))))))
 (pss_one (ps_ret (pe_callTy call_tuple_of (by rfl) z_tuple (by decide +kernel) (pa_cons (pv 1) pa_nil)))))), ?_⟩
    walk_at "rd"
    refine ⟨Nat.zero_le _, fun d hd0 => ?_⟩
    obtain ⟨H1, e1, s1, hd⟩ := new_heap (o := .lst []) hd0
    rw [e1]
    walk_at "rd"
    have hl1 : SqL K H1 l xs ∨ SqT K H1 l xs := hl.elim (fun z => .inl (SqL.ext z s1)) fun z => .inr (SqT.ext z s1)
    have tu1 := tu.up s1
    have hlen := tups_len tu
    refine ⟨l, xs, ss.map keyD, rfl, rfl, hl1, by rw [List.length_map]; exact hlen.symm, keys_alike ss, keys_sort ss, keys_deep ss, fun i x d hx hk H' sm => ?_, fun H2 p sm hp => ?_⟩
    · have hi : i < ss.length := by
        have := (List.getElem?_eq_some_iff.mp hk).1
        simpa using this
      obtain ⟨v, hv, ts⟩ := tups_get tu1 hi
      rw [hx] at hv
      cases hv
      have hd : d = keyD ss[i] := by
        rw [List.getElem?_map, List.getElem?_eq_getElem hi] at hk
        exact (Option.some.inj hk).symm
      subst hd
      exact ⟨x, ss[i], rfl, ts.up sm, fun p H'' s2 e => ⟨s2, dp_key e⟩⟩
    obtain ⟨ss', tu', pm, pw⟩ := sorted_low tu
    obtain ⟨H3, e3, s3, hp3⟩ := new_heap (o := .lst (byKeys xs (ss.map keyD))) hp
    rw [e3]
    have s13 : Same H1 H3 := fun b o z => s3 _ _ (sm _ _ z)
    have s03 : Same H H3 := fun b o z => s13 _ _ (s1 _ _ z)
    have hdp : d ≠ p := ne_of_none (sm _ _ hd) hp
    have hl3 := tups_len tu'
    have hle : ss'.length = ss.length := pm.length_eq
    have hne' : ∀ s, s ∈ ss' → NE s := fun s hs => hne s (pm.mem_iff.mp hs)
    generalize hL : byKeys xs (ss.map keyD) = L at *
    refine ⟨p, rfl, ⟨_, SqL.of hp3⟩, for_list (K := K) (a := p) (xs := L) (JInv H l p d L ss') ⟨[], [], none, none, none, none, rfl, s03, hp3, s13 _ _ hd, .nil, ⟨⟨fun s hs => (by simp at hs), .nil⟩, fun n => rfl, fun a ha => (by simp at ha)⟩, Nat.le_refl _⟩ ?_ ?_ ?_⟩
    · rintro i σ H' _ ⟨acc, vs, x, y, z, w, _, _, hp4, _⟩
      exact SqL.of hp4
    · rintro i x σ H' hx ⟨acc, vs, x1, y1, z1, w1, rfl, sm4, hp4, hd4, ta, jn, hai⟩
      have hi : i < ss'.length := by
        have := (List.getElem?_eq_some_iff.mp hx).1
        omega
      obtain ⟨v, hv, c, rfl, hc⟩ := tups_get tu' hi
      rw [hx] at hv
      cases hv
      have hc4 := sm4 _ _ hc
      have jn' : Joins (joinF acc ss'[i]) (ss'.take (i + 1)) (ss'.drop (i + 1)) := by
        rw [List.drop_eq_getElem_cons hi] at jn
        rw [List.take_succ_eq_append_getElem hi]
        refine joins_step jn (hne' _ (List.getElem_mem hi)) ?_
        rw [← List.drop_eq_getElem_cons hi]
        exact pw.drop
      have hjl := joinF_len acc ss'[i]
      generalize hs : ss'[i] = s at *
      obtain ⟨lo, hi'⟩ := s
      dsimp only at hc4
      -- what the turn leaves
      have fin : ∀ (vs' : List V) (H5 : Hp) (x y z w : Option V), Same H H5 → H5 p = some (.lst L) → H5 d = some (.lst vs') → Tups H5 vs' (joinF acc (lo, hi')) → JInv H l p d L ss' (i + 1) [some (.ref l), some (.ref d), x, y, z, w] H5 :=
        fun vs' H5 x y z w a1 a2 a3 a4 => ⟨_, vs', x, y, z, w, rfl, a1, a2, a3, a4, jn', by omega⟩
      have hva := tups_len ta
      -- the appending of a tuple
      have app : ∀ (ws : List V) (ac : List Stc) (u v : Option Int) (H5 : Hp), Same H H5 → H5 p = some (.lst L) → H5 d = some (.lst ws) → Tups H5 ws ac → ac ++ [(u, v)] = joinF acc (lo, hi') → ∀ q, H5 q = none →
          ∀ R : VK, (∀ H6, (∀ x y z w, JInv H l p d L ss' (i + 1) [some (.ref l), some (.ref d), x, y, z, w] H6) → R .non H6) → rAppend (.ref d) [.ref q] (upd H5 q (.tup [ov u, ov v])) R := by
        intro ws ac u v H5 a1 a2 a3 a4 e q hq R hR
        obtain ⟨H6, e6, s6, hq6⟩ := new_heap (o := .tup [ov u, ov v]) hq
        rw [e6]
        have hw : ws.length ≤ 100000 := by
          have h1 := tups_len a4
          have h2 := congrArg List.length e
          simp only [List.length_append, List.length_singleton] at h2
          omega
        refine i_app (s6 _ _ a3) hw (hR _ fun x y z w => fin (ws ++ [.ref q]) _ x y z w ?_ ?_ upd_same ?_)
        · exact Same.mut (fun b o z => s6 _ _ (a1 _ _ z)) hd0
        · rw [upd_ne hdp.symm]
          exact s6 _ _ a2
        · rw [← e]
          exact Tups.mut (tups_snoc (a4.up s6) ⟨q, rfl, hq6⟩) (s6 _ _ a3)
      walk_at "rd"
      refine ⟨!vs.isEmpty, .inl ⟨vs, SqL.of hd4, rfl⟩, ?_⟩
      rcases List.eq_nil_or_concat acc with rfl | ⟨ac, p', rfl⟩
      · have ev : vs = [] := List.length_eq_zero_iff.mp (by simpa using hva)
        subst ev
        refine iteF (iteF ?_)
        walk_at "rd"
        refine i_tyL hd4 ?_
        walk_at "rd"
        refine ⟨size_of (Nat.le_of_ble_eq_true rfl), fun q hq => ?_⟩
        walk_at "rd"
        refine app [] [] lo hi' H' sm4 hp4 hd4 ta rfl q hq _ ?_
        exact fun H6 h => h _ _ _ _
      · simp only [List.concat_eq_append] at *
        obtain ⟨vs', v, rfl, ta', tp⟩ := tups_concat ta
        have hne : (!(vs' ++ [v]).isEmpty) = true := by simp
        rw [hne]
        refine iteT ?_
        walk_at "rd"
        refine i_ixL hd4 (atI_last _ _) ?_
        walk_at "rd"
        refine ⟨v, p', lo, rfl, tp, ?_⟩
        walk_at "rd"
        have ejn : joinF (ac ++ [p']) (lo, hi') = if touchB p'.2 lo = true then ac ++ [(p'.1, laterE p'.2 hi')] else ac ++ [p'] ++ [(lo, hi')] := by
          unfold joinF
          rw [List.getLast?_concat]
          simp only [List.dropLast_concat]
        by_cases ht : touchB p'.2 lo = true
        · rw [ht]
          refine iteT ?_
          rw [if_pos ht] at ejn
          walk_at "rd"
          refine i_tyL hd4 (i_pop hd4 ?_)
          obtain ⟨c', rfl, hc'⟩ := tp
          have hcd : c' ≠ d := ne_of hc' hd4 (by intro z; cases z)
          have hc5 : upd H' d (.lst vs') c' = some (.tup [ov p'.1, ov p'.2]) := by rw [upd_ne hcd]; exact hc'
          walk_at "rd"
          refine i_tyL upd_same ?_
          walk_at "rd"
          refine ⟨p'.2, hi', rfl, ?_⟩
          walk_at "rd"
          refine ⟨size_of (Nat.le_of_ble_eq_true rfl), fun q hq => ?_⟩
          walk_at "rd"
          refine app vs' ac p'.1 (laterE p'.2 hi') _ (Same.mut sm4 hd0) (by rw [upd_ne hdp.symm]; exact hp4) upd_same (ta'.mut hd4) ejn.symm q hq _ ?_
          exact fun H6 h => h _ _ _ _
        · have ht' : touchB p'.2 lo = false := by simpa using ht
          rw [ht']
          refine iteF ?_
          rw [if_neg ht] at ejn
          walk_at "rd"
          refine i_tyL hd4 ?_
          walk_at "rd"
          refine ⟨size_of (Nat.le_of_ble_eq_true rfl), fun q hq => ?_⟩
          walk_at "rd"
          refine app _ _ lo hi' H' sm4 hp4 hd4 ta ejn.symm q hq _ ?_
          exact fun H6 h => h _ _ _ _
    · rintro σ H' ⟨acc, vs, x1, y1, z1, w1, rfl, sm4, hp4, hd4, ta, jn, hai⟩
      walk_at "rd"
      rw [hl3, List.take_length, List.drop_length] at jn
      refine ⟨d, vs, rfl, .inl ⟨SqL.of hd4, fun p6 hp6 => ?_⟩⟩
      obtain ⟨H6, e6, s6, h6⟩ := new_heap (o := .tup vs) hp6
      rw [e6]
      refine q p6 H6 acc (fun b o z => s6 _ _ (sm4 _ _ z)) ⟨vs, h6, ta.up s6⟩ jn.canon (fun n => ?_) (by omega)
      rw [jn.has n]
      exact Bool.eq_iff_iff.mpr (by simp only [hasL, List.any_eq_true]; exact ⟨fun ⟨s, hs, e⟩ => ⟨s, pm.mem_iff.mp hs, e⟩, fun ⟨s, hs, e⟩ => ⟨s, pm.mem_iff.mpr hs, e⟩⟩)
end
end Spk

set_option Elab.async false
set_option linter.all false
set_option maxRecDepth 100000
set_option maxHeartbeats 1000000
namespace Spk
open PySem L2
local macro_rules | `(tactic| walk_at "rd") => `(tactic| repeat (first
  | with_reducible refine i_seq ?_ | with_reducible refine i_asg ?_ | with_reducible refine i_ret ?_ | with_reducible refine i_ifS ?_ | with_reducible refine i_if ?_
  | with_reducible refine i_for ?_ | with_reducible refine i_iL ?_ | with_reducible refine i_iT ?_ | with_reducible refine i_ckw ?_ | with_reducible refine i_cm ?_ | with_reducible refine And.intro (rfl : V.ref _ = V.ref _) ?_ | with_reducible refine i_rng1 ?_ | with_reducible refine i_bm ?_ | with_reducible refine i_bm0 ?_
  | with_reducible refine i_drop ?_ | with_reducible refine i_next ?_
  | with_reducible refine i_var rfl ?_ | with_reducible refine i_c ?_ | with_reducible refine i_op ?_ | with_reducible refine i_un ?_ | with_reducible refine i_name ?_
  | with_reducible refine i_rI0 ?_ | with_reducible refine i_rU ?_ | with_reducible refine i_rEq rfl ?_ | with_reducible refine i_rNe rfl ?_
  | with_reducible refine i_test ?_ | with_reducible refine i_tB ?_ | with_reducible refine i_and ?_ | with_reducible refine i_or ?_ | with_reducible refine i_not ?_
  | with_reducible refine i_andV ?_ | with_reducible refine i_orV ?_ | with_reducible refine i_notV ?_
  | with_reducible refine i_cons ?_ | with_reducible refine i_nil ?_ | with_reducible refine i_cb ?_ | with_reducible refine i_call ?_ | with_reducible refine i_bl ?_
  | with_reducible refine i_tup ?_ | with_reducible refine i_lst ?_ | with_reducible refine i_par ?_ | with_reducible refine i_gcons ?_ | with_reducible refine i_gnil ?_
  | with_reducible refine And.intro (rfl : V.non = V.non) ?_ | with_reducible refine i_ixT (by assumption) rfl ?_ | with_reducible refine i_ixL (by assumption) rfl ?_ | with_reducible refine i_gtup (by assumption) rfl ?_
  | with_reducible refine i_gsub ?_
  | with_reducible refine Or.inl (Exists.intro _ (And.intro (rfl : [V.int _] = [V.int _]) ?_)) | with_reducible refine Exists.intro _ (And.intro (rfl : [V.int _] = [V.int _]) ?_)
  | with_reducible refine Or.inr (Exists.intro _ (And.intro (rfl : [V.bl _] = [V.bl _]) ?_))
  | with_reducible refine Exists.intro _ (Exists.intro _ (And.intro (rfl : [V.int _, V.int _] = [V.int _, V.int _]) ?_))
  | with_reducible refine Exists.intro _ (Exists.intro _ (And.intro (rfl : [V.ref _] = [V.ref _]) (And.intro (Or.inl (SqL.of (by assumption))) ?_)))
  | with_reducible refine i_rI (show (0 : Int) < _ by assumption) ?_ | with_reducible refine i_rI (show (0 : Int) < _ by decide) ?_
  | with_reducible refine i_rI (pow_ok (Nat.le_of_ble_eq_true rfl) (Nat.le_of_ble_eq_true rfl)) ?_
  | with_reducible refine i_rI (cmulL rfl) ?_))
/-! ### the class Ranges -/
def Rng (C : Addr) (H : Hp) (r : Addr) (ps : List Stc) : Prop := ∃ dx t, H r = some (.ins C dx [("parts", .ref t)]) ∧ PartsT H t ps ∧ Canon ps
theorem Rng.up {C : Addr} {H H' : Hp} {r : Addr} {ps : List Stc} (e : Same H H') (h : Rng C H r ps) : Rng C H' r ps := by
  obtain ⟨dx, t, a, b, c⟩ := h
  exact ⟨dx, t, e _ _ a, b.up e, c⟩
theorem Rng.canon {C : Addr} {H : Hp} {r : Addr} {ps : List Stc} (h : Rng C H r ps) : Canon ps := let ⟨_, _, _, _, c⟩ := h; c
/-- parts as data -/
def oD : Option Int → PyData
  | none => .none
  | some i => .int i
def stD (s : Stc) : PyData := .tuple [oD s.1, oD s.2]
def psD (ps : List Stc) : PyData := .tuple (ps.map stD)
theorem dp_ov {K : PySem.W.Frag} {H : Hp} (o : Option Int) : Dp K H (ov o) (oD o) := by
  cases o with
  | none => exact .non
  | some i => exact .int i
theorem dps_tups {K : PySem.W.Frag} {H : Hp} {vs : List V} {ps : List Stc} (h : Tups H vs ps) : DpAll K H vs (ps.map stD) := by
  induction h with
  | nil => exact .nil
  | cons r t ih =>
    obtain ⟨a, rfl, ha⟩ := r
    exact .cons (.tup (SqT.of ha) (.cons (dp_ov _) (.cons (dp_ov _) .nil))) ih
theorem dp_parts {K : PySem.W.Frag} {H : Hp} {t : Addr} {ps : List Stc} (h : PartsT H t ps) : Dp K H (.ref t) (psD ps) := by
  obtain ⟨vs, h, tu⟩ := h
  exact .tup (SqT.of h) (dps_tups tu)
theorem eqv_oD (a b : Option Int) : PyData.eqv (oD a) (oD b) = decide (a = b) := by
  cases a <;> cases b <;> simp [oD, PyData.eqv]
  rw [Bool.eq_iff_iff]
  simp
theorem eqv_stD (a b : Stc) : PyData.eqv (stD a) (stD b) = decide (a = b) := by
  obtain ⟨l, r⟩ := a
  obtain ⟨l', r'⟩ := b
  simp only [stD, PyData.eqv, PyData.eqvAll, eqv_oD, Bool.and_true, Prod.mk.injEq]
  rw [Bool.eq_iff_iff]
  simp
theorem eqvAll_ps : ∀ ps qs : List Stc, PyData.eqvAll (ps.map stD) (qs.map stD) = decide (ps = qs)
  | [], [] => by simp [PyData.eqvAll]
  | [], _ :: _ => by simp [PyData.eqvAll]
  | _ :: _, [] => by simp [PyData.eqvAll]
  | a :: ps, b :: qs => by
    simp only [List.map_cons, PyData.eqvAll, eqv_stD, eqvAll_ps ps qs, List.cons.injEq]
    rw [Bool.eq_iff_iff]
    simp
theorem eqv_psD (ps qs : List Stc) : PyData.eqv (psD ps) (psD qs) = decide (ps = qs) := by
  simp only [psD, PyData.eqv]
  exact eqvAll_ps ps qs
theorem lay_oD (o : Option Int) : (oD o).canLay0 = true := by cases o <;> simp [oD, PyData.canLay0]
theorem lay_stD (s : Stc) : (stD s).canLay0 = true := by simp [stD, PyData.canLay0, PyData.canLayAll0, lay_oD]
theorem lay_ps : ∀ ps : List Stc, PyData.canLayAll0 (ps.map stD) = true
  | [] => by simp [PyData.canLayAll0]
  | a :: ps => by simp [PyData.canLayAll0, lay_stD, lay_ps ps]
theorem dep_oD (o : Option Int) : (oD o).depth = 0 := by cases o <;> simp [oD, PyData.depth]
theorem dep_ps : ∀ ps : List Stc, PyData.depthAll (ps.map stD) ≤ 2
  | [] => by simp [PyData.depthAll]
  | a :: ps => by
    have := dep_ps ps
    simp only [List.map_cons, PyData.depthAll, stD, PyData.depth, dep_oD]
    omega
theorem shaped_ps (ps : List Stc) : SeqAt.shaped (psD ps) = true := by
  have h1 := lay_ps ps
  have h2 := dep_ps ps
  simp only [SeqAt.shaped, psD, PyData.canLay0, h1, PyData.depth, Bool.true_and, decide_eq_true_eq]
  omega

/-- what the text says of the class -/
structure ClsT (K : PySem.W.Frag) (mg : Str → Option Value) (C fI fE : Addr) : Prop where
  cl : Cls K C
  nP : NoAttr K C "parts"
  M : Mk K C fI
  g_C : mg "Ranges" = some (.ref C)
  self : PySem.W.selfFirst K C = true
  eq : OwnEq K C fE
  cls : PySem.W.findIn K (.ref C) "__class__" = some (some (.builtin "object.__class__"))
  get : PySem.W.specialIn K (.builtin "object.__class__") "__get__" = some (some (.builtin "getset_descriptor.__get__"))
  tk : PySem.W.takesIn K (.builtin "object.__class__") = some true
  mro : PySem.W.mroIn K C (.type "object") = some true
  kit : PySem.W.kitOne K (.ref C) (.ref C) = some true
  kn : PySem.W.kitOne K (.type "NoneType") (.ref C) = some false
  kb : PySem.W.kitOne K (.type "bool") (.ref C) = some false
  ki : PySem.W.kitOne K (.type "int") (.ref C) = some false
  ks : PySem.W.kitOne K (.type "str") (.ref C) = some false
  kl : PySem.W.kitOne K (.type "list") (.ref C) = some false
  kt : PySem.W.kitOne K (.type "tuple") (.ref C) = some false
section
variable {P : Program} {w : World} {K : PySem.W.Frag} {mg : Str → Option Value} {base : Heap} {C fI fE : Addr}
theorem Rng.ty {H : Hp} {r : Addr} {ps : List Stc} (T : ClsT K mg C fI fE) (h : Rng C H r ps) : TyX K H (.ref r) (.ref C) := by
  obtain ⟨dx, t, a, _⟩ := h
  exact .base (.ins a T.cl T.cls T.get T.tk T.mro)
theorem ClsT.odd {H : Hp} {y : V} {X : String} (T : ClsT K mg C fI fE) (o : Odd H y X) : PySem.W.kitOne K (.type X) (.ref C) = some false := by
  cases o with
  | non => exact T.kn
  | bl b => exact T.kb
  | int i => exact T.ki
  | str x => exact T.ks
  | lst h => exact T.kl
  | tup h => exact T.kt
abbrev s_Ranges__init : Stmt := inClass (top 9) 0
theorem sc_Ranges__init : FnScope ["self", "parts"] ["self", "parts"] (defScope s_Ranges__init) := ⟨rfl, rfl, rfl, by decide +kernel, rfl, by decide +kernel, by decide +kernel⟩
def sp_init (C : Addr) : Sp := fun vs H Q _ => ∃ x dx t, vs = [.ref x, .ref t] ∧ H x = some (.ins C dx []) ∧ Q .non (upd H x (.ins C dx [("parts", .ref t)]))
theorem ok_init {fd : FuncData} (F : Fun K "__init__" "Ranges.__init__" s_Ranges__init fI fd) (T : ClsT K mg C fI fE) : FnOk P w K mg base CX0 1 fI fd ["self", "parts"] (sp_init C) := by
  refine F.ok sc_Ranges__init (fun vs H Q E h => ?_) (fun cdv A outer s H vs Q E hr h => ?_)
  · obtain ⟨x, dx, t, rfl, _⟩ := h
    rfl
  · obtain ⟨x, dx, t, rfl, hx, q⟩ := h
    refine ⟨_, (pss_one (ps_fld (pv 0) (pv 1) rfl)), ?_⟩
    exact ⟨_, rfl, _, rfl, x, C, dx, [], rfl, hx, T.cl, T.nP, (by show 0 < 1000; decide), q⟩
/-- the promise of __init__ where a set is made -/
abbrev spI (C : Addr) : Sp := fun vs H Q E => sp_init C (vs ++ []) H Q E
theorem mk_rng {H : Hp} {t : Addr} {ps : List Stc} {Q : VK} (hp : PartsT H t ps) (hc : Canon ps) (q : ∀ r H', Same H H' → Rng C H' r ps → Q (.ref r) H') :
    ∀ x dx, H x = none → H dx = none → dx ≠ x → spI C (V.ref x :: [.ref t]) (upd (upd H dx (.own x)) x (.ins C dx [])) (fun v H2 => v = .non ∧ Q (.ref x) H2) E0 := by
  intro x dx hx hdx hne
  refine ⟨x, dx, t, rfl, upd_same, rfl, ?_⟩
  have sm : Same H (upd (upd (upd H dx (.own x)) x (.ins C dx [])) x (.ins C dx [("parts", .ref t)])) := fun b o e => by
    rw [upd_ne (ne_of_none e hx), upd_ne (ne_of_none e hx), upd_ne (ne_of_none e hdx)]
    exact e
  exact q x _ sm ⟨dx, t, upd_same, hp.up sm, hc⟩
theorem canon_nil : Canon [] := ⟨fun s hs => by simp at hs, .nil⟩
theorem canon_one {s : Stc} (h : NE s) : Canon [s] := ⟨fun x hx => by rw [List.mem_singleton.mp hx]; exact h, List.pairwise_singleton ..⟩
/-- «a new set with the integers that g tells» -/
abbrev NewR (C : Addr) (H : Hp) (Q : VK) (n : Nat) (g : Int → Bool) : Prop := ∀ r H' ps, Same H H' → Rng C H' r ps → (∀ k, hasL ps k = g k) → ps.length ≤ n → Q (.ref r) H'
abbrev s_Ranges_between : Stmt := inClass (top 9) 2
theorem sc_Ranges_between : FnScope ["cls", "low", "high"] ["cls", "low", "high"] (defScope s_Ranges_between) := ⟨rfl, rfl, rfl, by decide +kernel, rfl, by decide +kernel, by decide +kernel⟩
def sp_between (C : Addr) : Sp := fun vs H Q _ => ∃ lo hi, vs = [.ref C, ov lo, ov hi] ∧ NewR C H Q 1 (has1 (lo, hi))
theorem ok_between {f : Addr} {fd fdI : FuncData} (F : Fun K "between" "Ranges.between" s_Ranges_between f fd) (FI : Fun K "__init__" "Ranges.__init__" s_Ranges__init fI fdI) (B_init : Binds K fdI ["self", "parts"] []) (T : ClsT K mg C fI fE) :
    FnOk P w K mg base CX0 3 f fd ["cls", "low", "high"] (sp_between C) := by
  have RI : FnR P w K mg base CX0 1 fI (spI C) := FnOk.raw (ok_init FI T) B_init .nil
  have M := T.M
  refine F.ok sc_Ranges_between (fun vs H Q E h => ?_) (fun cdv A outer s H vs Q E hr h => ?_)
  · obtain ⟨lo, hi, rfl, _⟩ := h
    rfl
  · obtain ⟨lo, hi, rfl, q⟩ := h
    refine ⟨_, (pss_cons (ps_if (PW.pt (pw_and (pt_cmpR op_notN (pv 1) pe_non (nomark _)) (pw_and (pt_cmpR op_notN (pv 2) pe_non (nomark _)) (pw_and1 (pt_cmpR op_gt (pv 1) (pv 2) (nomark _))))))
 (pss_one (ps_ret (pe_makeL (i := 0) M RI (hr.mono (by decide)) rfl (Or.inl rfl) pass0 (pa_cons (pe_tup pa_nil) pa_nil))))
 pss_nil)
 (pss_one (ps_ret (pe_makeL (i := 0) M RI (hr.mono (by decide)) rfl (Or.inl rfl) pass0 (pa_cons (pe_tup (pa_cons (pe_tup (pa_cons (pv 1) (pa_cons (pv 2) pa_nil))) pa_nil)) pa_nil))))), ?_⟩
    have full : NE (lo, hi) → tRet (tMakeL 0 C (spI C) E0 (tCons (tTup (tCons (tTup (tCons (tVar 1) (tCons (tVar 2) tNil))) tNil)) tNil)) { nx := fun _ H' => Q .non H', rt := Q } [some (.ref C), some (ov lo), some (ov hi)] H := by
      intro hn
      walk_at "rd"
      refine ⟨rfl, ?_⟩
      unfold StX.tMakeR
      walk_at "rd"
      refine ⟨size_of (Nat.le_of_ble_eq_true rfl), fun p hp => ?_⟩
      obtain ⟨H1, e1, s1, h1⟩ := new_heap (o := .tup [ov lo, ov hi]) hp
      rw [e1]
      walk_at "rd"
      refine ⟨size_of (Nat.le_of_ble_eq_true rfl), fun p' hp' => ?_⟩
      obtain ⟨H2, e2, s2, h2⟩ := new_heap (o := .tup [.ref p]) hp'
      rw [e2]
      walk_at "rd"
      refine mk_rng (ps := [(lo, hi)]) ⟨_, h2, .cons ⟨p, rfl, s2 _ _ h1⟩ .nil⟩ (canon_one hn) fun r H' s3 hr => ?_
      exact q r H' _ (fun b o z => s3 _ _ (s2 _ _ (s1 _ _ z))) hr (fun k => hasL_one _ _) (Nat.le_refl _)
    walk_at "rd"
    cases lo with
    | none =>
      refine ite_nd (fun h => absurd rfl h) fun _ => iteF ?_
      walk_at "rd"
      exact full (fun l h e => nomatch e)
    | some l =>
      refine ite_nd (fun _ => ?_) (fun h => nomatch h)
      walk_at "rd"
      cases hi with
      | none =>
        refine ite_nd (fun h => absurd rfl h) fun _ => iteF ?_
        walk_at "rd"
        exact full (fun l h _ e => nomatch e)
      | some h =>
        refine ite_nd (fun _ => ?_) (fun h => nomatch h)
        walk_at "rd"
        refine ite_d (fun hlt => ?_) (fun hge => ?_)
        · walk_at "rd"
          refine ⟨rfl, ?_⟩
          unfold StX.tMakeR
          walk_at "rd"
          refine ⟨Nat.zero_le _, fun p hp => ?_⟩
          obtain ⟨H1, e1, s1, h1⟩ := new_heap (o := .tup []) hp
          rw [e1]
          walk_at "rd"
          refine mk_rng (ps := []) ⟨_, h1, .nil⟩ canon_nil fun r H' s3 hr => ?_
          refine q r H' _ (fun b o z => s3 _ _ (s1 _ _ z)) hr (fun k => ?_) (Nat.zero_le _)
          rw [hasL_nil]
          simp only [has1]
          rw [eq_comm, Bool.and_eq_false_iff, decide_eq_false_iff_not, decide_eq_false_iff_not]
          omega
        · walk_at "rd"
          exact full (fun a b e1 e2 => by cases e1; cases e2; omega)
abbrev s_Ranges_full : Stmt := inClass (top 9) 3
theorem sc_Ranges_full : FnScope ["cls"] ["cls"] (defScope s_Ranges_full) := ⟨rfl, rfl, rfl, by decide +kernel, rfl, by decide +kernel, by decide +kernel⟩
def sp_full (C : Addr) : Sp := fun vs H Q _ => vs = [.ref C] ∧ ∀ r H', Same H H' → Rng C H' r [(none, none)] → Q (.ref r) H'
theorem ok_full {f : Addr} {fd fdI : FuncData} (F : Fun K "full" "Ranges.full" s_Ranges_full f fd) (FI : Fun K "__init__" "Ranges.__init__" s_Ranges__init fI fdI) (B_init : Binds K fdI ["self", "parts"] []) (T : ClsT K mg C fI fE) :
    FnOk P w K mg base CX0 3 f fd ["cls"] (sp_full C) := by
  have RI : FnR P w K mg base CX0 1 fI (spI C) := FnOk.raw (ok_init FI T) B_init .nil
  have M := T.M
  refine F.ok sc_Ranges_full (fun vs H Q E h => ?_) (fun cdv A outer s H vs Q E hr h => ?_)
  · obtain ⟨rfl, _⟩ := h
    rfl
  · obtain ⟨rfl, q⟩ := h
    refine ⟨_, (pss_one (ps_ret (pe_makeL (i := 0) M RI (hr.mono (by decide)) rfl (Or.inl rfl) pass0 (pa_cons (pe_tup (pa_cons (pe_tup (pa_cons pe_non (pa_cons pe_non pa_nil))) pa_nil)) pa_nil)))), ?_⟩
    walk_at "rd"
    refine ⟨rfl, ?_⟩
    unfold StX.tMakeR
    walk_at "rd"
    refine ⟨size_of (Nat.le_of_ble_eq_true rfl), fun p hp => ?_⟩
    obtain ⟨H1, e1, s1, h1⟩ := new_heap (o := .tup [.non, .non]) hp
    rw [e1]
    walk_at "rd"
    refine ⟨size_of (Nat.le_of_ble_eq_true rfl), fun p' hp' => ?_⟩
    obtain ⟨H2, e2, s2, h2⟩ := new_heap (o := .tup [.ref p]) hp'
    rw [e2]
    walk_at "rd"
    refine mk_rng (ps := [(none, none)]) ⟨_, h2, .cons ⟨p, rfl, s2 _ _ h1⟩ .nil⟩ (canon_one fun l h e => nomatch e) fun r H' s3 hr => ?_
    exact q r H' (fun b o z => s3 _ _ (s2 _ _ (s1 _ _ z))) hr
abbrev s_Ranges_empty : Stmt := inClass (top 9) 4
theorem sc_Ranges_empty : FnScope ["cls"] ["cls"] (defScope s_Ranges_empty) := ⟨rfl, rfl, rfl, by decide +kernel, rfl, by decide +kernel, by decide +kernel⟩
def sp_empty (C : Addr) : Sp := fun vs H Q _ => vs = [.ref C] ∧ ∀ r H', Same H H' → Rng C H' r [] → Q (.ref r) H'
theorem ok_empty {f : Addr} {fd fdI : FuncData} (F : Fun K "empty" "Ranges.empty" s_Ranges_empty f fd) (FI : Fun K "__init__" "Ranges.__init__" s_Ranges__init fI fdI) (B_init : Binds K fdI ["self", "parts"] []) (T : ClsT K mg C fI fE) :
    FnOk P w K mg base CX0 3 f fd ["cls"] (sp_empty C) := by
  have RI : FnR P w K mg base CX0 1 fI (spI C) := FnOk.raw (ok_init FI T) B_init .nil
  have M := T.M
  refine F.ok sc_Ranges_empty (fun vs H Q E h => ?_) (fun cdv A outer s H vs Q E hr h => ?_)
  · obtain ⟨rfl, _⟩ := h
    rfl
  · obtain ⟨rfl, q⟩ := h
    refine ⟨_, (pss_one (ps_ret (pe_makeL (i := 0) M RI (hr.mono (by decide)) rfl (Or.inl rfl) pass0 (pa_cons (pe_tup pa_nil) pa_nil)))), ?_⟩
    walk_at "rd"
    refine ⟨rfl, ?_⟩
    unfold StX.tMakeR
    walk_at "rd"
    refine ⟨Nat.zero_le _, fun p hp => ?_⟩
    obtain ⟨H1, e1, s1, h1⟩ := new_heap (o := .tup []) hp
    rw [e1]
    walk_at "rd"
    refine mk_rng (ps := []) ⟨_, h1, .nil⟩ canon_nil fun r H' s3 hr => ?_
    exact q r H' (fun b o z => s3 _ _ (s1 _ _ z)) hr
/-! ### a | b -/
abbrev s_Ranges__or : Stmt := inClass (top 9) 5
theorem sc_Ranges__or : FnScope ["self", "other"] ["self", "other"] (defScope s_Ranges__or) := ⟨rfl, rfl, rfl, by decide +kernel, rfl, by decide +kernel, by decide +kernel⟩
def sp_or (C : Addr) : Sp := fun vs H Q _ => ∃ a b ps qs, vs = [.ref a, .ref b] ∧ Rng C H a ps ∧ Rng C H b qs ∧ ps.length + qs.length ≤ 1000 ∧ NewR C H Q (ps.length + qs.length) fun k => hasL ps k || hasL qs k
theorem tups_append {H : Hp} {vs ws : List V} {ps qs : List Stc} (h : Tups H vs ps) (h' : Tups H ws qs) : Tups H (vs ++ ws) (ps ++ qs) := by
  induction h with
  | nil => exact h'
  | cons r t ih => exact .cons r ih
theorem lk_parts {t : Addr} : ([("parts", V.ref t)] : List (Str × V)).lookup ("parts" : Str) = some (V.ref t) := by
  show (match (("parts" : Str) == "parts") with | true => some (V.ref t) | false => none) = some (V.ref t)
  rw [beq_self_eq_true]
theorem ok_or {f fJ : Addr} {fd fdI fdJ : FuncData} (F : Fun K "__or__" "Ranges.__or__" s_Ranges__or f fd) (FI : Fun K "__init__" "Ranges.__init__" s_Ranges__init fI fdI) (B_init : Binds K fdI ["self", "parts"] []) (T : ClsT K mg C fI fE)
    (F_joined : Fun K "joined" "joined" s_joined fJ fdJ) (B_joined : Binds K fdJ ["stretches"] []) (g_joined : mg "joined" = some (.ref fJ)) (G_joined : FnOk P w K mg base CX0 4 fJ fdJ ["stretches"] (sp_joined K)) :
    FnOk P w K mg base CX0 5 f fd ["self", "other"] (sp_or C) := by
  have RI : FnR P w K mg base CX0 1 fI (spI C) := FnOk.raw (ok_init FI T) B_init .nil
  have M := T.M
  have g_C := T.g_C
  refine F.ok sc_Ranges__or (fun vs H Q E h => ?_) (fun cdv A outer s H vs Q E hr h => ?_)
  · obtain ⟨a, b, ps, qs, rfl, _⟩ := h
    rfl
  · obtain ⟨a, b, ps, qs, rfl, ⟨dx, t, ha, ⟨vs, ht, tu⟩, ca⟩, ⟨dy, u, hb, ⟨ws, hu, tw⟩, cb⟩, hz, q⟩ := h
    refine ⟨_, (pss_one (ps_ret (StX.pe_makeR M RI (hr.mono (by decide)) rfl g_C pass0 (pa_cons (pe_call G_joined (hr.mono (by decide)) rfl g_joined F_joined.kp B_joined .nil pass0 (pa_cons (pe_op op_catA (pe_fld (pv 0) rfl) (pe_fld (pv 1) rfl)) pa_nil)) pa_nil)))), ?_⟩
    have l1 := tups_len tu
    have l2 := tups_len tw
    have hne : ∀ s, s ∈ ps ++ qs → NE s := fun s hs => (List.mem_append.mp hs).elim (ca.ne s) (cb.ne s)
    have fin : ∀ (p : Addr) (H1 : Hp), Same H H1 → H1 p = some (.tup (vs ++ ws)) → sp_joined K [.ref p] H1 (fun v H2 => ∀ x dx, H2 x = none → H2 dx = none → dx ≠ x → spI C (V.ref x :: [v]) (upd (upd H2 dx (.own x)) x (.ins C dx [])) (fun v H2 => v = .non ∧ Q (.ref x) H2) E0) E0 := by
      intro p H1 s1 hp
      refine ⟨p, vs ++ ws, ps ++ qs, rfl, .inr (SqT.of hp), tups_append (tu.up s1) (tw.up s1), by rw [List.length_append]; exact hz, hne, fun r H2 rs s2 hr hc hm hl => ?_⟩
      refine mk_rng hr hc fun x H3 s3 hx => ?_
      exact q x H3 rs (fun b o z => s3 _ _ (s2 _ _ (s1 _ _ z))) hx (fun k => by rw [hm k, hasL_append]) (by rw [List.length_append] at hl; exact hl)
    unfold StX.tMakeR
    walk_at "rd"
    refine ⟨_, rfl, a, C, dx, _, _, rfl, ha, T.cl, T.nP, lk_parts, ?_⟩
    refine ⟨_, rfl, b, C, dy, _, _, rfl, hb, T.cl, T.nP, lk_parts, ?_⟩
    refine ⟨t, u, vs, ws, rfl, rfl, SqT.of ht, SqT.of hu, size_of (by omega), fun e => ?_, fun _ e => ?_, fun _ _ p hp => ?_⟩
    · subst e
      exact fin u H (Same.refl H) hu
    · subst e
      exact fin t H (Same.refl H) (by rw [List.append_nil]; exact ht)
    · obtain ⟨H1, e1, s1, h1⟩ := new_heap (o := .tup (vs ++ ws)) hp
      rw [e1]
      exact fin p H1 s1 h1

/-! ### Ranges.of(*numbers) -/
def singles (ns : List Int) : List Stc := ns.map fun n => (some n, some n)
abbrev s_Ranges_of : Stmt := inClass (top 9) 1
theorem sc_Ranges_of : FnScope ["cls", "numbers", "number"] ["cls", "numbers"] (defScope s_Ranges_of) := ⟨rfl, rfl, rfl, by decide +kernel, rfl, by decide +kernel, by decide +kernel⟩
def sp_ofI (C : Addr) : Sp := fun vs H Q _ => ∃ t ns, vs = [.ref C, .ref t] ∧ H t = some (.tup (ns.map V.int)) ∧ ns.length ≤ 1000 ∧ NewR C H Q ns.length (hasL (singles ns))
/-- as it is called -/
def sp_of (C : Addr) : Sp := fun vs H Q _ => ∃ ns : List Int, vs = .ref C :: ns.map V.int ∧ ns.length ≤ 1000 ∧ NewR C H Q ns.length (hasL (singles ns))
structure OInv (H0 : Hp) (t D : Addr) (ns : List Int) (i : Nat) (H : Hp) : Prop where
  ex : ∃ vs, Same H0 H ∧ H D = some (.lst vs) ∧ Tups H vs (singles (ns.take i))
theorem singles_ne (ns : List Int) : ∀ s, s ∈ singles ns → NE s := fun s hs => by
  obtain ⟨n, _, rfl⟩ := List.mem_map.mp hs
  intro l h e1 e2
  cases e1
  cases e2
  exact Int.le_refl _
theorem ok_of {f fJ : Addr} {fd fdI fdJ : FuncData} (F : Fun K "of" "Ranges.of" s_Ranges_of f fd) (FI : Fun K "__init__" "Ranges.__init__" s_Ranges__init fI fdI) (B_init : Binds K fdI ["self", "parts"] []) (T : ClsT K mg C fI fE)
    (F_joined : Fun K "joined" "joined" s_joined fJ fdJ) (B_joined : Binds K fdJ ["stretches"] []) (g_joined : mg "joined" = some (.ref fJ)) (G_joined : FnOk P w K mg base CX0 4 fJ fdJ ["stretches"] (sp_joined K)) :
    FnR P w K mg base CX0 5 f (sp_of C) := by
  have RI : FnR P w K mg base CX0 1 fI (spI C) := FnOk.raw (ok_init FI T) B_init .nil
  have M := T.M
  refine FnR.imp (F.okStar (ps := ["cls"]) (pv := "numbers") (sp := sp_ofI C) sc_Ranges_of (fun kV doc pm an cdv ct => StX.bind_star1 (B := fun us => bindArgs (PySem.W.fnOf "of" "Ranges.of" (defArgs s_Ranges_of) (defBody s_Ranges_of) (defScope s_Ranges_of) .none kV doc pm an cdv ct) ⟨us, []⟩) (fun _ => rfl) fun _ _ _ => rfl) (fun cdv A outer s H vs Q E hr h => ?_)) ?_
  · obtain ⟨t, ns, rfl, ht, hz, q⟩ := h
    refine ⟨_, (pss_one (ps_ret (pe_makeL (i := 0) M RI (hr.mono (by decide)) rfl (Or.inl rfl) pass0 (pa_cons (pe_call G_joined (hr.mono (by decide)) rfl g_joined F_joined.kp B_joined .nil pass0 (pa_cons (pe_lc (own := [("number", 2)]) (g := gName 2) (tt := tYes) rfl sc_Ranges_of.nd (pi_tup (pv 1)) (blkOk_by (own := [("number", 2)]) (N := ["cls", "numbers", "number"]) (sc := defScope s_Ranges_of) (by decide +kernel)) (fun _ _ _ _ _ => pg_name (i := 2) sc_Ranges_of.nd rfl (Or.inl rfl)) (fun _ _ _ _ _ => pts_nil) (fun _ _ _ _ _ => (pe_tup (pa_cons (pv 2) (pa_cons (pv 2) pa_nil))))) pa_nil)) pa_nil)))), ?_⟩
    walk_at "rd"
    refine ⟨rfl, ?_⟩
    unfold StX.tMakeR
    walk_at "rd"
    refine ⟨_, rfl, t, rfl, ⟨_, SqT.of ht⟩, fun D hD => ?_⟩
    obtain ⟨H1, e1, s1, h1⟩ := new_heap (o := .lst []) hD
    refine lc_tup (K := K) (a := t) (xs := ns.map V.int) (OInv H t D ns) ⟨[], by rw [e1]; exact s1, by rw [e1]; exact h1, .nil⟩ ?_ ?_ ?_
    · rintro i H' _ ⟨vs, sm, _⟩
      exact SqT.of (sm _ _ ht)
    · rintro i x H' hx ⟨vs, sm, hd, tu⟩
      have hi : i < ns.length := by
        have := (List.getElem?_eq_some_iff.mp hx).1
        simpa using this
      have ex : x = .int ns[i] := by
        rw [List.getElem?_map, List.getElem?_eq_getElem hi] at hx
        exact (Option.some.inj hx).symm
      subst ex
      walk_at "rd"
      refine ⟨rfl, i_yes (iteT ?_)⟩
      walk_at "rd"
      refine ⟨size_of (Nat.le_of_ble_eq_true rfl), fun p hp => ?_⟩
      obtain ⟨H2, e2, s2, h2⟩ := new_heap (o := .tup [.int ns[i], .int ns[i]]) hp
      rw [e2]
      have hl := tups_len tu
      have hl2 : vs.length ≤ 100000 := by
        rw [hl]
        simp only [singles, List.length_map, List.length_take]
        omega
      refine ⟨vs, s2 _ _ hd, size_lt hl2, ⟨vs ++ [.ref p], Same.mut (fun b o z => s2 _ _ (sm _ _ z)) hD, upd_same, ?_⟩⟩
      have e : singles (ns.take (i + 1)) = singles (ns.take i) ++ [(some ns[i], some ns[i])] := by
        simp only [singles, List.take_succ_eq_append_getElem hi, List.map_append, List.map_cons, List.map_nil]
      rw [e]
      exact Tups.mut (tups_snoc (tu.up s2) ⟨p, rfl, h2⟩) (s2 _ _ hd)
    · rintro H' ⟨vs, sm, hd, tu⟩
      rw [List.length_map, List.take_length] at tu
      refine ⟨D, vs, singles ns, rfl, .inl (SqL.of hd), tu, by simpa [singles] using hz, singles_ne ns, fun p H2 ps s2 hp hc hm hl => ?_⟩
      refine mk_rng hp hc fun r H3 s3 hr => ?_
      exact q r H3 ps (fun b o z => s3 _ _ (s2 _ _ (sm _ _ z))) hr hm (by simpa [singles] using hl)
  · rintro vs H Q E ⟨ns, rfl, hz, q⟩
    refine ⟨[.ref C], ns.map V.int, rfl, rfl, size_of (by rw [List.length_map]; omega), fun p hp => ?_⟩
    obtain ⟨H1, e1, s1, h1⟩ := new_heap (o := .tup (ns.map V.int)) hp
    rw [e1]
    exact ⟨p, ns, rfl, h1, hz, fun r H' ps sm hr hm hl => q r H' ps (fun b o z => sm _ _ (s1 _ _ z)) hr hm hl⟩
/-! ### ==, in, bool -/
abbrev s_Ranges__eq : Stmt := inClass (top 9) 8
theorem sc_Ranges__eq : FnScope ["self", "other"] ["self", "other"] (defScope s_Ranges__eq) := ⟨rfl, rfl, rfl, by decide +kernel, rfl, by decide +kernel, by decide +kernel⟩
def sp_eq (C : Addr) : Sp := fun vs H Q _ => ∃ a y ps k, vs = [.ref a, y] ∧ Rng C H a ps ∧ ((∃ b qs, y = .ref b ∧ Rng C H b qs ∧ k = decide (ps = qs)) ∨ (∃ T, Odd H y T ∧ k = false)) ∧ Q (.bl k) H
theorem ok_eq {fd : FuncData} (F : Fun K "__eq__" "Ranges.__eq__" s_Ranges__eq fE fd) (T : ClsT K mg C fI fE) (z_isinstance : mg "isinstance" = none) : FnOk P w K mg base CX0 1 fE fd ["self", "other"] (sp_eq C) := by
  have g_C := T.g_C
  refine F.ok sc_Ranges__eq (fun vs H Q E h => ?_) (fun cdv A outer s H vs Q E hr h => ?_)
  · obtain ⟨a, y, ps, k, rfl, _⟩ := h
    rfl
  · obtain ⟨a, y, ps, k, rfl, ra, h, q⟩ := h
    refine ⟨_, (pss_one (ps_ret (pe_and (pe_callB call_isi (by rfl) z_isinstance (by decide +kernel) (pa_cons (pv 1) (pa_cons (pe_glob rfl g_C (relR _)) pa_nil))) (pe_one (pe_cmpR (op_eqD hr.units) (pe_fld (pv 0) rfl) (pe_fld (pv 1) rfl) (nomark _)))))), ?_⟩
    walk_at "rd"
    rcases h with ⟨b, qs, rfl, rb, rfl⟩ | ⟨X, o, rfl⟩
    · refine ⟨_, _, _, _, true, rfl, .own C, rb.ty T, T.kit, true, rfl, iteT ?_⟩
      obtain ⟨dx, t, ha, pa, _⟩ := ra
      obtain ⟨dy, u, hb, pb, _⟩ := rb
      walk_at "rd"
      refine ⟨_, rfl, a, C, dx, _, _, rfl, ha, T.cl, T.nP, lk_parts, ?_⟩
      refine ⟨_, rfl, b, C, dy, _, _, rfl, hb, T.cl, T.nP, lk_parts, ?_⟩
      refine ⟨psD ps, psD qs, dp_parts pa, dp_parts pb, shaped_ps ps, shaped_ps qs, ?_⟩
      rw [eqv_psD]
      exact q
    · exact ⟨_, _, _, _, false, rfl, .own C, o.ty, T.odd o, false, rfl, iteF q⟩
abbrev s_Ranges__contains : Stmt := inClass (top 9) 9
theorem sc_Ranges__contains : FnScope ["self", "value"] ["self", "value"] (defScope s_Ranges__contains) := ⟨rfl, rfl, rfl, by decide +kernel, rfl, by decide +kernel, by decide +kernel⟩
/-- any other value, by its type -/
def Other (K : PySem.W.Frag) (H : Hp) (y : V) : Prop := ∃ t, TyX K H y t ∧ (PySem.W.kitOne K t (.type "int") = some false ∨ (PySem.W.kitOne K t (.type "int") = some true ∧ PySem.W.kitOne K t (.type "bool") = some true))
def sp_contains (K : PySem.W.Frag) (C : Addr) : Sp := fun vs H Q _ => ∃ a y ps k, vs = [.ref a, y] ∧ Rng C H a ps ∧ ((∃ n, y = .int n ∧ k = hasL ps n) ∨ (Other K H y ∧ k = false)) ∧ Q (.bl k) H
theorem ok_contains {f fN : Addr} {fd fdN : FuncData} (F : Fun K "__contains__" "Ranges.__contains__" s_Ranges__contains f fd) (T : ClsT K mg C fI fE) (z_isinstance : mg "isinstance" = none) (z_int : mg "int" = none) (z_bool : mg "bool" = none) (z_len : mg "len" = none)
    (F_in_parts : Fun K "in_parts" "in_parts" s_in_parts fN fdN) (B_in_parts : Binds K fdN ["parts", "number"] []) (g_in_parts : mg "in_parts" = some (.ref fN)) : FnOk P w K mg base CX0 2 f fd ["self", "value"] (sp_contains K C) := by
  have G_in_parts : FnOk P w K mg base CX0 1 fN fdN ["parts", "number"] sp_in_parts := ok_in_parts F_in_parts z_len
  refine F.ok sc_Ranges__contains (fun vs H Q E h => ?_) (fun cdv A outer s H vs Q E hr h => ?_)
  · obtain ⟨a, y, ps, k, rfl, _⟩ := h
    rfl
  · obtain ⟨a, y, ps, k, rfl, ra, h, q⟩ := h
    refine ⟨_, (pss_one (ps_ret (pe_and (pe_callB call_isi (by rfl) z_isinstance (by decide +kernel) (pa_cons (pv 1) (pa_cons (pe_bltn (v := .ty "int") (u := .type "int") (by rfl) z_int (by decide +kernel) rfl) pa_nil))) (pe_and (pe_not (pe_callB call_isi (by rfl) z_isinstance (by decide +kernel) (pa_cons (pv 1) (pa_cons (pe_bltn (v := .ty "bool") (u := .type "bool") (by rfl) z_bool (by decide +kernel) rfl) pa_nil)))) (pe_one (pe_call G_in_parts (hr.mono (by decide)) rfl g_in_parts F_in_parts.kp B_in_parts .nil pass0 (pa_cons (pe_fld (pv 0) rfl) (pa_cons (pv 1) pa_nil)))))))), ?_⟩
    walk_at "rd"
    rcases h with ⟨n, rfl, rfl⟩ | ⟨⟨t, ty, ho⟩, rfl⟩
    · refine ⟨_, _, _, _, true, rfl, .ty "int", .base (.int n), kit_ty (by decide +kernel), true, rfl, iteT ?_⟩
      walk_at "rd"
      refine ⟨_, _, _, _, false, rfl, .ty "bool", .base (.int n), kit_ty (by decide +kernel), false, rfl, ?_⟩
      refine ⟨true, rfl, iteT ?_⟩
      obtain ⟨dx, t, ha, pa, ca⟩ := ra
      walk_at "rd"
      refine ⟨_, rfl, a, C, dx, _, _, rfl, ha, T.cl, T.nP, lk_parts, ?_⟩
      walk_at "rd"
      exact ⟨t, ps, n, rfl, pa, ca, q⟩
    · rcases ho with h1 | ⟨h1, h2⟩
      · exact ⟨_, _, _, _, false, rfl, .ty "int", ty, h1, false, rfl, iteF q⟩
      · refine ⟨_, _, _, _, true, rfl, .ty "int", ty, h1, true, rfl, iteT ?_⟩
        walk_at "rd"
        refine ⟨_, _, _, _, true, rfl, .ty "bool", ty, h2, true, rfl, ?_⟩
        exact ⟨false, rfl, iteF q⟩
abbrev s_Ranges__bool : Stmt := inClass (top 9) 10
theorem sc_Ranges__bool : FnScope ["self"] ["self"] (defScope s_Ranges__bool) := ⟨rfl, rfl, rfl, by decide +kernel, rfl, by decide +kernel, by decide +kernel⟩
def sp_bool (C : Addr) : Sp := fun vs H Q _ => ∃ a ps, vs = [.ref a] ∧ Rng C H a ps ∧ Q (.bl (!ps.isEmpty)) H
theorem ok_bool {f : Addr} {fd : FuncData} (F : Fun K "__bool__" "Ranges.__bool__" s_Ranges__bool f fd) (T : ClsT K mg C fI fE) (z_bool : mg "bool" = none) : FnOk P w K mg base CX0 1 f fd ["self"] (sp_bool C) := by
  refine F.ok sc_Ranges__bool (fun vs H Q E h => ?_) (fun cdv A outer s H vs Q E hr h => ?_)
  · obtain ⟨a, ps, rfl, _⟩ := h
    rfl
  · obtain ⟨a, ps, rfl, ⟨dx, t, ha, ⟨vs, ht, tu⟩, _⟩, q⟩ := h
    refine ⟨_, (pss_one (ps_ret (pe_callTy call_boolT (by rfl) z_bool (by decide +kernel) (pa_cons (pe_fld (pv 0) rfl) pa_nil)))), ?_⟩
    walk_at "rd"
    refine ⟨_, rfl, a, C, dx, _, _, rfl, ha, T.cl, T.nP, lk_parts, ?_⟩
    walk_at "rd"
    refine ⟨t, vs, rfl, SqT.of ht, ?_⟩
    have e : vs.isEmpty = ps.isEmpty := by
      cases tu <;> rfl
    rw [e]
    exact q
end
end Spk

set_option Elab.async false
set_option linter.all false
set_option maxRecDepth 100000
set_option maxHeartbeats 2000000
namespace Spk
open PySem PySem.Spec PyProof.Rows L2 TL NumText
open PySem.Builtin PySem.Builtin.Str
/-! ## whole numbers and stretches as texts -/
abbrev numT (n : Int) : Str := Str.ofString (toString n)
def signL (n : Int) : List Nat := if n < 0 then [45] else []
theorem tl_numT (n : Int) : tl (numT n) = signL n ++ numL n.natAbs := by
  unfold signL
  cases n with
  | ofNat m =>
    rw [if_neg (show ¬ (Int.ofNat m < 0) from by
      have : (0:Int) ≤ Int.ofNat m := Int.natCast_nonneg m
      omega)]
    exact tl_num m
  | negSucc m =>
    rw [if_pos (by omega)]
    show (PySem.Str.ofString (toString (Int.negSucc m))).cps.toList = _
    rw [PyProof.Rows.signs_ofString]
    have e : toString (Int.negSucc m) = "-" ++ Nat.repr (m + 1) := rfl
    rw [e, String.toList_append, List.map_append, Nat.toList_repr]
    rfl
theorem numT_free {n : Int} {s : Nat} (h : s < 48 ∨ 57 < s) (h2 : s ≠ 45) : s ∉ tl (numT n) := fun hm => by
  rw [tl_numT] at hm
  rcases List.mem_append.mp hm with hm | hm
  · unfold signL at hm
    split at hm
    · exact h2 (List.mem_singleton.mp hm)
    · cases hm
  · exact numL_free h hm
theorem numT_len {n : Int} {k : Nat} (hk : 0 < k) (h : n.natAbs < 10 ^ k) : (numT n).length ≤ k + 1 := by
  rw [len_tl, tl_numT, List.length_append]
  have := numL_len hk h
  have : (signL n).length ≤ 1 := by
    unfold signL
    split <;> simp
  omega
theorem int_numT {n : Int} (h : n.natAbs < 10 ^ 13) : intText? (numT n) = some n := by
  have l := numT_len (by decide) h
  by_cases hn : n < 0
  · have e : (numT n).cps.toList = 45 :: numL n.natAbs := by
      rw [show (numT n).cps.toList = tl (numT n) from rfl, tl_numT]
      unfold signL
      rw [if_pos hn]
      rfl
    rw [intText_neg e (numL_digits _) (numL_ne _) (by omega), numL_val]
    congr 1
    omega
  · have e : (numT n).cps.toList = numL n.natAbs := by
      rw [show (numT n).cps.toList = tl (numT n) from rfl, tl_numT]
      unfold signL
      rw [if_neg hn]
      rfl
    rw [intText_digits (by rw [e]; exact numL_digits _) (by rw [e]; exact numL_ne _) (by omega), e, numL_val]
    congr 1
    omega
/-- the first figure is nought for nought alone -/
theorem numL_head {n : Nat} (h : n ≠ 0) : ∀ c r, numL n = c :: r → c ≠ 48 := by
  induction n using Nat.strongRecOn with
  | _ n ih =>
    intro c r e
    by_cases h10 : n < 10
    · rw [numL_lt h10] at e
      have := (List.cons.inj e).1
      omega
    · rw [numL_step (by omega)] at e
      cases z : numL (n / 10) with
      | nil => exact absurd z (numL_ne _)
      | cons c' r' =>
        rw [z] at e
        have := (List.cons.inj e).1
        rw [← this]
        exact ih (n / 10) (by omega) (by omega) c' r' z
def endT : Option Int → Str
  | none => Str.empty
  | some n => numT n
abbrev dots : Str := ".."
abbrev comma : Str := ","
def partT (s : Stc) : Str := if s.1 ≠ none ∧ s.1 = s.2 then endT s.1 else endT s.1 ++ dots ++ endT s.2
def partsT (ps : List Stc) : Str := if ps = [] then "-" else Txt.join comma (ps.map partT)
/-- ends of at most twelve figures -/
def Few12 (o : Option Int) : Prop := ∀ n, o = some n → n.natAbs < 10 ^ 12
def FewS (s : Stc) : Prop := Few12 s.1 ∧ Few12 s.2
theorem tl_empty : tl Str.empty = [] := rfl
theorem tl_dots : tl dots = [46, 46] := rfl
theorem tl_comma : tl comma = [44] := rfl
theorem endT_free {o : Option Int} {s : Nat} (h : s < 48 ∨ 57 < s) (h2 : s ≠ 45) : s ∉ tl (endT o) := by
  cases o with
  | none => exact fun z => by cases z
  | some n => exact numT_free h h2
theorem endT_len {o : Option Int} (h : Few12 o) : (endT o).length ≤ 13 := by
  cases o with
  | none => exact Nat.zero_le _
  | some n => exact numT_len (by decide) (h n rfl)
theorem partT_free {s : Stc} {c : Nat} (h : c < 45 ∨ 57 < c) : c ∉ tl (partT s) := by
  unfold partT
  split
  · exact endT_free (by omega) (by omega)
  · rw [tl_append, tl_append]
    intro hm
    rcases List.mem_append.mp hm with hm | hm
    · rcases List.mem_append.mp hm with hm | hm
      · exact endT_free (by omega) (by omega) hm
      · rw [tl_dots] at hm
        simp at hm
        omega
    · exact endT_free (by omega) (by omega) hm
theorem partT_len {s : Stc} (h : FewS s) : (partT s).length ≤ 28 := by
  have h1 := endT_len h.1
  have h2 := endT_len h.2
  unfold partT
  split
  · omega
  · rw [len_tl, tl_append, tl_append, List.length_append, List.length_append, ← len_tl, ← len_tl, ← len_tl]
    have : dots.length = 2 := rfl
    omega
/-- what the partition of a text tells of ".." in it -/
theorem occ_none {x y a : Str} (h : Txt.partition x y = (a, Str.empty, Str.empty)) (hy : y ≠ Str.empty) : occurrences x y 0 x.length 1 = [] := by
  unfold Txt.partition at h
  cases e : occurrences x y 0 x.length 1 with
  | nil => rfl
  | cons i r =>
    rw [e] at h
    exact absurd (Prod.mk.inj (Prod.mk.inj h).2).1 hy
theorem occ_some {x y a b : Str} (h : Txt.partition x y = (a, y, b)) (hy : y ≠ Str.empty) : (occurrences x y 0 x.length 1).isEmpty = false := by
  unfold Txt.partition at h
  cases e : occurrences x y 0 x.length 1 with
  | nil =>
    rw [e] at h
    exact absurd (Prod.mk.inj (Prod.mk.inj h).2).1.symm hy
  | cons i r => rfl
theorem dots_ne : dots ≠ Str.empty := fun e => by
  have := congrArg tl e
  rw [tl_dots, tl_empty] at this
  cases this
theorem part_num {n : Int} : Txt.partition (numT n) dots = (numT n, Str.empty, Str.empty) := partition_none (y := dots) (s := 46) (S := [46]) rfl (numT_free (by omega) (by decide))
theorem part_ends {lo hi : Option Int} : Txt.partition (endT lo ++ dots ++ endT hi) dots = (endT lo, dots, endT hi) := partition_app (y := dots) (s := 46) (S := [46]) rfl (endT_free (by omega) (by decide))
theorem split_parts {ps : List Stc} (h : ps ≠ []) : Txt.split (partsT ps) comma = ps.map partT := by
  unfold partsT
  rw [if_neg h]
  refine split_join (y := comma) (s := 44) (S := []) rfl (by decide +kernel) (fun e => h (List.map_eq_nil_iff.mp e)) fun p hp => ?_
  obtain ⟨s, _, rfl⟩ := List.mem_map.mp hp
  exact partT_free (by omega)
end Spk
namespace Spk
open PySem PySem.Spec PyProof.Rows L2 TL NumText
open PySem.Builtin PySem.Builtin.Str
/-! ## the figures of a number -/
theorem starts_minus {x : Str} : Txt.startswith x "-" = decide ((tl x).head? = some 45) := by
  unfold Txt.startswith
  rw [PySem.StrLaws.subAt_eq, List.drop_zero]
  have e : ("-" : Str).cps.toList = [45] := rfl
  have l : ("-" : Str).length = 1 := rfl
  rw [e, l, len_tl]
  show (decide (0 + 1 ≤ (tl x).length) && (tl x).take 1 == [45]) = _
  cases tl x with
  | nil => rfl
  | cons c r =>
    have a : decide (0 + 1 ≤ (c :: r).length) = true := decide_eq_true (by rw [List.length_cons]; omega)
    rw [a, Bool.true_and]
    show ([c] == [45]) = decide (some c = some 45)
    by_cases h : c = 45
    · subst h; rfl
    · rw [decide_eq_false (by simpa using h)]
      simp [h]
theorem numT_neg {n : Int} (h : n < 0) : tl (numT n) = 45 :: numL n.natAbs := by
  rw [tl_numT]
  unfold signL
  rw [if_pos h]
  rfl
theorem numT_pos {n : Int} (h : ¬ n < 0) : tl (numT n) = numL n.natAbs := by
  rw [tl_numT]
  unfold signL
  rw [if_neg h]
  rfl
theorem starts_neg {n : Int} : Txt.startswith (numT n) "-" = decide (n < 0) := by
  rw [starts_minus]
  by_cases h : n < 0
  · rw [numT_neg h, decide_eq_true h]
    rfl
  · rw [numT_pos h, decide_eq_false h]
    cases e : numL n.natAbs with
    | nil => exact absurd e (numL_ne _)
    | cons c r =>
      have := numL_digits n.natAbs c (by rw [e]; exact List.mem_cons_self ..)
      refine decide_eq_false fun z => ?_
      have : c = 45 := Option.some.inj z
      omega
def figT (n : Int) : Str := ⟨(numL n.natAbs).toArray⟩
theorem tl_figT (n : Int) : tl (figT n) = numL n.natAbs := rfl
theorem cut_neg {n : Int} (h : n < 0) : cutS (numT n) (some 1) none = figT n := by
  refine ext_tl ?_
  show (((tl (numT n)).drop (HT.sIx (numT n).length 0 (some 1))).take (HT.sIx (numT n).length (numT n).length none - HT.sIx (numT n).length 0 (some 1))) = _
  have l : (numT n).length = (numL n.natAbs).length + 1 := by rw [len_tl, numT_neg h, List.length_cons]
  have e : HT.sIx (numT n).length 0 (some 1) = 1 := by
    show (if (1 : Int) < 0 then ((1 : Int) + ((numT n).length : Int)).toNat else min (1 : Int).toNat (numT n).length) = 1
    rw [if_neg (by decide), l]
    exact Nat.min_eq_left (by omega)
  rw [e, numT_neg h, HT.sIx_none, l, tl_figT]
  show ((numL n.natAbs).take _) = _
  exact List.take_of_length_le (by omega)
theorem fig_pos {n : Int} (h : ¬ n < 0) : numT n = figT n := ext_tl (by rw [numT_pos h]; rfl)
theorem figT_len {n : Int} {k : Nat} (hk : 0 < k) (h : n.natAbs < 10 ^ k) : 1 ≤ (figT n).length ∧ (figT n).length ≤ k := by
  rw [len_tl, tl_figT]
  refine ⟨?_, numL_len hk h⟩
  cases e : numL n.natAbs with
  | nil => exact absurd e (numL_ne _)
  | cons c r => rw [List.length_cons]; omega
theorem tl_figures : ("0123456789" : Str).cps.toList = [48, 49, 50, 51, 52, 53, 54, 55, 56, 57] := rfl
theorem in_figures {n : Int} {c : Nat} (h : c ∈ tl (figT n)) : c ∈ ("0123456789" : Str).cps.toList := by
  rw [tl_figT] at h
  have := numL_digits n.natAbs c h
  rw [tl_figures]
  have : c = 48 ∨ c = 49 ∨ c = 50 ∨ c = 51 ∨ c = 52 ∨ c = 53 ∨ c = 54 ∨ c = 55 ∨ c = 56 ∨ c = 57 := by omega
  rcases this with rfl | rfl | rfl | rfl | rfl | rfl | rfl | rfl | rfl | rfl <;> simp
/-- the first figure -/
theorem fig_first (n : Int) : ∃ c r, tl (figT n) = c :: r ∧ (n = 0 → numT n = "0") ∧ (n ≠ 0 → c ≠ 48) := by
  rw [tl_figT]
  cases e : numL n.natAbs with
  | nil => exact absurd e (numL_ne _)
  | cons c r =>
    refine ⟨c, r, rfl, fun h => by rw [h]; rfl, fun h => ?_⟩
    exact numL_head (by omega) c r e
end Spk

set_option Elab.async false
set_option linter.all false
set_option maxRecDepth 100000
set_option maxHeartbeats 1000000
namespace Spk
open PySem PySem.Spec PyProof.Rows L2
/-- o.m() by a positional promise -/
theorem pe_meth0R {X : Cx} {CX : CXT} {k : Nat} {C f : Addr} {m : Str} {sp : Sp} {E : XK} {o : Expr} {ta : TE} {apos pos : Pos} {pl : Sem Bool} (he : PE X o ta) (c : Cls X.K C) (hm : Meth X.K C m f)
    (F : FnR X.prog X.w X.K X.mg X.base CX k f sp) (hr : Room k X.A) (hx : Passes CX X E)
    (ht : eval (.Call (.Attribute o m apos) [] [] pos) X.env = (do
      let ov ← eval o X.env
      standAt apos.atName
      let (f, first) ← holding [ov] (getMethod ov m pl)
      callWith pos f first (backTo pos (starEach [] X.env)) (backToKw pos (keywordEach [] X.env))) := by rfl) :
    PE X (.Call (.Attribute o m apos) [] [] pos) (tMethR C m sp E ta tNil) := by
  refine ⟨fun pins s σ H Q I h => ?_⟩
  refine PySem.W.methodCall_KW (pl := pl) (thn (he.run pins s σ H _ I h) fun u s1 ⟨x, H1, I1, rx, a, dx, fs, ex, ea, l, q⟩ => ?_) ht
  subst ex
  obtain rfl : u = Value.ref a := rx
  refine getmeth_ok I1 ea c hm l ?_
  exact PySem.W.callWith_K0 (first := [.ref a]) I1.kIn hm.kp (wpAny_call (run_fnR (us := [.ref a]) (vs := [.ref a]) F hr hx I1 (.cons rfl .nil) q))
end Spk

set_option Elab.async false
set_option linter.all false
set_option maxRecDepth 100000
set_option maxHeartbeats 1000000
namespace Spk
open PySem L2 TL
local macro_rules | `(tactic| walk_at "rd") => `(tactic| repeat (first
  | with_reducible refine i_seq ?_ | with_reducible refine i_asg ?_ | with_reducible refine i_ret ?_ | with_reducible refine i_ifS ?_ | with_reducible refine i_if ?_
  | with_reducible refine i_for ?_ | with_reducible refine i_iL ?_ | with_reducible refine i_iT ?_ | with_reducible refine i_ckw ?_ | with_reducible refine i_cm ?_ | with_reducible refine And.intro (rfl : V.ref _ = V.ref _) ?_ | with_reducible refine i_rng1 ?_ | with_reducible refine i_bm ?_ | with_reducible refine i_bm0 ?_
  | with_reducible refine i_drop ?_ | with_reducible refine i_next ?_
  | with_reducible refine i_var rfl ?_ | with_reducible refine i_c ?_ | with_reducible refine i_op ?_ | with_reducible refine i_un ?_ | with_reducible refine i_name ?_
  | with_reducible refine i_rI0 ?_ | with_reducible refine i_rU ?_ | with_reducible refine i_rEq rfl ?_ | with_reducible refine i_rNe rfl ?_
  | with_reducible refine i_test ?_ | with_reducible refine i_tB ?_ | with_reducible refine i_and ?_ | with_reducible refine i_or ?_ | with_reducible refine i_not ?_
  | with_reducible refine i_andV ?_ | with_reducible refine i_orV ?_ | with_reducible refine i_notV ?_
  | with_reducible refine i_cons ?_ | with_reducible refine i_nil ?_ | with_reducible refine i_cb ?_ | with_reducible refine i_call ?_ | with_reducible refine i_bl ?_
  | with_reducible refine i_tup ?_ | with_reducible refine i_lst ?_ | with_reducible refine i_par ?_ | with_reducible refine i_gcons ?_ | with_reducible refine i_gnil ?_
  | with_reducible refine And.intro (rfl : V.non = V.non) ?_ | with_reducible refine i_ixT (by assumption) rfl ?_ | with_reducible refine i_ixL (by assumption) rfl ?_ | with_reducible refine i_gtup (by assumption) rfl ?_
  | with_reducible refine i_gsub ?_
  | with_reducible refine Or.inl (Exists.intro _ (And.intro (rfl : [V.int _] = [V.int _]) ?_)) | with_reducible refine Exists.intro _ (And.intro (rfl : [V.int _] = [V.int _]) ?_)
  | with_reducible refine Or.inr (Exists.intro _ (And.intro (rfl : [V.bl _] = [V.bl _]) ?_))
  | with_reducible refine Exists.intro _ (Exists.intro _ (And.intro (rfl : [V.int _, V.int _] = [V.int _, V.int _]) ?_))
  | with_reducible refine Exists.intro _ (Exists.intro _ (And.intro (rfl : [V.ref _] = [V.ref _]) (And.intro (Or.inl (SqL.of (by assumption))) ?_)))
  | with_reducible refine i_rI (show (0 : Int) < _ by assumption) ?_ | with_reducible refine i_rI (show (0 : Int) < _ by decide) ?_
  | with_reducible refine i_rI (pow_ok (Nat.le_of_ble_eq_true rfl) (Nat.le_of_ble_eq_true rfl)) ?_
  | with_reducible refine i_rI (cmulL rfl) ?_))
section
variable {P : Program} {w : World} {K : PySem.W.Frag} {mg : Str → Option Value} {base : Heap} {C fI fE : Addr}
/-! ### sets as texts -/
theorem item_of {H : Hp} {vs : List V} {ss : List Stc} (tu : Tups H vs ss) {i : Nat} {x : V} (hx : vs[i]? = some x) : ∃ (hi : i < ss.length) (c : Addr), x = .ref c ∧ H c = some (.tup [ov ss[i].1, ov ss[i].2]) := by
  have hi : i < ss.length := by
    have := (List.getElem?_eq_some_iff.mp hx).1
    have := tups_len tu
    omega
  obtain ⟨v, hv, c, e, hc⟩ := tups_get tu hi
  rw [hx] at hv
  cases hv
  exact ⟨hi, c, e, hc⟩
abbrev s_text_of_end : Stmt := top 5
theorem sc_text_of_end : FnScope ["end"] ["end"] (defScope s_text_of_end) := ⟨rfl, rfl, rfl, by decide +kernel, rfl, by decide +kernel, by decide +kernel⟩
def sp_tend : Sp := fun vs H Q _ => ∃ o, vs = [ov o] ∧ Few12 o ∧ Q (.str (endT o)) H
theorem few_log {n : Int} (h : n.natAbs < 10 ^ 12) : n.natAbs.log2 < 1920 := by
  by_cases h0 : n.natAbs = 0
  · rw [h0]; decide
  · have := (Nat.log2_lt h0 (k := 40)).mpr (by omega)
    omega
theorem ok_tend {f : Addr} {fd : FuncData} (F : Fun K "text_of_end" "text_of_end" s_text_of_end f fd) (z_str : mg "str" = none) : FnOk P w K mg base CX0 1 f fd ["end"] sp_tend := by
  refine F.ok sc_text_of_end (fun vs H Q E h => ?_) (fun cdv A outer s H vs Q E hr h => ?_)
  · obtain ⟨o, rfl, _⟩ := h
    rfl
  · obtain ⟨o, rfl, hf, q⟩ := h
    refine ⟨_, (pss_one (ps_ret (pe_ifExp (pt_cmpR op_isN (pv 0) pe_non (nomark _)) pe_str (pe_callTy call_str_int (by rfl) z_str (by decide +kernel) (pa_cons (pv 0) pa_nil))))), ?_⟩
    walk_at "rd"
    refine ite_d (fun h => ?_) (fun h => ?_)
    · have e := ov_non h
      subst e
      exact q
    · obtain ⟨i, rfl⟩ := ov_some h
      walk_at "rd"
      exact ⟨few_log (hf i rfl), q⟩
abbrev s_text_of_part : Stmt := top 4
theorem sc_text_of_part : FnScope ["low", "high"] ["low", "high"] (defScope s_text_of_part) := ⟨rfl, rfl, rfl, by decide +kernel, rfl, by decide +kernel, by decide +kernel⟩
def sp_tpart : Sp := fun vs H Q _ => ∃ s : Stc, vs = [ov s.1, ov s.2] ∧ FewS s ∧ Q (.str (partT s)) H
theorem ok_tpart {f fE2 : Addr} {fd fdE2 : FuncData} (F : Fun K "text_of_part" "text_of_part" s_text_of_part f fd) (F_text_of_end : Fun K "text_of_end" "text_of_end" s_text_of_end fE2 fdE2) (B_text_of_end : Binds K fdE2 ["end"] []) (g_text_of_end : mg "text_of_end" = some (.ref fE2)) (G_text_of_end : FnOk P w K mg base CX0 1 fE2 fdE2 ["end"] sp_tend)
    (z_str : mg "str" = none) : FnOk P w K mg base CX0 2 f fd ["low", "high"] sp_tpart := by
  refine F.ok sc_text_of_part (fun vs H Q E h => ?_) (fun cdv A outer s H vs Q E hr h => ?_)
  · obtain ⟨s, rfl, _⟩ := h
    rfl
  · obtain ⟨⟨lo, hi⟩, rfl, ⟨f1, f2⟩, q⟩ := h
    refine ⟨_, (pss_cons (ps_if (PW.pt (pw_and (pt_cmpR op_notN (pv 0) pe_non (nomark _)) (pw_and1 (pt_cmpR op_eq (pv 0) (pv 1) (nomark _)))))
 (pss_one (ps_ret (pe_callTy call_str_int (by rfl) z_str (by decide +kernel) (pa_cons (pv 0) pa_nil))))
 pss_nil)
 (pss_one (ps_ret (pe_op op_add_str (pe_op op_add_str (pe_call G_text_of_end (hr.mono (by decide)) rfl g_text_of_end F_text_of_end.kp B_text_of_end .nil pass0 (pa_cons (pv 0) pa_nil)) pe_str) (pe_call G_text_of_end (hr.mono (by decide)) rfl g_text_of_end F_text_of_end.kp B_text_of_end .nil pass0 (pa_cons (pv 1) pa_nil)))))), ?_⟩
    dsimp only at f1 f2
    have l1 := endT_len f1
    have l2 := endT_len f2
    have l3 : (endT lo ++ dots).length ≤ 15 := by
      rw [len_tl, tl_append, List.length_append, ← len_tl, ← len_tl]
      have : dots.length = 2 := rfl
      omega
    have d2 : (Str.ofString "..").length = 2 := rfl
    walk_at "rd"
    refine ite_nd (fun h => ?_) (fun h => ?_)
    · obtain ⟨n, rfl⟩ := ov_some h
      walk_at "rd"
      refine i_rEq (by cases hi <;> rfl) ?_
      refine ⟨_, rfl, ite_d (fun h2 => ?_) (fun h2 => ?_)⟩
      · have e : some n = hi := by
          cases hi with
          | none => cases h2
          | some m => cases h2; rfl
        walk_at "rd"
        refine ⟨few_log (f1 n rfl), ?_⟩
        unfold partT at q
        rw [if_pos ⟨by simp, e⟩] at q
        exact q
      · have e : ¬ some n = hi := fun e => h2 (by rw [← e])
        unfold partT at q
        rw [if_neg (fun z => e z.2)] at q
        walk_at "rd"
        refine ⟨some n, rfl, f1, _, _, rfl, rfl, size_of (by omega), ?_⟩
        walk_at "rd"
        exact ⟨hi, rfl, f2, _, _, rfl, rfl, size_of (Nat.le_trans (Nat.add_le_add l3 l2) (by decide)), q⟩
    · have e := ov_non h
      subst e
      refine iteF ?_
      unfold partT at q
      rw [if_neg (fun z => z.1 rfl)] at q
      walk_at "rd"
      refine ⟨none, rfl, f1, _, _, rfl, rfl, size_of (by omega), ?_⟩
      walk_at "rd"
      exact ⟨hi, rfl, f2, _, _, rfl, rfl, size_of (Nat.le_trans (Nat.add_le_add l3 l2) (by decide)), q⟩
abbrev s_text_of_parts : Stmt := top 3
theorem sc_text_of_parts : FnScope ["parts", "low", "high"] ["parts"] (defScope s_text_of_parts) := ⟨rfl, rfl, rfl, by decide +kernel, rfl, by decide +kernel, by decide +kernel⟩
def sp_tparts : Sp := fun vs H Q _ => ∃ t ps, vs = [.ref t] ∧ PartsT H t ps ∧ (∀ s, s ∈ ps → FewS s) ∧ ps.length ≤ 100 ∧ ∀ H', Same H H' → Q (.str (partsT ps)) H'
theorem ok_tparts {f fE2 : Addr} {fd fdE2 : FuncData} (F : Fun K "text_of_parts" "text_of_parts" s_text_of_parts f fd) (F_text_of_part : Fun K "text_of_part" "text_of_part" s_text_of_part fE2 fdE2) (B_text_of_part : Binds K fdE2 ["low", "high"] []) (g_text_of_part : mg "text_of_part" = some (.ref fE2)) (G_text_of_part : FnOk P w K mg base CX0 2 fE2 fdE2 ["low", "high"] sp_tpart) :
    FnOk P w K mg base CX0 3 f fd ["parts"] sp_tparts := by
  refine F.ok sc_text_of_parts (fun vs H Q E h => ?_) (fun cdv A outer s H vs Q E hr h => ?_)
  · obtain ⟨t, ps, rfl, _⟩ := h
    rfl
  · obtain ⟨t, ps, rfl, ⟨vs, ht, tu⟩, hf, hz, q⟩ := h
    refine ⟨_, (pss_one (ps_ret (pe_ifExp (pt_truth (pv 0) (by intro _; rfl)) (pe_join pe_str (pe_lc (own := [("low", 1), ("high", 2)]) (g := gTup K 2 (gCons (gName 1) (gCons (gName 2) gNil))) (tt := tYes) rfl sc_text_of_parts.nd (pi_tup (pv 0)) (blkOk_by (own := [("low", 1), ("high", 2)]) (N := ["parts", "low", "high"]) (sc := defScope s_text_of_parts) (by decide +kernel)) (fun _ _ _ _ _ => pg_tup (by rfl) (pgs_cons (pg_name (i := 1) sc_text_of_parts.nd rfl (Or.inl rfl)) (pgs_cons (pg_name (i := 2) sc_text_of_parts.nd rfl (Or.inl rfl)) pgs_nil))) (fun _ _ _ _ _ => pts_nil) (fun _ _ _ _ _ => (pe_call G_text_of_part (hr.mono (by decide)) rfl g_text_of_part F_text_of_part.kp B_text_of_part .nil pass0 (pa_cons (pv 1) (pa_cons (pv 2) pa_nil)))))) pe_str))), ?_⟩
    walk_at "rd"
    have hl := tups_len tu
    refine ⟨_, .inr (.inl ⟨vs, SqT.of ht, rfl⟩), ?_⟩
    by_cases hne : ps = []
    · subst hne
      have : vs = [] := List.length_eq_zero_iff.mp hl
      subst this
      refine iteF ?_
      exact q H (Same.refl H)
    · have hv : vs ≠ [] := fun e => hne (List.length_eq_zero_iff.mp (by rw [← hl, e]; rfl))
      rw [show (!vs.isEmpty) = true from by cases vs with | nil => exact absurd rfl hv | cons _ _ => rfl]
      refine iteT ?_
      unfold tM1 tLc
      walk_at "rd"
      refine ⟨⟨_, rfl⟩, ?_⟩
      walk_at "rd"
      refine ⟨t, rfl, ⟨_, SqT.of ht⟩, fun D hD => ?_⟩
      obtain ⟨H1, e1, s1, h1⟩ := new_heap (o := .lst []) hD
      refine lc_tup (K := K) (a := t) (xs := vs) (fun i H' => Same H H' ∧ H' D = some (.lst (((ps.take i).map partT).map V.str))) ⟨by rw [e1]; exact s1, by rw [e1]; exact h1⟩ ?_ ?_ ?_
      · rintro i H' _ ⟨s2, _⟩
        exact SqT.of (s2 _ _ ht)
      · rintro i x H' hx ⟨s2, h2⟩
        obtain ⟨hi, c, rfl, hc⟩ := item_of (tu.up s2) hx
        walk_at "rd"
        refine ⟨rfl, i_yes (iteT ?_)⟩
        walk_at "rd"
        refine ⟨ps[i], rfl, hf _ (List.getElem_mem hi), ?_⟩
        refine ⟨_, h2, size_lt (by rw [List.length_map, List.length_map, List.length_take]; omega), Same.mut s2 hD, ?_⟩
        rw [List.take_succ_eq_append_getElem hi, List.map_append, List.map_append]
        exact upd_same
      · rintro H' ⟨s2, h2⟩
        rw [hl, List.take_length] at h2
        refine ⟨_, D, ps.map partT, rfl, rfl, .inl (SqL.of h2), ?_, ?_⟩
        · have : ∀ l : List Stc, (∀ s, s ∈ l → FewS s) → ((l.map partT).map (·.length)).sum ≤ 28 * l.length := fun l => by
            induction l with
            | nil => exact fun _ => Nat.le_refl _
            | cons x r ih =>
              intro hx
              have a := partT_len (hx x (List.mem_cons_self ..))
              have b := ih fun s hs => hx s (List.mem_cons_of_mem _ hs)
              simp only [List.map_cons, List.sum_cons, List.length_cons] at b ⊢
              omega
          have a := this ps hf
          have b : ("," : Str).length = 1 := rfl
          rw [b, List.length_map]
          omega
        · rw [show Txt.join (Str.ofString ",") (ps.map partT) = partsT ps from by unfold partsT; rw [if_neg hne]]
          exact q H' s2
abbrev s_show_ranges : Stmt := top 2
theorem sc_show_ranges : FnScope ["ranges"] ["ranges"] (defScope s_show_ranges) := ⟨rfl, rfl, rfl, by decide +kernel, rfl, by decide +kernel, by decide +kernel⟩
def sp_show (C : Addr) : Sp := fun vs H Q _ => ∃ r ps, vs = [.ref r] ∧ Rng C H r ps ∧ (∀ s, s ∈ ps → FewS s) ∧ ps.length ≤ 100 ∧ ∀ H', Same H H' → Q (.str (partsT ps)) H'
theorem ok_show {f fE2 : Addr} {fd fdE2 : FuncData} (F : Fun K "show_ranges" "show_ranges" s_show_ranges f fd) (T : ClsT K mg C fI fE) (F_text_of_parts : Fun K "text_of_parts" "text_of_parts" s_text_of_parts fE2 fdE2) (B_text_of_parts : Binds K fdE2 ["parts"] []) (g_text_of_parts : mg "text_of_parts" = some (.ref fE2)) (G_text_of_parts : FnOk P w K mg base CX0 3 fE2 fdE2 ["parts"] sp_tparts) :
    FnOk P w K mg base CX0 4 f fd ["ranges"] (sp_show C) := by
  refine F.ok sc_show_ranges (fun vs H Q E h => ?_) (fun cdv A outer s H vs Q E hr h => ?_)
  · obtain ⟨r, ps, rfl, _⟩ := h
    rfl
  · obtain ⟨r, ps, rfl, ⟨dx, t, ha, pa, ca⟩, hf, hz, q⟩ := h
    refine ⟨_, (pss_one (ps_ret (pe_call G_text_of_parts (hr.mono (by decide)) rfl g_text_of_parts F_text_of_parts.kp B_text_of_parts .nil pass0 (pa_cons (pe_fld (pv 0) rfl) pa_nil)))), ?_⟩
    walk_at "rd"
    refine ⟨_, rfl, r, C, dx, _, _, rfl, ha, T.cl, T.nP, lk_parts, ?_⟩
    exact ⟨t, ps, rfl, pa, hf, hz, q⟩
end
end Spk

set_option Elab.async false
set_option linter.all false
set_option maxRecDepth 100000
set_option maxHeartbeats 1000000
namespace Spk
open PySem L2 TL
local macro_rules | `(tactic| walk_at "rd") => `(tactic| repeat (first
  | with_reducible refine i_seq ?_ | with_reducible refine i_asg ?_ | with_reducible refine i_ret ?_ | with_reducible refine i_ifS ?_ | with_reducible refine i_if ?_
  | with_reducible refine i_for ?_ | with_reducible refine i_iL ?_ | with_reducible refine i_iT ?_ | with_reducible refine i_ckw ?_ | with_reducible refine i_cm ?_ | with_reducible refine And.intro (rfl : V.ref _ = V.ref _) ?_ | with_reducible refine i_rng1 ?_ | with_reducible refine i_bm ?_ | with_reducible refine i_bm0 ?_
  | with_reducible refine i_drop ?_ | with_reducible refine i_next ?_
  | with_reducible refine i_var rfl ?_ | with_reducible refine i_c ?_ | with_reducible refine i_op ?_ | with_reducible refine i_un ?_ | with_reducible refine i_name ?_
  | with_reducible refine i_rI0 ?_ | with_reducible refine i_rU ?_ | with_reducible refine i_rEq rfl ?_ | with_reducible refine i_rNe rfl ?_
  | with_reducible refine i_test ?_ | with_reducible refine i_tB ?_ | with_reducible refine i_and ?_ | with_reducible refine i_or ?_ | with_reducible refine i_not ?_
  | with_reducible refine i_andV ?_ | with_reducible refine i_orV ?_ | with_reducible refine i_notV ?_
  | with_reducible refine i_cons ?_ | with_reducible refine i_nil ?_ | with_reducible refine i_cb ?_ | with_reducible refine i_call ?_ | with_reducible refine i_bl ?_
  | with_reducible refine i_tup ?_ | with_reducible refine i_lst ?_ | with_reducible refine i_par ?_ | with_reducible refine i_gcons ?_ | with_reducible refine i_gnil ?_
  | with_reducible refine And.intro (rfl : V.non = V.non) ?_ | with_reducible refine i_ixT (by assumption) rfl ?_ | with_reducible refine i_ixL (by assumption) rfl ?_ | with_reducible refine i_gtup (by assumption) rfl ?_
  | with_reducible refine i_gsub ?_
  | with_reducible refine Or.inl (Exists.intro _ (And.intro (rfl : [V.int _] = [V.int _]) ?_)) | with_reducible refine Exists.intro _ (And.intro (rfl : [V.int _] = [V.int _]) ?_)
  | with_reducible refine Or.inr (Exists.intro _ (And.intro (rfl : [V.bl _] = [V.bl _]) ?_))
  | with_reducible refine Exists.intro _ (Exists.intro _ (And.intro (rfl : [V.int _, V.int _] = [V.int _, V.int _]) ?_))
  | with_reducible refine Exists.intro _ (Exists.intro _ (And.intro (rfl : [V.ref _] = [V.ref _]) (And.intro (Or.inl (SqL.of (by assumption))) ?_)))
  | with_reducible refine i_rI (show (0 : Int) < _ by assumption) ?_ | with_reducible refine i_rI (show (0 : Int) < _ by decide) ?_
  | with_reducible refine i_rI (pow_ok (Nat.le_of_ble_eq_true rfl) (Nat.le_of_ble_eq_true rfl)) ?_
  | with_reducible refine i_rI (cmulL rfl) ?_))
theorem i_chain {r r' : R2} {ta tb tc : TE} {σ : L2.St} {H : Hp} {Q : VK} (h : ta σ H fun x H1 => tb σ H1 fun y H2 => r x y H2 fun z H3 => ∃ k, z = V.bl k ∧ if k = true then tc σ H3 fun w' H4 => r' y w' H4 Q else Q (V.bl false) H3) : tChain r r' ta tb tc σ H Q := h
theorem i_iS {te : TE} {σ : L2.St} {H : Hp} {R : It → Hp → Prop} (h : te σ H fun v H1 => ∃ x, v = V.str x ∧ R (Its x) H1) : iStr te σ H R := h
theorem i_m1 {r : V → List V → Hp → VK → Prop} {to te : TE} {σ : L2.St} {H : Hp} {Q : VK} (h : to σ H fun x H1 => (∃ a, x = .str a) ∧ te σ H1 fun y H2 => r x [y] H2 Q) : tM1 r to te σ H Q := h
abbrev yes (n : Nat) : List V := (List.replicate n true).map V.bl
theorem yes_snoc (n : Nat) : yes n ++ [V.bl true] = yes (n + 1) := by
  unfold yes
  rw [List.replicate_succ', List.map_append]
  rfl
theorem yes_all (n : Nat) : (List.replicate n true).all id = true := by simp
section
variable {P : Program} {w : World} {K : PySem.W.Frag} {mg : Str → Option Value} {base : Heap} {C fI fE : Addr}
theorem cr_all_at {H : Hp} {a : Addr} {n : Nat} {Q : VK} (h : H a = some (.lst (yes n))) (q : Q (.bl true) H) : rAll K [.ref a] H Q :=
  ⟨a, List.replicate n true, rfl, SqL.of h, by rw [yes_all]; exact q⟩
/-! ### a number in a text -/
abbrev s_number_in : Stmt := top 37
theorem sc_number_in : FnScope ["word", "digits", "figures", "figure"] ["word", "digits"] (defScope s_number_in) := ⟨rfl, rfl, rfl, by decide +kernel, rfl, by decide +kernel, by decide +kernel⟩
def sp_num : Sp := fun vs H Q _ => ∃ o, vs = [.str (endT o), .int 12] ∧ Few12 o ∧ ∀ H', Same H H' → Q (ov o) H'
theorem ok_num {f : Addr} {fd : FuncData} (F : Fun K "number_in" "number_in" s_number_in f fd) (z_len : mg "len" = none) (z_all : mg "all" = none) (z_int : mg "int" = none) : FnOk P w K mg base CX0 1 f fd ["word", "digits"] sp_num := by
  refine F.ok sc_number_in (fun vs H Q E h => ?_) (fun cdv A outer s H vs Q E hr h => ?_)
  · obtain ⟨o, rfl, _⟩ := h
    rfl
  · obtain ⟨o, rfl, hf, q⟩ := h
    refine ⟨_, (pss_cons (ps_set (i := 2) sc_number_in.nd rfl (Or.inl rfl) (pe_ifExp (pt_val (pe_m1 PySem.F.slot_str_startswith PySem.F.type_str_startswith mt_startswith (pv 0) pe_str)) (pe_slice sl_str (pv 0) (po_some pe_int) po_none) (pv 0)))
 (pss_cons (ps_if (pt_not (PW.pt (pw_and (pt_chain op_le op_le pe_int (pe_callB call_len_str (by rfl) z_len PySem.boot_len (pa_cons (pv 2) pa_nil)) (pv 1)) (pw_and1 (pt_truth (pe_callB (cr_all rfl) (by rfl) z_all (by decide +kernel) (pa_cons (pe_lc (own := [("figure", 3)]) (g := gName 3) (tt := tYes) rfl sc_number_in.nd (pi_str (pv 2)) (blkOk_by (own := [("figure", 3)]) (N := ["word", "digits", "figures", "figure"]) (sc := defScope s_number_in) (by decide +kernel)) (fun _ _ _ _ _ => pg_name (i := 3) sc_number_in.nd rfl (Or.inl rfl)) (fun _ _ _ _ _ => pts_nil) (fun _ _ _ _ _ => (pe_cmpR op_in_sign (pv 3) pe_str (by rfl)))) pa_nil)) (by intro _; rfl))))))
 (pss_one (ps_ret pe_non))
 pss_nil)
 (pss_one (ps_ret (pe_ifExp (PW.pt (pw_and (pt_cmpR op_eq (pe_ix ix_str (pv 2) pe_int (fun _ _ => rfl)) pe_str (nomark _)) (pw_and1 (pt_cmpR op_ne (pv 0) pe_str (nomark _))))) pe_non (pe_callTy call_int_str (by rfl) z_int (by decide +kernel) (pa_cons (pv 0) pa_nil))))))), ?_⟩
    walk_at "rd"
    refine i_m1 ?_
    walk_at "rd"
    refine ⟨⟨_, rfl⟩, ?_⟩
    walk_at "rd"
    refine ⟨_, _, rfl, rfl, _, rfl, ?_⟩
    cases o with
    | none =>
      rw [show Txt.startswith (endT none) (Str.ofString "-") = false from by rw [starts_minus]; rfl]
      refine iteF ?_
      walk_at "rd"
      refine i_chain ?_
      walk_at "rd"
      refine ⟨_, rfl, size_of (Nat.zero_le _), ?_⟩
      walk_at "rd"
      rw [decide_eq_false (show ¬ (1 : Int) ≤ ((endT none).length : Int) from by decide)]
      refine iteF ⟨false, rfl, iteF (iteT ?_)⟩
      exact q H (Same.refl H)
    | some n =>
      have hn : n.natAbs < 10 ^ 12 := hf n rfl
      have key : ∀ X : Str, X = figT n → 1 ≤ X.length ∧ X.length ≤ 12 ∧ (∀ c, c ∈ X.cps.toList → c ∈ ("0123456789" : Str).cps.toList) ∧ ∃ c r, X.cps.toList = c :: r ∧ (n = 0 → numT n = "0") ∧ (n ≠ 0 → c ≠ 48) := by
        rintro X rfl
        have a := figT_len (by decide) hn
        exact ⟨a.1, a.2, fun c h => in_figures h, fig_first n⟩
      show if Txt.startswith (numT n) "-" = true then _ else _
      rw [starts_neg]
      refine ite_d (fun h => ?_) (fun h => ?_)
      · have hX := cut_neg h
        refine i_sl ?_
        walk_at "rd"
        refine i_part ?_
        walk_at "rd"
        refine ⟨_, rfl, ?_⟩
        refine i_noPart ?_
        refine ⟨_, rfl, size_of (Nat.le_trans (numT_len (by decide) hn) (by decide)), ?_⟩
        obtain ⟨k1, k2, k3, c, r, k4, k5, k6⟩ := key (cutS (endT (some n)) (some 1) none) hX
        have hsz : (cutS (endT (some n)) (some 1) none).cps.toList.length = (cutS (endT (some n)) (some 1) none).length := Array.length_toList
        walk_at "rd"
        refine i_chain ?_
        walk_at "rd"
        refine ⟨_, rfl, size_of (Nat.le_trans k2 (by decide)), ?_⟩
        walk_at "rd"
        rw [decide_eq_true (show (1 : Int) ≤ (((cutS (endT (some n)) (some 1) none).length : Nat) : Int) from by omega)]
        refine iteT ?_
        walk_at "rd"
        rw [decide_eq_true (show (((cutS (endT (some n)) (some 1) none).length : Nat) : Int) ≤ 12 from by omega)]
        walk_at "rd"
        refine iteT ?_
        walk_at "rd"
        unfold tLc
        refine i_iS ?_
        walk_at "rd"
        refine ⟨cutS (endT (some n)) (some 1) none, rfl, fun D hD => ?_⟩
        obtain ⟨H1, e1, s1, hd⟩ := new_heap (o := .lst []) hD
        refine lc_it walk_str (fun i H' => Same H H' ∧ H' D = some (.lst (yes i))) ⟨by rw [e1]; exact s1, by rw [e1]; exact hd⟩ (fun _ _ _ _ => trivial) ?_ ?_
        · rintro i x H2 H' hi ⟨s2, h2⟩ ⟨rfl, c', hc', rfl⟩
          have hm : c' ∈ (cutS (endT (some n)) (some 1) none).cps.toList := by
            rw [← Array.getElem?_toList] at hc'
            exact List.mem_of_getElem? hc'
          walk_at "rd"
          refine ⟨rfl, i_yes (iteT ?_)⟩
          walk_at "rd"
          refine ⟨c', _, rfl, rfl, ?_⟩
          rw [decide_eq_true (k3 c' hm)]
          have hi' : i < (cutS (endT (some n)) (some 1) none).length := hi
          refine ⟨_, h2, size_lt (by rw [List.length_map, List.length_replicate]; omega), Same.mut s2 hD, ?_⟩
          rw [yes_snoc]
          exact upd_same
        · rintro H' ⟨s2, h2⟩
          walk_at "rd"
          refine cr_all_at h2 ⟨true, rfl, iteF ?_⟩
          walk_at "rd"
          refine ⟨_, 0, c, rfl, rfl, size_of (Nat.le_trans k2 (by decide)), by rw [k4]; exact atI_nat (j := 0) (xs := c :: r) rfl, ?_⟩
          have fin : ∀ {R : VK}, R (.int n) H' → ∃ a m, [V.str (endT (some n))] = [V.str a] ∧ PySem.intText? a = some m ∧ a.length ≤ 640 ∧ R (.int m) H' := fun z => ⟨_, n, rfl, int_numT (by omega), Nat.le_trans (numT_len (by decide) hn) (by decide), z⟩
          walk_at "rd"
          refine ite_d (fun e => ?_) (fun e => ?_)
          · have e0 : n = 0 := by
              by_cases z : n = 0
              · exact z
              · refine absurd ?_ (k6 z)
                have e' : (Str.mk #[c]) = Str.ofString "0" := V.str.inj e
                have e2 := congrArg (fun x : Str => x.cps.toList) e'
                exact (List.cons.inj e2).1
            walk_at "rd"
            rw [show (decide (V.str (endT (some n)) = V.str (Str.ofString "0"))) = true from decide_eq_true (congrArg V.str (k5 e0))]
            refine iteF ?_
            walk_at "rd"
            first | exact fin (q H' s2) | (refine iteF ?_; walk_at "rd"; exact fin (q H' s2))
          · refine iteF ?_
            walk_at "rd"
            exact fin (q H' s2)
      · have hX := fig_pos h
        obtain ⟨k1, k2, k3, c, r, k4, k5, k6⟩ := key (endT (some n)) hX
        have hsz : (endT (some n)).cps.toList.length = (endT (some n)).length := Array.length_toList
        walk_at "rd"
        refine i_chain ?_
        walk_at "rd"
        refine ⟨_, rfl, size_of (Nat.le_trans k2 (by decide)), ?_⟩
        walk_at "rd"
        rw [decide_eq_true (show (1 : Int) ≤ (((endT (some n)).length : Nat) : Int) from by omega)]
        refine iteT ?_
        walk_at "rd"
        rw [decide_eq_true (show (((endT (some n)).length : Nat) : Int) ≤ 12 from by omega)]
        walk_at "rd"
        refine iteT ?_
        walk_at "rd"
        unfold tLc
        refine i_iS ?_
        walk_at "rd"
        refine ⟨endT (some n), rfl, fun D hD => ?_⟩
        obtain ⟨H1, e1, s1, hd⟩ := new_heap (o := .lst []) hD
        refine lc_it walk_str (fun i H' => Same H H' ∧ H' D = some (.lst (yes i))) ⟨by rw [e1]; exact s1, by rw [e1]; exact hd⟩ (fun _ _ _ _ => trivial) ?_ ?_
        · rintro i x H2 H' hi ⟨s2, h2⟩ ⟨rfl, c', hc', rfl⟩
          have hm : c' ∈ (endT (some n)).cps.toList := by
            rw [← Array.getElem?_toList] at hc'
            exact List.mem_of_getElem? hc'
          walk_at "rd"
          refine ⟨rfl, i_yes (iteT ?_)⟩
          walk_at "rd"
          refine ⟨c', _, rfl, rfl, ?_⟩
          rw [decide_eq_true (k3 c' hm)]
          have hi' : i < (endT (some n)).length := hi
          refine ⟨_, h2, size_lt (by rw [List.length_map, List.length_replicate]; omega), Same.mut s2 hD, ?_⟩
          rw [yes_snoc]
          exact upd_same
        · rintro H' ⟨s2, h2⟩
          walk_at "rd"
          refine cr_all_at h2 ⟨true, rfl, iteF ?_⟩
          walk_at "rd"
          refine ⟨_, 0, c, rfl, rfl, size_of (Nat.le_trans k2 (by decide)), by rw [k4]; exact atI_nat (j := 0) (xs := c :: r) rfl, ?_⟩
          have fin : ∀ {R : VK}, R (.int n) H' → ∃ a m, [V.str (endT (some n))] = [V.str a] ∧ PySem.intText? a = some m ∧ a.length ≤ 640 ∧ R (.int m) H' := fun z => ⟨_, n, rfl, int_numT (by omega), Nat.le_trans (numT_len (by decide) hn) (by decide), z⟩
          walk_at "rd"
          refine ite_d (fun e => ?_) (fun e => ?_)
          · have e0 : n = 0 := by
              by_cases z : n = 0
              · exact z
              · refine absurd ?_ (k6 z)
                have e' : (Str.mk #[c]) = Str.ofString "0" := V.str.inj e
                have e2 := congrArg (fun x : Str => x.cps.toList) e'
                exact (List.cons.inj e2).1
            walk_at "rd"
            rw [show (decide (V.str (endT (some n)) = V.str (Str.ofString "0"))) = true from decide_eq_true (congrArg V.str (k5 e0))]
            refine iteF ?_
            walk_at "rd"
            first | exact fin (q H' s2) | (refine iteF ?_; walk_at "rd"; exact fin (q H' s2))
          · refine iteF ?_
            walk_at "rd"
            exact fin (q H' s2)
end
end Spk

set_option Elab.async false
set_option linter.all false
set_option maxRecDepth 100000
set_option maxHeartbeats 1000000
namespace Spk
open PySem L2 TL
local macro_rules | `(tactic| walk_at "rd") => `(tactic| repeat (first
  | with_reducible refine i_seq ?_ | with_reducible refine i_asg ?_ | with_reducible refine i_ret ?_ | with_reducible refine i_ifS ?_ | with_reducible refine i_if ?_
  | with_reducible refine i_for ?_ | with_reducible refine i_iL ?_ | with_reducible refine i_iT ?_ | with_reducible refine i_ckw ?_ | with_reducible refine i_cm ?_ | with_reducible refine And.intro (rfl : V.ref _ = V.ref _) ?_ | with_reducible refine i_rng1 ?_ | with_reducible refine i_bm ?_ | with_reducible refine i_bm0 ?_
  | with_reducible refine i_drop ?_ | with_reducible refine i_next ?_
  | with_reducible refine i_var rfl ?_ | with_reducible refine i_c ?_ | with_reducible refine i_op ?_ | with_reducible refine i_un ?_ | with_reducible refine i_name ?_
  | with_reducible refine i_rI0 ?_ | with_reducible refine i_rU ?_ | with_reducible refine i_rEq rfl ?_ | with_reducible refine i_rNe rfl ?_
  | with_reducible refine i_test ?_ | with_reducible refine i_tB ?_ | with_reducible refine i_and ?_ | with_reducible refine i_or ?_ | with_reducible refine i_not ?_
  | with_reducible refine i_andV ?_ | with_reducible refine i_orV ?_ | with_reducible refine i_notV ?_
  | with_reducible refine i_cons ?_ | with_reducible refine i_nil ?_ | with_reducible refine i_cb ?_ | with_reducible refine i_call ?_ | with_reducible refine i_bl ?_
  | with_reducible refine i_tup ?_ | with_reducible refine i_lst ?_ | with_reducible refine i_par ?_ | with_reducible refine i_gcons ?_ | with_reducible refine i_gnil ?_
  | with_reducible refine And.intro (rfl : V.non = V.non) ?_ | with_reducible refine i_ixT (by assumption) rfl ?_ | with_reducible refine i_ixL (by assumption) rfl ?_ | with_reducible refine i_gtup (by assumption) rfl ?_
  | with_reducible refine i_gsub ?_
  | with_reducible refine Or.inl (Exists.intro _ (And.intro (rfl : [V.int _] = [V.int _]) ?_)) | with_reducible refine Exists.intro _ (And.intro (rfl : [V.int _] = [V.int _]) ?_)
  | with_reducible refine Or.inr (Exists.intro _ (And.intro (rfl : [V.bl _] = [V.bl _]) ?_))
  | with_reducible refine Exists.intro _ (Exists.intro _ (And.intro (rfl : [V.int _, V.int _] = [V.int _, V.int _]) ?_))
  | with_reducible refine Exists.intro _ (Exists.intro _ (And.intro (rfl : [V.ref _] = [V.ref _]) (And.intro (Or.inl (SqL.of (by assumption))) ?_)))
  | with_reducible refine i_rI (show (0 : Int) < _ by assumption) ?_ | with_reducible refine i_rI (show (0 : Int) < _ by decide) ?_
  | with_reducible refine i_rI (pow_ok (Nat.le_of_ble_eq_true rfl) (Nat.le_of_ble_eq_true rfl)) ?_
  | with_reducible refine i_rI (cmulL rfl) ?_))
section
variable {P : Program} {w : World} {K : PySem.W.Frag} {mg : Str → Option Value} {base : Heap} {C fI fE : Addr}
theorem endT_ne {n : Int} : endT (some n) ≠ Str.empty := fun e => by
  have h := congrArg tl e
  rw [show endT (some n) = numT n from rfl] at h
  by_cases z : n < 0
  · rw [numT_neg z] at h
    cases h
  · rw [numT_pos z] at h
    exact numL_ne _ h
theorem str_ne {o : Option Int} (h : V.str (endT o) ≠ V.str (Str.ofString "")) : ∃ n, o = some n := by
  cases o with
  | none => exact absurd rfl h
  | some n => exact ⟨n, rfl⟩
/-! ### a stretch in a text -/
abbrev s_stretch_in : Stmt := top 39
theorem sc_stretch_in : FnScope ["part", "number", "first", "_", "last", "low", "high"] ["part"] (defScope s_stretch_in) := ⟨rfl, rfl, rfl, by decide +kernel, rfl, by decide +kernel, by decide +kernel⟩
def sp_stretch : Sp := fun vs H Q _ => ∃ s : Stc, vs = [.str (partT s)] ∧ FewS s ∧ NE s ∧ ∀ p H', Same H H' → H' p = some (.tup [ov s.1, ov s.2]) → Q (.ref p) H'
theorem ok_stretch {f fN : Addr} {fd fdN : FuncData} {tD : Tok} (F : Fun K "stretch_in" "stretch_in" s_stretch_in f fd) (F_number_in : Fun K "number_in" "number_in" s_number_in fN fdN) (B_number_in : Binds K fdN ["word", "digits"] []) (g_number_in : mg "number_in" = some (.ref fN)) (G_number_in : FnOk P w K mg base CX0 1 fN fdN ["word", "digits"] sp_num)
    (g_DIGITS_OF_BOUNDS : mg "DIGITS_OF_BOUNDS" = some (.int 12 tD)) : FnOk P w K mg base CX0 2 f fd ["part"] sp_stretch := by
  refine F.ok sc_stretch_in (fun vs H Q E h => ?_) (fun cdv A outer s H vs Q E hr h => ?_)
  · obtain ⟨s, rfl, _⟩ := h
    rfl
  · obtain ⟨⟨lo, hi⟩, rfl, ⟨f1, f2⟩, ne, q⟩ := h
    refine ⟨_, (pss_cons (ps_if (pt_cmpR op_notIn_str pe_str (pv 0) (by rfl))
 (pss_cons (ps_set (i := 1) sc_stretch_in.nd rfl (Or.inl rfl) (pe_call G_number_in (hr.mono (by decide)) rfl g_number_in F_number_in.kp B_number_in .nil pass0 (pa_cons (pv 0) (pa_cons (pe_glob (v := .int 12) rfl g_DIGITS_OF_BOUNDS ⟨_, rfl⟩) pa_nil))))
 (pss_one (ps_ret (pe_ifExp (pt_cmpR op_isN (pv 1) pe_non (nomark _)) pe_non (pe_tup (pa_cons (pv 1) (pa_cons (pv 1) pa_nil)))))))
 pss_nil)
 (pss_cons (ps_asg (pe_partition (pv 0) pe_str) (pg_tup (by rfl) (pgs_cons (pg_name (i := 2) sc_stretch_in.nd rfl (Or.inl rfl)) (pgs_cons (pg_name (i := 3) sc_stretch_in.nd rfl (Or.inl rfl)) (pgs_cons (pg_name (i := 4) sc_stretch_in.nd rfl (Or.inl rfl)) pgs_nil)))))
 (pss_cons (ps_set (i := 5) sc_stretch_in.nd rfl (Or.inl rfl) (pe_call G_number_in (hr.mono (by decide)) rfl g_number_in F_number_in.kp B_number_in .nil pass0 (pa_cons (pv 2) (pa_cons (pe_glob (v := .int 12) rfl g_DIGITS_OF_BOUNDS ⟨_, rfl⟩) pa_nil))))
 (pss_cons (ps_set (i := 6) sc_stretch_in.nd rfl (Or.inl rfl) (pe_call G_number_in (hr.mono (by decide)) rfl g_number_in F_number_in.kp B_number_in .nil pass0 (pa_cons (pv 4) (pa_cons (pe_glob (v := .int 12) rfl g_DIGITS_OF_BOUNDS ⟨_, rfl⟩) pa_nil))))
 (pss_cons (ps_if (PW.pt (pw_or (PW.pt (pw_and (pt_cmpR op_ne (pv 2) pe_str (nomark _)) (pw_and1 (pt_cmpR op_isN (pv 5) pe_non (nomark _))))) (pw_or1 (PW.pt (pw_and (pt_cmpR op_ne (pv 4) pe_str (nomark _)) (pw_and1 (pt_cmpR op_isN (pv 6) pe_non (nomark _))))))))
 (pss_one (ps_ret pe_non))
 pss_nil)
 (pss_one (ps_ret (pe_ifExp (PW.pt (pw_and (pt_cmpR op_notN (pv 5) pe_non (nomark _)) (pw_and (pt_cmpR op_notN (pv 6) pe_non (nomark _)) (pw_and1 (pt_cmpR op_gt (pv 5) (pv 6) (nomark _)))))) pe_non (pe_tup (pa_cons (pv 5) (pa_cons (pv 6) pa_nil))))))))))), ?_⟩
    dsimp only at f1 f2 q
    walk_at "rd"
    refine ⟨_, _, rfl, rfl, ?_⟩
    by_cases hp : lo ≠ none ∧ lo = hi
    · obtain ⟨h0, rfl⟩ := hp
      obtain ⟨n, rfl⟩ : ∃ n, lo = some n := by
        cases lo with
        | none => exact absurd rfl h0
        | some n => exact ⟨n, rfl⟩
      have e : partT (some n, some n) = numT n := by
        unfold partT
        rw [if_pos ⟨by simp, rfl⟩]
        rfl
      rw [e]
      refine ⟨true, congrArg V.bl (show (!(!(Builtin.Str.occurrences (numT n) dots 0 (numT n).length 1).isEmpty)) = true from by rw [occ_none part_num dots_ne]; rfl), iteT ?_⟩
      walk_at "rd"
      refine ⟨some n, rfl, f1, fun H1 s1 => ?_⟩
      walk_at "rd"
      refine iteF ?_
      walk_at "rd"
      refine ⟨size_of (Nat.le_of_ble_eq_true rfl), fun p hp => ?_⟩
      obtain ⟨H2, e2, s2, h2⟩ := new_heap (o := .tup [.int n, .int n]) hp
      rw [e2]
      exact q p H2 (fun b o z => s2 _ _ (s1 _ _ z)) h2
    · have e : partT (lo, hi) = endT lo ++ dots ++ endT hi := by
        unfold partT
        rw [if_neg hp]
      have ep := part_ends (lo := lo) (hi := hi)
      rw [e]
      refine ⟨false, congrArg V.bl (show (!(!(Builtin.Str.occurrences (endT lo ++ dots ++ endT hi) dots 0 (endT lo ++ dots ++ endT hi).length 1).isEmpty)) = false from by rw [occ_some ep dots_ne]; rfl), iteF ?_⟩
      walk_at "rd"
      refine i_m1 ?_
      walk_at "rd"
      refine ⟨⟨_, rfl⟩, ?_⟩
      walk_at "rd"
      have lz : (endT lo ++ dots ++ endT hi).length ≤ 28 := by
        have := partT_len (s := (lo, hi)) ⟨f1, f2⟩
        rw [e] at this
        exact this
      refine ⟨_, _, rfl, rfl, rfl, size_of (Nat.le_trans lz (by decide)), fun p hp2 => ?_⟩
      rw [ep]
      obtain ⟨H1, e1, s1, h1⟩ := new_heap (o := .tup [.str (endT lo), .str dots, .str (endT hi)]) hp2
      show _
      rw [e1]
      walk_at "rd"
      refine ⟨lo, rfl, f1, fun H2 s2 => ?_⟩
      walk_at "rd"
      refine ⟨hi, rfl, f2, fun H3 s3 => ?_⟩
      walk_at "rd"
      have fin : ∀ {G : Hp}, Same H3 G → ([ov lo, ov hi] : List V).length ≤ sizeLine ∧ ∀ a, G a = none → Q (V.ref a) (upd G a (.tup [ov lo, ov hi])) := fun sG => ⟨size_of (Nat.le_of_ble_eq_true rfl), fun a ha => by
        obtain ⟨G2, e2, sg, hg⟩ := new_heap (o := .tup [ov lo, ov hi]) ha
        rw [e2]
        exact q a G2 (fun b o z => sg _ _ (sG _ _ (s3 _ _ (s2 _ _ (s1 _ _ z))))) hg⟩
      have n0 : ∀ n, (decide (V.str (endT (some n)) = V.str (Str.ofString ""))) = false := fun n => decide_eq_false fun z => endT_ne (V.str.inj z)
      have n1 : (decide (V.str (endT none) = V.str (Str.ofString ""))) = true := decide_eq_true rfl
      cases lo with
      | none =>
        rw [n1]
        refine iteF ?_
        refine iteF ?_
        walk_at "rd"
        cases hi with
        | none =>
          rw [n1]
          refine iteF ?_
          refine iteF ?_
          walk_at "rd"
          refine iteF ?_
          refine iteF ?_
          walk_at "rd"
          exact fin (Same.refl _)
        | some m =>
          rw [n0]
          refine iteT ?_
          walk_at "rd"
          refine iteF ?_
          walk_at "rd"
          refine iteF ?_
          refine iteF ?_
          walk_at "rd"
          exact fin (Same.refl _)
      | some n =>
        rw [n0]
        refine iteT ?_
        walk_at "rd"
        refine iteF ?_
        walk_at "rd"
        cases hi with
        | none =>
          rw [n1]
          refine iteF ?_
          refine iteF ?_
          walk_at "rd"
          refine iteT ?_
          walk_at "rd"
          refine iteF ?_
          refine iteF ?_
          walk_at "rd"
          exact fin (Same.refl _)
        | some m =>
          rw [n0]
          refine iteT ?_
          walk_at "rd"
          refine iteF ?_
          walk_at "rd"
          refine iteT ?_
          walk_at "rd"
          refine iteT ?_
          walk_at "rd"
          rw [decide_eq_false (show ¬ m < n from by have := ne n m rfl rfl; omega)]
          refine iteF ?_
          walk_at "rd"
          exact fin (Same.refl _)
end
end Spk

set_option Elab.async false
set_option linter.all false
set_option maxRecDepth 100000
set_option maxHeartbeats 1000000
namespace Spk
open PySem L2 TL
local macro_rules | `(tactic| walk_at "rd") => `(tactic| repeat (first
  | with_reducible refine i_seq ?_ | with_reducible refine i_asg ?_ | with_reducible refine i_ret ?_ | with_reducible refine i_ifS ?_ | with_reducible refine i_if ?_
  | with_reducible refine i_for ?_ | with_reducible refine i_iL ?_ | with_reducible refine i_iT ?_ | with_reducible refine i_ckw ?_ | with_reducible refine i_cm ?_ | with_reducible refine And.intro (rfl : V.ref _ = V.ref _) ?_ | with_reducible refine i_rng1 ?_ | with_reducible refine i_bm ?_ | with_reducible refine i_bm0 ?_
  | with_reducible refine i_drop ?_ | with_reducible refine i_next ?_
  | with_reducible refine i_var rfl ?_ | with_reducible refine i_c ?_ | with_reducible refine i_op ?_ | with_reducible refine i_un ?_ | with_reducible refine i_name ?_
  | with_reducible refine i_rI0 ?_ | with_reducible refine i_rU ?_ | with_reducible refine i_rEq rfl ?_ | with_reducible refine i_rNe rfl ?_
  | with_reducible refine i_test ?_ | with_reducible refine i_tB ?_ | with_reducible refine i_and ?_ | with_reducible refine i_or ?_ | with_reducible refine i_not ?_
  | with_reducible refine i_andV ?_ | with_reducible refine i_orV ?_ | with_reducible refine i_notV ?_
  | with_reducible refine i_cons ?_ | with_reducible refine i_nil ?_ | with_reducible refine i_cb ?_ | with_reducible refine i_call ?_ | with_reducible refine i_bl ?_
  | with_reducible refine i_tup ?_ | with_reducible refine i_lst ?_ | with_reducible refine i_par ?_ | with_reducible refine i_gcons ?_ | with_reducible refine i_gnil ?_
  | with_reducible refine And.intro (rfl : V.non = V.non) ?_ | with_reducible refine i_ixT (by assumption) rfl ?_ | with_reducible refine i_ixL (by assumption) rfl ?_ | with_reducible refine i_gtup (by assumption) rfl ?_
  | with_reducible refine i_gsub ?_
  | with_reducible refine Or.inl (Exists.intro _ (And.intro (rfl : [V.int _] = [V.int _]) ?_)) | with_reducible refine Exists.intro _ (And.intro (rfl : [V.int _] = [V.int _]) ?_)
  | with_reducible refine Or.inr (Exists.intro _ (And.intro (rfl : [V.bl _] = [V.bl _]) ?_))
  | with_reducible refine Exists.intro _ (Exists.intro _ (And.intro (rfl : [V.int _, V.int _] = [V.int _, V.int _]) ?_))
  | with_reducible refine Exists.intro _ (Exists.intro _ (And.intro (rfl : [V.ref _] = [V.ref _]) (And.intro (Or.inl (SqL.of (by assumption))) ?_)))
  | with_reducible refine i_rI (show (0 : Int) < _ by assumption) ?_ | with_reducible refine i_rI (show (0 : Int) < _ by decide) ?_
  | with_reducible refine i_rI (pow_ok (Nat.le_of_ble_eq_true rfl) (Nat.le_of_ble_eq_true rfl)) ?_
  | with_reducible refine i_rI (cmulL rfl) ?_))
section
variable {P : Program} {w : World} {K : PySem.W.Frag} {mg : Str → Option Value} {base : Heap}
theorem TupS.keep {H H' : Hp} {v : V} {s : Stc} (e : Keep H H') (h : TupS H v s) : TupS H' v s := by
  obtain ⟨a, rfl, h⟩ := h
  exact ⟨a, rfl, e _ _ rfl h⟩
theorem Tups.keep {H H' : Hp} {vs : List V} {ss : List Stc} (e : Keep H H') (h : Tups H vs ss) : Tups H' vs ss := Paired.mapP h fun _ _ z => z.keep e
theorem PartsT.keep {H H' : Hp} {t : Addr} {ps : List Stc} (e : Keep H H') (h : PartsT H t ps) : PartsT H' t ps := by
  obtain ⟨vs, h, z⟩ := h
  exact ⟨vs, e _ _ rfl h, z.keep e⟩
theorem Rng.keep {C : Addr} {H H' : Hp} {r : Addr} {ps : List Stc} (e : Keep H H') (h : Rng C H r ps) : Rng C H' r ps := by
  obtain ⟨dx, t, a, b, c⟩ := h
  exact ⟨dx, t, e _ _ rfl a, b.keep e, c⟩
theorem penny_tups {H : Hp} {vs : List V} {ss : List Stc} (h : Tups H vs ss) : penny (.lst vs) = false := rfl
/-- a list of stretches -/
def StrL (H : Hp) (l : Addr) (ss : List Stc) : Prop := ∃ vs, H l = some (.lst vs) ∧ Tups H vs ss
theorem StrL.up {H H' : Hp} {l : Addr} {ss : List Stc} (e : Same H H') (h : StrL H l ss) : StrL H' l ss := by
  obtain ⟨vs, h, z⟩ := h
  exact ⟨vs, e _ _ h, z.up e⟩
theorem StrL.keep {H H' : Hp} {l : Addr} {ss : List Stc} (e : Keep H H') (h : StrL H l ss) : StrL H' l ss := by
  obtain ⟨vs, h, z⟩ := h
  exact ⟨vs, e _ _ (penny_tups z) h, z.keep e⟩
theorem dp_strL {H : Hp} {l : Addr} {ss : List Stc} (h : StrL H l ss) : Dp K H (.ref l) (.list (ss.map stD)) := by
  obtain ⟨vs, h, tu⟩ := h
  exact .lst (SqL.of h) (dps_tups tu)
theorem shaped_strL (ss : List Stc) : SeqAt.shaped (.list (ss.map stD)) = true := by
  have h1 := lay_ps ss
  have h2 := dep_ps ss
  have h3 : (PyData.list (ss.map stD)).depth ≤ 3 := by
    simp only [PyData.depth]
    omega
  unfold SeqAt.shaped
  rw [Bool.and_eq_true, decide_eq_true_eq]
  exact ⟨by simpa only [PyData.canLay0] using h1, by omega⟩
theorem eqv_strL (ss ts : List Stc) : PyData.eqv (.list (ss.map stD)) (.list (ts.map stD)) = decide (ss = ts) := eqvAll_ps ss ts
end
/-- what the text says of the class's methods as they are called from outside -/
structure ClsM (K : PySem.W.Frag) (C : Addr) (mc : Value) (pe pb ge gb fO : Addr) : Prop where
  rd : ClX.CRead K C mc
  empty : ClX.CMet K C mc "empty" pe ge
  between : ClX.CMet K C mc "between" pb gb
  self : PySem.W.selfFirst K C = true
  orF : PySem.W.findIn K (.ref C) "__or__" = some (some (.ref fO))
  orI : PySem.W.isFn K (.ref fO) = true
structure ClsK (K : PySem.W.Frag) (C fN : Addr) : Prop where
  inF : PySem.W.findIn K (.ref C) "__contains__" = some (some (.ref fN))
  inI : PySem.W.isFn K (.ref fN) = true
theorem parts_len {p : Stc} : ∀ {r : List Stc}, (Txt.join comma ((p :: r).map partT)).length ≤ 29 * (p :: r).length → True := fun _ => trivial
theorem joinL_len (S : List Nat) (B : Nat) : ∀ l : List (List Nat), (∀ p, p ∈ l → p.length ≤ B) → (joinL S l).length ≤ (B + S.length) * l.length
  | [], _ => Nat.zero_le _
  | [p], h => by
    have := h p (List.mem_singleton.mpr rfl)
    show p.length ≤ (B + S.length) * 1
    omega
  | p :: q :: r, h => by
    have a := h p (List.mem_cons_self ..)
    have b := joinL_len S B (q :: r) fun x hx => h x (List.mem_cons_of_mem _ hx)
    show (p ++ (S ++ joinL S (q :: r))).length ≤ _
    rw [List.length_append, List.length_append, List.length_cons (as := q :: r), Nat.mul_succ]
    omega
theorem partsT_len {ps : List Stc} (hf : ∀ s, s ∈ ps → FewS s) : (partsT ps).length ≤ 29 * ps.length + 1 := by
  unfold partsT
  split
  · exact Nat.le_add_left ..
  · rw [join_eq, len_tl, tl_join]
    have := joinL_len (tl comma) 28 ((ps.map partT).map tl) (fun p hp => by
      obtain ⟨z, hz, rfl⟩ := List.mem_map.mp hp
      obtain ⟨s, hs, rfl⟩ := List.mem_map.mp hz
      rw [← len_tl]
      exact partT_len (hf s hs))
    rw [List.length_map, List.length_map] at this
    have e : (tl comma).length = 1 := rfl
    rw [e] at this
    omega
theorem part_dash {s : Stc} : partT s ≠ Str.ofString "-" := fun e => by
  unfold partT at e
  split at e
  · cases h : s.1 with
    | none =>
      rw [h] at e
      have := congrArg tl e
      cases this
    | some n =>
      rw [h] at e
      have h2 : tl (numT n) = [45] := congrArg tl e
      by_cases z : n < 0
      · rw [numT_neg z] at h2
        exact numL_ne _ (List.cons.inj h2).2
      · rw [numT_pos z] at h2
        have := numL_digits n.natAbs 45 (by rw [h2]; exact List.mem_singleton.mpr rfl)
        omega
  · have h2 : tl (endT s.1 ++ dots ++ endT s.2) = [45] := congrArg tl e
    have : 46 ∈ tl (endT s.1 ++ dots ++ endT s.2) := by
      rw [tl_append, tl_append, tl_dots]
      simp
    rw [h2] at this
    exact absurd (List.mem_singleton.mp this) (by decide)
theorem parts_dash {ps : List Stc} (h : ps ≠ []) : partsT ps ≠ Str.ofString "-" := fun e => by
  have a := split_parts h
  rw [e] at a
  have b : Txt.split (Txt.join comma [Str.ofString "-"]) comma = [Str.ofString "-"] := split_join (y := comma) (s := 44) (S := []) rfl (by decide +kernel) (by simp) fun p hp => by
    rw [List.mem_singleton.mp hp]
    show 44 ∉ [45]
    decide
  rw [show Txt.join comma [Str.ofString "-"] = Str.ofString "-" from rfl, a] at b
  cases ps with
  | nil => exact h rfl
  | cons s r => exact part_dash (List.cons.inj b).1
section
variable {P : Program} {w : World} {K : PySem.W.Frag} {mg : Str → Option Value} {base : Heap} {C fI fE : Addr} {mc : Value} {pe pb ge gb fO : Addr}
theorem mk_rngA {H : Hp} {t : Addr} {ps : List Stc} {R : Addr → Hp → Prop} (hp : PartsT H t ps) (hc : Canon ps) (q : ∀ r H', Same H H' → Rng C H' r ps → R r H') :
    ∀ x dx, H x = none → H dx = none → dx ≠ x → spI C (V.ref x :: [.ref t]) (upd (upd H dx (.own x)) x (.ins C dx [])) (fun v H2 => v = .non ∧ R x H2) E0 := by
  intro x dx hx hdx hne
  refine ⟨x, dx, t, rfl, upd_same, rfl, ?_⟩
  have sm : Same H (upd (upd (upd H dx (.own x)) x (.ins C dx [])) x (.ins C dx [("parts", .ref t)])) := fun b o e => by
    rw [upd_ne (ne_of_none e hx), upd_ne (ne_of_none e hx), upd_ne (ne_of_none e hdx)]
    exact e
  exact q x _ sm ⟨dx, t, upd_same, hp.up sm, hc⟩
/-! ### sets in a text -/
abbrev s_ranges_in : Stmt := top 38
theorem sc_ranges_in : FnScope ["word", "stretches", "found", "part"] ["word"] (defScope s_ranges_in) := ⟨rfl, rfl, rfl, by decide +kernel, rfl, by decide +kernel, by decide +kernel⟩
def sp_ranges_in (C : Addr) : Sp := fun vs H Q _ => ∃ ps, vs = [.str (partsT ps)] ∧ Canon ps ∧ (∀ s, s ∈ ps → FewS s) ∧ ps.length ≤ 100 ∧ ∀ r H', Same H H' → Rng C H' r ps → Q (.ref r) H'
theorem ok_ranges_in {f fS fJ fW : Addr} {fd fdI fdS fdJ fdW : FuncData} (F : Fun K "ranges_in" "ranges_in" s_ranges_in f fd) (T : ClsT K mg C fI fE) (CM : ClsM K C mc pe pb ge gb fO) (R_empty : FnR P w K mg base CX0 3 ge (fun vs H Q E => sp_empty C (vs ++ []) H Q E))
    (FI : Fun K "__init__" "Ranges.__init__" s_Ranges__init fI fdI) (B_init : Binds K fdI ["self", "parts"] [])
    (F_stretch_in : Fun K "stretch_in" "stretch_in" s_stretch_in fS fdS) (B_stretch_in : Binds K fdS ["part"] []) (g_stretch_in : mg "stretch_in" = some (.ref fS)) (G_stretch_in : FnOk P w K mg base CX0 2 fS fdS ["part"] sp_stretch)
    (F_joined : Fun K "joined" "joined" s_joined fJ fdJ) (B_joined : Binds K fdJ ["stretches"] []) (g_joined : mg "joined" = some (.ref fJ)) (G_joined : FnOk P w K mg base CX0 4 fJ fdJ ["stretches"] (sp_joined K))
    (F_show_ranges : Fun K "show_ranges" "show_ranges" s_show_ranges fW fdW) (B_show_ranges : Binds K fdW ["ranges"] []) (g_show_ranges : mg "show_ranges" = some (.ref fW)) (G_show_ranges : FnOk P w K mg base CX0 4 fW fdW ["ranges"] (sp_show C)) :
    FnOk P w K mg base CX0 5 f fd ["word"] (sp_ranges_in C) := by
  have RI : FnR P w K mg base CX0 1 fI (spI C) := FnOk.raw (ok_init FI T) B_init .nil
  have M := T.M
  have g_C := T.g_C
  refine F.ok sc_ranges_in (fun vs H Q E h => ?_) (fun cdv A outer s H vs Q E hr h => ?_)
  · obtain ⟨ps, rfl, _⟩ := h
    rfl
  · obtain ⟨ps, rfl, hc, hf, hz, q⟩ := h
    refine ⟨_, (pss_cons (ps_if (pt_cmpR op_eq (pv 0) pe_str (nomark _))
 (pss_one (ps_ret (pe_cmeth0 (pe_glob rfl g_C (relR _)) CM.rd CM.empty R_empty (hr.mono (by decide)) pass0)))
 pss_nil)
 (pss_cons (ps_setLc (i := 1) (own := [("part", 3)]) (g := gName 3) (tt := tYes) rfl sc_ranges_in.nd rfl rfl (sw_true rfl rfl rfl (by decide +kernel)) (pi_list (pe_split (pv 0) pe_str)) (blkOk_by (own := [("part", 3)]) (N := ["word", "stretches", "found", "part"]) (sc := defScope s_ranges_in) (by decide +kernel)) (fun _ _ _ _ _ => pg_name (i := 3) sc_ranges_in.nd rfl (Or.inl rfl)) (fun _ _ _ _ _ => pts_nil) (fun _ _ _ _ _ => (pe_call G_stretch_in (hr.mono (by decide)) rfl g_stretch_in F_stretch_in.kp B_stretch_in .nil pass0 (pa_cons (pv 3) pa_nil))))
 (pss_cons (ps_if (pt_cmpR (op_inD (room65 hr)) pe_non (pv 1) (by rfl))
 (pss_one (ps_ret pe_non))
 pss_nil)
 (pss_cons (ps_set (i := 2) sc_ranges_in.nd rfl (Or.inl rfl) (StX.pe_makeR M RI (hr.mono (by decide)) rfl g_C pass0 (pa_cons (pe_call G_joined (hr.mono (by decide)) rfl g_joined F_joined.kp B_joined .nil pass0 (pa_cons (pv 1) pa_nil)) pa_nil)))
 (pss_one (ps_ret (pe_ifExp (pt_cmpR op_eq (pe_call G_show_ranges (hr.mono (by decide)) rfl g_show_ranges F_show_ranges.kp B_show_ranges .nil pass0 (pa_cons (pv 2) pa_nil)) (pv 0) (nomark _)) (pv 2) pe_non))))))), ?_⟩
    walk_at "rd"
    by_cases hne : ps = []
    · subst hne
      rw [show decide (V.str (partsT []) = V.str (Str.ofString "-")) = true from decide_eq_true rfl]
      refine iteT ?_
      walk_at "rd"
      exact ⟨rfl, fun r H1 s1 hr => q r H1 s1 hr⟩
    · rw [show decide (V.str (partsT ps) = V.str (Str.ofString "-")) = false from decide_eq_false fun z => parts_dash hne (V.str.inj z)]
      refine iteF ?_
      have lz := partsT_len hf
      unfold tLc
      walk_at "rd"
      refine i_m1 ?_
      walk_at "rd"
      refine ⟨⟨_, rfl⟩, ?_⟩
      walk_at "rd"
      refine ⟨_, _, rfl, rfl, rfl, size_of (by omega), fun lp hlp => ?_⟩
      obtain ⟨H1, e1, s1, h1⟩ := new_heap (o := .lst ((Txt.split (partsT ps) (Str.ofString ",")).map V.str)) hlp
      rw [e1]
      have es : Txt.split (partsT ps) (Str.ofString ",") = ps.map partT := split_parts hne
      rw [es] at h1
      refine ⟨lp, rfl, ⟨_, SqL.of h1⟩, fun D hD => ?_⟩
      obtain ⟨H2, e2, s2, h2⟩ := new_heap (o := .lst []) hD
      refine lc_list (K := K) (a := lp) (xs := (ps.map partT).map V.str) (fun i H' => ∃ vs, Same H1 H' ∧ H' D = some (.lst vs) ∧ Tups H' vs (ps.take i)) ⟨[], by rw [e2]; exact s2, by rw [e2]; exact h2, .nil⟩ ?_ ?_ ?_
      · rintro i H' _ ⟨vs, s3, _⟩
        exact SqL.of (s3 _ _ h1)
      · rintro i x H' hx ⟨vs, s3, h3, tu⟩
        have hi : i < ps.length := by
          have := (List.getElem?_eq_some_iff.mp hx).1
          simpa using this
        have ex : x = .str (partT ps[i]) := by
          rw [List.getElem?_map, List.getElem?_map, List.getElem?_eq_getElem hi] at hx
          exact (Option.some.inj hx).symm
        subst ex
        walk_at "rd"
        refine ⟨rfl, i_yes (iteT ?_)⟩
        walk_at "rd"
        refine ⟨ps[i], rfl, hf _ (List.getElem_mem hi), hc.ne _ (List.getElem_mem hi), fun p H4 s4 h4 => ?_⟩
        have hl := tups_len tu
        rw [List.length_take] at hl
        refine ⟨vs, s4 _ _ h3, size_lt (by omega), vs ++ [.ref p], Same.mut (fun b o z => s4 _ _ (s3 _ _ z)) hD, upd_same, ?_⟩
        rw [List.take_succ_eq_append_getElem hi]
        exact Tups.mut (tups_snoc (tu.up s4) ⟨p, rfl, h4⟩) (s4 _ _ h3)
      · rintro H' ⟨vs, s3, h3, tu⟩
        rw [List.length_map, List.length_map, List.take_length] at tu
        walk_at "rd"
        refine ⟨.none, ps.map stD, .non, dp_strL ⟨vs, h3, tu⟩, by decide +kernel, shaped_strL ps, ?_⟩
        rw [show (ps.map stD).any (fun z => PyData.eqv z .none) = false from by
          rw [List.any_map]
          refine List.any_eq_false.mpr fun x _ => ?_
          simp [Function.comp, stD, PyData.eqv]]
        refine ⟨false, rfl, iteF ?_⟩
        walk_at "rd"
        unfold StX.tMakeR
        walk_at "rd"
        refine ⟨D, vs, ps, rfl, .inl (SqL.of h3), tu, by omega, fun s hs => hc.ne s hs, fun p H4 rs s4 hp hcr hm hl => ?_⟩
        obtain rfl : rs = ps := canon_unique hcr hc hm
        walk_at "rd"
        refine mk_rngA hp hcr fun r H5 s5 hr5 => ?_
        walk_at "rd"
        refine ⟨r, rs, rfl, hr5, hf, hz, fun H6 s6 => ?_⟩
        walk_at "rd"
        rw [show decide (V.str (partsT rs) = V.str (partsT rs)) = true from decide_eq_true rfl]
        refine iteT ?_
        walk_at "rd"
        exact q r H6 (fun b o z => s6 _ _ (s5 _ _ (s4 _ _ (s3 _ _ (s1 _ _ z))))) (hr5.up s6)
end
end Spk

set_option Elab.async false
set_option linter.all false
set_option maxRecDepth 100000
set_option maxHeartbeats 1000000
namespace Spk
open PySem L2 TL
local macro_rules | `(tactic| walk_at "rd") => `(tactic| repeat (first
  | with_reducible refine i_seq ?_ | with_reducible refine i_asg ?_ | with_reducible refine i_ret ?_ | with_reducible refine i_ifS ?_ | with_reducible refine i_if ?_
  | with_reducible refine i_for ?_ | with_reducible refine i_iL ?_ | with_reducible refine i_iT ?_ | with_reducible refine i_ckw ?_ | with_reducible refine i_cm ?_ | with_reducible refine And.intro (rfl : V.ref _ = V.ref _) ?_ | with_reducible refine i_rng1 ?_ | with_reducible refine i_bm ?_ | with_reducible refine i_bm0 ?_
  | with_reducible refine i_drop ?_ | with_reducible refine i_next ?_
  | with_reducible refine i_var rfl ?_ | with_reducible refine i_c ?_ | with_reducible refine i_op ?_ | with_reducible refine i_un ?_ | with_reducible refine i_name ?_
  | with_reducible refine i_rI0 ?_ | with_reducible refine i_rU ?_ | with_reducible refine i_rEq rfl ?_ | with_reducible refine i_rNe rfl ?_
  | with_reducible refine i_test ?_ | with_reducible refine i_tB ?_ | with_reducible refine i_and ?_ | with_reducible refine i_or ?_ | with_reducible refine i_not ?_
  | with_reducible refine i_andV ?_ | with_reducible refine i_orV ?_ | with_reducible refine i_notV ?_
  | with_reducible refine i_cons ?_ | with_reducible refine i_nil ?_ | with_reducible refine i_cb ?_ | with_reducible refine i_call ?_ | with_reducible refine i_bl ?_
  | with_reducible refine i_tup ?_ | with_reducible refine i_lst ?_ | with_reducible refine i_par ?_ | with_reducible refine i_gcons ?_ | with_reducible refine i_gnil ?_
  | with_reducible refine And.intro (rfl : V.non = V.non) ?_ | with_reducible refine i_ixT (by assumption) rfl ?_ | with_reducible refine i_ixL (by assumption) rfl ?_ | with_reducible refine i_gtup (by assumption) rfl ?_
  | with_reducible refine i_gsub ?_
  | with_reducible refine Or.inl (Exists.intro _ (And.intro (rfl : [V.int _] = [V.int _]) ?_)) | with_reducible refine Exists.intro _ (And.intro (rfl : [V.int _] = [V.int _]) ?_)
  | with_reducible refine Or.inr (Exists.intro _ (And.intro (rfl : [V.bl _] = [V.bl _]) ?_))
  | with_reducible refine Exists.intro _ (Exists.intro _ (And.intro (rfl : [V.int _, V.int _] = [V.int _, V.int _]) ?_))
  | with_reducible refine Exists.intro _ (Exists.intro _ (And.intro (rfl : [V.ref _] = [V.ref _]) (And.intro (Or.inl (SqL.of (by assumption))) ?_)))
  | with_reducible refine i_rI (show (0 : Int) < _ by assumption) ?_ | with_reducible refine i_rI (show (0 : Int) < _ by decide) ?_
  | with_reducible refine i_rI (pow_ok (Nat.le_of_ble_eq_true rfl) (Nat.le_of_ble_eq_true rfl)) ?_
  | with_reducible refine i_rI (cmulL rfl) ?_))
/-! ### the class Phrase -/
def phf (i : Int) (l : Addr) (k : Int) : List (Str × V) := [("line", .int i), ("words", .ref l), ("place", .int k)]
theorem lk_line {i k : Int} {l : Addr} : (phf i l k).lookup ("line" : Str) = some (.int i) := by
  simp only [phf, List.lookup, beq_self_eq_true]
theorem lk_words {i k : Int} {l : Addr} : (phf i l k).lookup ("words" : Str) = some (.ref l) := by
  simp only [phf, List.lookup, beq_self_eq_true, show (("words" : Str) == "line") = false from rfl]
theorem lk_place {i k : Int} {l : Addr} : (phf i l k).lookup ("place" : Str) = some (.int k) := by
  simp only [phf, List.lookup, beq_self_eq_true, show (("place" : Str) == "line") = false from rfl, show (("place" : Str) == "words") = false from rfl]
def Phr (CP : Addr) (H : Hp) (x : Addr) (ws : List Str) (k : Int) : Prop := ∃ dx i l, H x = some (.ins CP dx (phf i l k)) ∧ H l = some (.lst (ws.map V.str))
theorem Phr.up {CP x : Addr} {H H' : Hp} {ws : List Str} {k : Int} (e : Same H H') (h : Phr CP H x ws k) : Phr CP H' x ws k := by
  obtain ⟨dx, i, l, h1, h2⟩ := h
  exact ⟨dx, i, l, e _ _ h1, e _ _ h2⟩
theorem i_fld {K : PySem.W.Frag} {ta tv : TE} {f : Str} {D : Ends} {σ : L2.St} {H : Hp} (h : tv σ H fun y H1 => ta σ H1 fun x H2 => ∃ a C dx fs, x = V.ref a ∧ H2 a = some (HO.ins C dx fs) ∧ Cls K C ∧ NoAttr K C f ∧ fs.length < 1000 ∧ D.nx σ (upd H2 a (HO.ins C dx (putF f y fs)))) : sFld K ta tv f D σ H := h
theorem i_meth {C : Addr} {m : Str} {sp : Sp} {E : XK} {ta : TE} {t : TA} {σ : L2.St} {H : Hp} {Q : VK} (h : ta σ H fun x H1 => ∃ a dx fs, x = .ref a ∧ H1 a = some (.ins C dx fs) ∧ fs.lookup m = none ∧ t σ H1 fun vs H2 => sp (x :: vs) H2 Q E) : tMethR C m sp E ta t σ H Q := h
theorem i_aug {K : PySem.W.Frag} {ta tv : TE} {rd : V → V → Hp → VK → Prop} {f : Str} {D : Ends} {σ : L2.St} {H : Hp} (h : ta σ H fun x H1 => ∃ a C dx fs v, x = .ref a ∧ H1 a = some (.ins C dx fs) ∧ Cls K C ∧ NoAttr K C f ∧ fs.lookup f = some v ∧
  tv σ H1 fun y H2 => rd v y H2 fun z H3 => ∃ dx' fs', H3 a = some (.ins C dx' fs') ∧ fs'.length < 1000 ∧ D.nx σ (upd H3 a (.ins C dx' (putF f z fs')))) : sFldAug K ta tv rd f D σ H := h
/-- all but x is as it was -/
def Off (x : Addr) (H H' : Hp) : Prop := ∀ b o, b ≠ x → H b = some o → H' b = some o
theorem Off.refl (x : Addr) (H : Hp) : Off x H H := fun _ _ _ h => h
theorem Off.trans {x : Addr} {H H1 H2 : Hp} (a : Off x H H1) (b : Off x H1 H2) : Off x H H2 := fun c o n h => b c o n (a c o n h)
theorem off_of {x : Addr} {H H' : Hp} (e : Same H H') : Off x H H' := fun b o _ h => e b o h
theorem off_upd {x : Addr} {H : Hp} {o : HO} : Off x H (upd H x o) := fun b u n h => by
  rw [upd_ne n]
  exact h
theorem same_off {x : Addr} {H0 H H' : Hp} (hx : H0 x = none) (a : Same H0 H) (b : Off x H H') : Same H0 H' := fun c o h => b c o (fun e => by rw [e, hx] at h; cases h) (a c o h)
/-- what the text says of the class -/
structure ClsP (K : PySem.W.Frag) (mg : Str → Option Value) (CP fPI hM hN hC hE hR hA hQ hF : Addr) : Prop where
  cl : Cls K CP
  nL : NoAttr K CP "line"
  nW : NoAttr K CP "words"
  nP : NoAttr K CP "place"
  M : Mk K CP fPI
  g_Phrase : mg "Phrase" = some (.ref CP)
  has_more : Meth K CP "has_more" hM
  next_word : Meth K CP "next_word" hN
  check : Meth K CP "check" hC
  ends : Meth K CP "end" hE
  next_ranges : Meth K CP "next_ranges" hR
  next_name : Meth K CP "next_name" hA
  condition : Meth K CP "condition" hQ
  next_filter : Meth K CP "next_filter" hF
section
variable {P : Program} {w : World} {K : PySem.W.Frag} {mg : Str → Option Value} {base : Heap} {C CP fI fE fPI hM hN hC hE hR hA hQ hF : Addr}
abbrev s_Phrase__init : Stmt := inClass (top 34) 0
theorem sc_Phrase__init : FnScope ["self", "line", "words"] ["self", "line", "words"] (defScope s_Phrase__init) := ⟨rfl, rfl, rfl, by decide +kernel, rfl, by decide +kernel, by decide +kernel⟩
def sp_pinit (CP : Addr) : Sp := fun vs H Q _ => ∃ x dx i l ws, vs = [.ref x, .int i, .ref l] ∧ H x = some (.ins CP dx []) ∧ H l = some (.lst (ws.map V.str)) ∧ l ≠ x ∧ ∀ H', Off x H H' → Phr CP H' x ws 0 → Q .non H'
theorem ok_pinit {fd : FuncData} (F : Fun K "__init__" "Phrase.__init__" s_Phrase__init fPI fd) (TP : ClsP K mg CP fPI hM hN hC hE hR hA hQ hF) : FnOk P w K mg base CX0 1 fPI fd ["self", "line", "words"] (sp_pinit CP) := by
  refine F.ok sc_Phrase__init (fun vs H Q E h => ?_) (fun cdv A outer s H vs Q E hr h => ?_)
  · obtain ⟨x, dx, i, l, ws, rfl, _⟩ := h
    rfl
  · obtain ⟨x, dx, i, l, ws, rfl, hx, hl, ne, q⟩ := h
    refine ⟨_, (pss_cons (ps_fld (pv 0) (pv 1) rfl)
 (pss_cons (ps_fld (pv 0) (pv 2) rfl)
 (pss_one (ps_fld (pv 0) pe_int rfl)))), ?_⟩
    walk_at "rd"
    refine i_fld ?_
    walk_at "rd"
    refine ⟨x, CP, dx, _, rfl, hx, TP.cl, TP.nL, (by show 0 < 1000; decide), ?_⟩
    walk_at "rd"
    refine i_fld ?_
    walk_at "rd"
    refine ⟨x, CP, dx, _, rfl, upd_same, TP.cl, TP.nW, (by show 1 < 1000; decide), ?_⟩
    dsimp only
    refine i_fld ?_
    walk_at "rd"
    refine ⟨x, CP, dx, _, rfl, upd_same, TP.cl, TP.nP, (by show 2 < 1000; decide), ?_⟩
    refine q _ (Off.trans off_upd (Off.trans off_upd off_upd)) ⟨dx, i, l, upd_same, ?_⟩
    rw [upd_ne ne, upd_ne ne, upd_ne ne]
    exact hl
abbrev spPI (CP : Addr) : Sp := fun vs H Q E => sp_pinit CP (vs ++ []) H Q E
theorem mk_phr {H : Hp} {i : Int} {l : Addr} {ws : List Str} {R : Addr → Hp → Prop} (hl : H l = some (.lst (ws.map V.str))) (q : ∀ x H', Same H H' → H x = none → Phr CP H' x ws 0 → R x H') :
    ∀ x dx, H x = none → H dx = none → dx ≠ x → spPI CP (V.ref x :: [.int i, .ref l]) (upd (upd H dx (.own x)) x (.ins CP dx [])) (fun v H2 => v = .non ∧ R x H2) E0 := by
  intro x dx hx hdx hne
  have sm : Same H (upd (upd H dx (.own x)) x (.ins CP dx [])) := fun b o e => by
    rw [upd_ne (ne_of_none e hx), upd_ne (ne_of_none e hdx)]
    exact e
  exact ⟨x, dx, i, l, ws, rfl, upd_same, sm _ _ hl, ne_of_none hl hx, fun H' of ph => ⟨rfl, q x H' (same_off hx sm of) hx ph⟩⟩
abbrev s_Phrase_has_more : Stmt := inClass (top 34) 1
theorem sc_Phrase_has_more : FnScope ["self"] ["self"] (defScope s_Phrase_has_more) := ⟨rfl, rfl, rfl, by decide +kernel, rfl, by decide +kernel, by decide +kernel⟩
def sp_more (CP : Addr) : Sp := fun vs H Q _ => ∃ x ws k, vs = [.ref x] ∧ Phr CP H x ws k ∧ ws.length ≤ 1000 ∧ Q (.bl (decide (k < (ws.length : Int)))) H
theorem ok_more {fd : FuncData} (F : Fun K "has_more" "Phrase.has_more" s_Phrase_has_more hM fd) (TP : ClsP K mg CP fPI hM hN hC hE hR hA hQ hF) (z_len : mg "len" = none) : FnOk P w K mg base CX0 1 hM fd ["self"] (sp_more CP) := by
  refine F.ok sc_Phrase_has_more (fun vs H Q E h => ?_) (fun cdv A outer s H vs Q E hr h => ?_)
  · obtain ⟨x, ws, k, rfl, _⟩ := h
    rfl
  · obtain ⟨x, ws, k, rfl, ⟨dx, i, l, hx, hl⟩, hz, q⟩ := h
    refine ⟨_, (pss_one (ps_ret (pe_cmpR op_lt (pe_fld (pv 0) rfl) (pe_callB call_len_seq (by rfl) z_len PySem.boot_len (pa_cons (pe_fld (pv 0) rfl) pa_nil)) (nomark _)))), ?_⟩
    walk_at "rd"
    refine ⟨_, rfl, x, CP, dx, _, _, rfl, hx, TP.cl, TP.nP, lk_place, ?_⟩
    walk_at "rd"
    refine ⟨_, rfl, x, CP, dx, _, _, rfl, hx, TP.cl, TP.nW, lk_words, ?_⟩
    walk_at "rd"
    rw [List.length_map]
    exact q
abbrev s_Phrase_next_word : Stmt := inClass (top 34) 2
theorem sc_Phrase_next_word : FnScope ["self"] ["self"] (defScope s_Phrase_next_word) := ⟨rfl, rfl, rfl, by decide +kernel, rfl, by decide +kernel, by decide +kernel⟩
def sp_word (CP : Addr) : Sp := fun vs H Q _ => ∃ x ws, ∃ (k : Nat) (w0 : Str), vs = [.ref x] ∧ Phr CP H x ws k ∧ ws.length ≤ 1000 ∧ ws[k]? = some w0 ∧ ∀ H', Off x H H' → Phr CP H' x ws ((k : Int) + 1) → Q (.str w0) H'
theorem ok_word {fd fdM : FuncData} (F : Fun K "next_word" "Phrase.next_word" s_Phrase_next_word hN fd) (TP : ClsP K mg CP fPI hM hN hC hE hR hA hQ hF) (MP : ClsP K mg CP fPI hM hN hC hE hR hA hQ hF) (RP_has_more : FnR P w K mg base CX0 1 hM (fun vs H Q E => sp_more CP (vs ++ []) H Q E))
    (z_len : mg "len" = none) : FnOk P w K mg base CX0 2 hN fd ["self"] (sp_word CP) := by
  refine F.ok sc_Phrase_next_word (fun vs H Q E h => ?_) (fun cdv A outer s H vs Q E hr h => ?_)
  · obtain ⟨x, ws, k, w0, rfl, _⟩ := h
    rfl
  · obtain ⟨x, ws, k, w0, rfl, ⟨dx, i, l, hx, hl⟩, hz, hk, q⟩ := h
    refine ⟨_, (pss_cons (ps_if (pt_not (pt_val (pe_meth0R (pv 0) TP.cl MP.has_more RP_has_more (hr.mono (by decide)) pass0)))
 (pss_one ps_dead)
 pss_nil)
 (pss_cons (ps_fldaug (pv 0) pe_int in_add)
 (pss_one (ps_ret (pe_ix ix_list (pe_fld (pv 0) rfl) (pe_op op_sub (pe_fld (pv 0) rfl) pe_int) (fun _ _ => rfl)))))), ?_⟩
    walk_at "rd"
    have hlt : k < ws.length := (List.getElem?_eq_some_iff.mp hk).1
    refine i_meth ?_
    walk_at "rd"
    refine ⟨x, dx, _, rfl, hx, rfl, ?_⟩
    walk_at "rd"
    refine ⟨x, ws, k, rfl, ⟨dx, i, l, hx, hl⟩, hz, ?_⟩
    rw [decide_eq_true (show (k : Int) < (ws.length : Int) by omega)]
    refine ⟨true, rfl, iteF ?_⟩
    walk_at "rd"
    refine i_aug ?_
    walk_at "rd"
    refine ⟨x, CP, dx, _, _, rfl, hx, TP.cl, TP.nP, lk_place, ?_⟩
    walk_at "rd"
    refine ⟨_, _, rfl, rfl, dx, _, hx, (by show 3 < 1000; decide), ?_⟩
    have ex : upd H x (.ins CP dx (putF "place" (.int ((k : Int) + 1)) (phf i l k))) x = some (.ins CP dx (phf i l ((k : Int) + 1))) := upd_same
    have of : Off x H (upd H x (.ins CP dx (putF "place" (.int ((k : Int) + 1)) (phf i l k)))) := off_upd
    have nl : l ≠ x := fun z => by rw [z, hx] at hl; cases hl
    generalize upd H x (.ins CP dx (putF "place" (.int ((k : Int) + 1)) (phf i l k))) = H1 at ex of
    have hl1 := of _ _ nl hl
    walk_at "rd"
    refine ⟨_, rfl, x, CP, dx, _, _, rfl, ex, TP.cl, TP.nW, lk_words, ?_⟩
    walk_at "rd"
    refine ⟨_, rfl, x, CP, dx, _, _, rfl, ex, TP.cl, TP.nP, lk_place, ?_⟩
    walk_at "rd"
    refine i_ixL hl1 (v := .str w0) ?_ ?_
    · rw [show (k : Int) + 1 - 1 = ((k : Nat) : Int) from by omega]
      exact atI_nat (by rw [List.getElem?_map, hk]; rfl)
    · exact q H1 of ⟨dx, i, l, ex, hl1⟩
abbrev s_Phrase_check : Stmt := inClass (top 34) 3
theorem sc_Phrase_check : FnScope ["self", "stands"] ["self", "stands"] (defScope s_Phrase_check) := ⟨rfl, rfl, rfl, by decide +kernel, rfl, by decide +kernel, by decide +kernel⟩
def sp_check : Sp := fun vs H Q _ => ∃ x, vs = [x, .bl true] ∧ Q .non H
theorem ok_check {fd : FuncData} (F : Fun K "check" "Phrase.check" s_Phrase_check hC fd) : FnOk P w K mg base CX0 1 hC fd ["self", "stands"] sp_check := by
  refine F.ok sc_Phrase_check (fun vs H Q E h => ?_) (fun cdv A outer s H vs Q E hr h => ?_)
  · obtain ⟨x, rfl, _⟩ := h
    rfl
  · obtain ⟨x, rfl, q⟩ := h
    refine ⟨_, (pss_one (ps_if (pt_not (pt_val (pv 1)))
 (pss_one ps_dead)
 pss_nil)), ?_⟩
    walk_at "rd"
    exact q
abbrev s_Phrase_end : Stmt := inClass (top 34) 4
theorem sc_Phrase_end : FnScope ["self"] ["self"] (defScope s_Phrase_end) := ⟨rfl, rfl, rfl, by decide +kernel, rfl, by decide +kernel, by decide +kernel⟩
def sp_pend (CP : Addr) : Sp := fun vs H Q _ => ∃ x ws k, vs = [.ref x] ∧ Phr CP H x ws k ∧ ws.length ≤ 1000 ∧ (ws.length : Int) ≤ k ∧ Q .non H
theorem ok_pend {fd : FuncData} (F : Fun K "end" "Phrase.end" s_Phrase_end hE fd) (TP : ClsP K mg CP fPI hM hN hC hE hR hA hQ hF) (MP : ClsP K mg CP fPI hM hN hC hE hR hA hQ hF) (RP_has_more : FnR P w K mg base CX0 1 hM (fun vs H Q E => sp_more CP (vs ++ []) H Q E)) : FnOk P w K mg base CX0 2 hE fd ["self"] (sp_pend CP) := by
  refine F.ok sc_Phrase_end (fun vs H Q E h => ?_) (fun cdv A outer s H vs Q E hr h => ?_)
  · obtain ⟨x, ws, k, rfl, _⟩ := h
    rfl
  · obtain ⟨x, ws, k, rfl, ph, hz, hk, q⟩ := h
    refine ⟨_, (pss_one (ps_if (pt_val (pe_meth0R (pv 0) TP.cl MP.has_more RP_has_more (hr.mono (by decide)) pass0))
 (pss_one ps_dead)
 pss_nil)), ?_⟩
    walk_at "rd"
    obtain ⟨dx, i, l, hx, hl⟩ := ph
    refine i_meth ?_
    walk_at "rd"
    refine ⟨x, dx, _, rfl, hx, rfl, ?_⟩
    walk_at "rd"
    refine ⟨x, ws, k, rfl, ⟨dx, i, l, hx, hl⟩, hz, ?_⟩
    rw [decide_eq_false (show ¬ k < (ws.length : Int) by omega)]
    refine ⟨false, rfl, iteF ?_⟩
    exact q
end
end Spk

set_option Elab.async false
set_option linter.all false
set_option maxRecDepth 100000
set_option maxHeartbeats 1000000
namespace Spk
open PySem L2 TL
local macro_rules | `(tactic| walk_at "rd") => `(tactic| repeat (first
  | with_reducible refine i_seq ?_ | with_reducible refine i_asg ?_ | with_reducible refine i_ret ?_ | with_reducible refine i_ifS ?_ | with_reducible refine i_if ?_
  | with_reducible refine i_for ?_ | with_reducible refine i_iL ?_ | with_reducible refine i_iT ?_ | with_reducible refine i_ckw ?_ | with_reducible refine i_cm ?_ | with_reducible refine And.intro (rfl : V.ref _ = V.ref _) ?_ | with_reducible refine i_rng1 ?_ | with_reducible refine i_bm ?_ | with_reducible refine i_bm0 ?_
  | with_reducible refine i_drop ?_ | with_reducible refine i_next ?_
  | with_reducible refine i_var rfl ?_ | with_reducible refine i_c ?_ | with_reducible refine i_op ?_ | with_reducible refine i_un ?_ | with_reducible refine i_name ?_
  | with_reducible refine i_rI0 ?_ | with_reducible refine i_rU ?_ | with_reducible refine i_rEq rfl ?_ | with_reducible refine i_rNe rfl ?_
  | with_reducible refine i_test ?_ | with_reducible refine i_tB ?_ | with_reducible refine i_and ?_ | with_reducible refine i_or ?_ | with_reducible refine i_not ?_
  | with_reducible refine i_andV ?_ | with_reducible refine i_orV ?_ | with_reducible refine i_notV ?_
  | with_reducible refine i_cons ?_ | with_reducible refine i_nil ?_ | with_reducible refine i_cb ?_ | with_reducible refine i_call ?_ | with_reducible refine i_bl ?_
  | with_reducible refine i_tup ?_ | with_reducible refine i_lst ?_ | with_reducible refine i_par ?_ | with_reducible refine i_gcons ?_ | with_reducible refine i_gnil ?_
  | with_reducible refine And.intro (rfl : V.non = V.non) ?_ | with_reducible refine i_ixT (by assumption) rfl ?_ | with_reducible refine i_ixL (by assumption) rfl ?_ | with_reducible refine i_gtup (by assumption) rfl ?_
  | with_reducible refine i_gsub ?_
  | with_reducible refine Or.inl (Exists.intro _ (And.intro (rfl : [V.int _] = [V.int _]) ?_)) | with_reducible refine Exists.intro _ (And.intro (rfl : [V.int _] = [V.int _]) ?_)
  | with_reducible refine Or.inr (Exists.intro _ (And.intro (rfl : [V.bl _] = [V.bl _]) ?_))
  | with_reducible refine Exists.intro _ (Exists.intro _ (And.intro (rfl : [V.int _, V.int _] = [V.int _, V.int _]) ?_))
  | with_reducible refine Exists.intro _ (Exists.intro _ (And.intro (rfl : [V.ref _] = [V.ref _]) (And.intro (Or.inl (SqL.of (by assumption))) ?_)))
  | with_reducible refine i_rI (show (0 : Int) < _ by assumption) ?_ | with_reducible refine i_rI (show (0 : Int) < _ by decide) ?_
  | with_reducible refine i_rI (pow_ok (Nat.le_of_ble_eq_true rfl) (Nat.le_of_ble_eq_true rfl)) ?_
  | with_reducible refine i_rI (cmulL rfl) ?_))
theorem split_whole {w0 y : Str} {s : Nat} (ey : tl y = [s]) (hk : y.cps.all (· < 256) = true) (h : s ∉ tl w0) : Txt.split w0 y = [w0] := by
  have e : Txt.join y [w0] = w0 := by rw [join_eq]; rfl
  have := split_join (y := y) (s := s) (S := []) ey hk (parts := [w0]) (by simp) fun p hp => by rw [List.mem_singleton.mp hp]; exact h
  rw [e] at this
  exact this
theorem joinL_free {s : Nat} {S : List Nat} (hs : s ∉ S) : ∀ {l : List (List Nat)}, (∀ p, p ∈ l → s ∉ p) → s ∉ joinL S l
  | [], _ => fun h => by cases h
  | [p], h => h p (List.mem_singleton.mpr rfl)
  | p :: q :: r, h => by
    have a := h p (List.mem_cons_self ..)
    have b := joinL_free hs (l := q :: r) fun x hx => h x (List.mem_cons_of_mem _ hx)
    show s ∉ p ++ (S ++ joinL S (q :: r))
    intro hm
    rcases List.mem_append.mp hm with hm | hm
    · exact a hm
    · rcases List.mem_append.mp hm with hm | hm
      · exact hs hm
      · exact b hm
theorem partsT_free {ps : List Stc} {c : Nat} (h : c < 44) : c ∉ tl (partsT ps) := by
  unfold partsT
  split
  · show c ∉ [45]
    intro z
    have := List.mem_singleton.mp z
    omega
  · rw [join_eq, tl_join]
    refine joinL_free (by show c ∉ [44]; intro z; have := List.mem_singleton.mp z; omega) fun p hp => ?_
    obtain ⟨z, hz, rfl⟩ := List.mem_map.mp hp
    obtain ⟨s, hs, rfl⟩ := List.mem_map.mp hz
    exact partT_free (.inl (by omega))
theorem none_of {H H' : Hp} {x : Addr} (e : Same H H') (h : H' x = none) : H x = none := by
  cases z : H x with
  | none => rfl
  | some o => rw [e _ _ z] at h; cases h
/-- a name of columns -/
structure IsName (c : Str) : Prop where
  pos : 1 ≤ c.length
  le : c.length ≤ 8
  az : ∀ s, s ∈ c.cps.toList → 97 ≤ s ∧ s ≤ 122
theorem lt_one {a b : Nat} : ([a] < [b]) ↔ a < b := by
  rw [List.cons_lt_cons_iff]
  simp
section
variable {P : Program} {w : World} {K : PySem.W.Frag} {mg : Str → Option Value} {base : Heap} {C CP fI fE fPI hM hN hC hE hR hA hQ hF : Addr}
abbrev s_is_name : Stmt := top 28
theorem sc_is_name : FnScope ["thing", "sign"] ["thing"] (defScope s_is_name) := ⟨rfl, rfl, rfl, by decide +kernel, rfl, by decide +kernel, by decide +kernel⟩
def sp_isname : Sp := fun vs H Q _ => ∃ c, vs = [.str c] ∧ IsName c ∧ ∀ H', Same H H' → Q (.bl true) H'
theorem ok_isname {f : Addr} {fd : FuncData} (F : Fun K "is_name" "is_name" s_is_name f fd) (z_isinstance : mg "isinstance" = none) (z_str : mg "str" = none) (z_len : mg "len" = none) (z_all : mg "all" = none) : FnOk P w K mg base CX0 1 f fd ["thing"] sp_isname := by
  refine F.ok sc_is_name (fun vs H Q E h => ?_) (fun cdv A outer s H vs Q E hr h => ?_)
  · obtain ⟨c, rfl, _⟩ := h
    rfl
  · obtain ⟨c, rfl, hc, q⟩ := h
    refine ⟨_, (pss_one (ps_ret (pe_and (pe_callB call_isi (by rfl) z_isinstance (by decide +kernel) (pa_cons (pv 0) (pa_cons (pe_bltn (v := .ty "str") (u := .type "str") (by rfl) z_str (by decide +kernel) rfl) pa_nil))) (pe_and (pe_chain op_le op_le pe_int (pe_callB call_len_str (by rfl) z_len PySem.boot_len (pa_cons (pv 0) pa_nil)) pe_int) (pe_one (pe_callB (cr_all rfl) (by rfl) z_all (by decide +kernel) (pa_cons (pe_lc (own := [("sign", 1)]) (g := gName 1) (tt := tYes) rfl sc_is_name.nd (pi_str (pv 0)) (blkOk_by (own := [("sign", 1)]) (N := ["thing", "sign"]) (sc := defScope s_is_name) (by decide +kernel)) (fun _ _ _ _ _ => pg_name (i := 1) sc_is_name.nd rfl (Or.inl rfl)) (fun _ _ _ _ _ => pts_nil) (fun _ _ _ _ _ => (pe_chain op_le_str op_le_str pe_str (pv 1) pe_str))) pa_nil))))))), ?_⟩
    have hsz : c.cps.toList.length = c.length := Array.length_toList
    have hp := hc.pos
    have hl := hc.le
    walk_at "rd"
    refine ⟨_, _, _, _, true, rfl, .ty "str", .base (.str c), kit_ty (by decide +kernel), true, rfl, iteT ?_⟩
    walk_at "rd"
    refine i_chain ?_
    walk_at "rd"
    refine ⟨_, rfl, size_of (Nat.le_trans hl (by decide)), ?_⟩
    walk_at "rd"
    rw [decide_eq_true (show (1 : Int) ≤ ((c.length : Nat) : Int) from by omega)]
    refine iteT ?_
    walk_at "rd"
    rw [decide_eq_true (show ((c.length : Nat) : Int) ≤ 8 from by omega)]
    refine iteT ?_
    walk_at "rd"
    unfold tLc
    refine i_iS ?_
    walk_at "rd"
    refine ⟨c, rfl, fun D hD => ?_⟩
    obtain ⟨H1, e1, s1, hd⟩ := new_heap (o := .lst []) hD
    refine lc_it walk_str (fun i H' => Same H H' ∧ H' D = some (.lst (yes i))) ⟨by rw [e1]; exact s1, by rw [e1]; exact hd⟩ (fun _ _ _ _ => trivial) ?_ ?_
    · rintro i x H2 H' hi ⟨s2, h2⟩ ⟨rfl, c', hc', rfl⟩
      have hm : c' ∈ c.cps.toList := by
        rw [← Array.getElem?_toList] at hc'
        exact List.mem_of_getElem? hc'
      obtain ⟨a0, a1⟩ := hc.az c' hm
      walk_at "rd"
      refine ⟨rfl, i_yes (iteT ?_)⟩
      walk_at "rd"
      refine i_chain ?_
      walk_at "rd"
      refine ⟨_, _, rfl, rfl, ?_⟩
      refine ⟨_, rfl, ?_⟩
      rw [show decide ((Str.mk #[c']).cps.toList < (Str.ofString "a").cps.toList) = false from decide_eq_false (show ¬ (([c'] : List Nat) < [97]) from by rw [lt_one]; omega)]
      refine iteT ?_
      walk_at "rd"
      refine ⟨_, _, rfl, rfl, ?_⟩
      rw [show decide ((Str.ofString "z").cps.toList < (Str.mk #[c']).cps.toList) = false from decide_eq_false (show ¬ (([122] : List Nat) < [c']) from by rw [lt_one]; omega)]
      have hi' : i < c.length := hi
      refine ⟨_, h2, size_lt (by rw [List.length_map, List.length_replicate]; omega), Same.mut s2 hD, ?_⟩
      rw [show (!false) = true from rfl, yes_snoc]
      exact upd_same
    · rintro H' ⟨s2, h2⟩
      walk_at "rd"
      exact cr_all_at h2 (q H' s2)
theorem drop_get {ws pre suf : List Str} {w0 : Str} (e : ws = pre ++ (w0 :: suf)) : ws[pre.length]? = some w0 := by
  rw [e, List.getElem?_append_right (Nat.le_refl _), Nat.sub_self]
  rfl
abbrev s_Phrase_next_name : Stmt := inClass (top 34) 6
theorem sc_Phrase_next_name : FnScope ["self", "word"] ["self"] (defScope s_Phrase_next_name) := ⟨rfl, rfl, rfl, by decide +kernel, rfl, by decide +kernel, by decide +kernel⟩
def sp_pname (CP : Addr) : Sp := fun vs H Q _ => ∃ x ws, ∃ (k : Nat) (c : Str), vs = [.ref x] ∧ Phr CP H x ws k ∧ ws.length ≤ 1000 ∧ ws[k]? = some c ∧ IsName c ∧ ∀ H', Off x H H' → Phr CP H' x ws ((k : Int) + 1) → Q (.str c) H'
theorem ok_pname {fR : Addr} {fd fdR : FuncData} (F : Fun K "next_name" "Phrase.next_name" s_Phrase_next_name hA fd) (TP : ClsP K mg CP fPI hM hN hC hE hR hA hQ hF) (MP : ClsP K mg CP fPI hM hN hC hE hR hA hQ hF)
    (RP_next_word : FnR P w K mg base CX0 2 hN (fun vs H Q E => sp_word CP (vs ++ []) H Q E)) (RP_check : FnR P w K mg base CX0 1 hC (fun vs H Q E => sp_check (vs ++ []) H Q E))
    (F_is_name : Fun K "is_name" "is_name" s_is_name fR fdR) (B_is_name : Binds K fdR ["thing"] []) (g_is_name : mg "is_name" = some (.ref fR)) (G_is_name : FnOk P w K mg base CX0 1 fR fdR ["thing"] sp_isname) : FnOk P w K mg base CX0 3 hA fd ["self"] (sp_pname CP) := by
  refine F.ok sc_Phrase_next_name (fun vs H Q E h => ?_) (fun cdv A outer s H vs Q E hr h => ?_)
  · obtain ⟨x, ws, k, c, rfl, _⟩ := h
    rfl
  · obtain ⟨x, ws, k, c, rfl, ⟨dx, i, l, hx, hl⟩, hz, hk, hc, q⟩ := h
    refine ⟨_, (pss_cons (ps_set (i := 1) sc_Phrase_next_name.nd rfl (Or.inl rfl) (pe_meth0R (pv 0) TP.cl MP.next_word RP_next_word (hr.mono (by decide)) pass0))
 (pss_cons (ps_expr (pe_methR (pv 0) TP.cl MP.check RP_check (hr.mono (by decide)) pass0 (pa_cons (pe_call G_is_name (hr.mono (by decide)) rfl g_is_name F_is_name.kp B_is_name .nil pass0 (pa_cons (pv 1) pa_nil)) pa_nil)))
 (pss_one (ps_ret (pv 1))))), ?_⟩
    walk_at "rd"
    refine i_meth ?_
    walk_at "rd"
    refine ⟨x, dx, _, rfl, hx, rfl, ?_⟩
    walk_at "rd"
    refine ⟨x, ws, k, c, rfl, ⟨dx, i, l, hx, hl⟩, hz, hk, fun H1 of1 ph1 => ?_⟩
    walk_at "rd"
    obtain ⟨dx2, i2, l2, hx2, hl2⟩ := ph1
    refine i_meth ?_
    walk_at "rd"
    refine ⟨x, dx2, _, rfl, hx2, rfl, ?_⟩
    walk_at "rd"
    refine ⟨c, rfl, hc, fun H2 s2 => ?_⟩
    walk_at "rd"
    refine ⟨_, rfl, ?_⟩
    walk_at "rd"
    exact q H2 (Off.trans of1 (off_of s2)) ⟨dx2, i2, l2, s2 _ _ hx2, s2 _ _ hl2⟩
abbrev s_Phrase_next_ranges : Stmt := inClass (top 34) 11
theorem sc_Phrase_next_ranges : FnScope ["self", "found"] ["self"] (defScope s_Phrase_next_ranges) := ⟨rfl, rfl, rfl, by decide +kernel, rfl, by decide +kernel, by decide +kernel⟩
def sp_pnext (C CP : Addr) : Sp := fun vs H Q _ => ∃ x ws, ∃ (k : Nat) (ps : List Stc), vs = [.ref x] ∧ Phr CP H x ws k ∧ ws.length ≤ 1000 ∧ ws[k]? = some (partsT ps) ∧ Canon ps ∧ (∀ s, s ∈ ps → FewS s) ∧ ps.length ≤ 100 ∧ ∀ r H', Off x H H' → Phr CP H' x ws ((k : Int) + 1) → Rng C H' r ps → Q (.ref r) H'
theorem ok_pnext {fR : Addr} {fd fdR : FuncData} (F : Fun K "next_ranges" "Phrase.next_ranges" s_Phrase_next_ranges hR fd) (TP : ClsP K mg CP fPI hM hN hC hE hR hA hQ hF) (MP : ClsP K mg CP fPI hM hN hC hE hR hA hQ hF)
    (RP_next_word : FnR P w K mg base CX0 2 hN (fun vs H Q E => sp_word CP (vs ++ []) H Q E)) (RP_check : FnR P w K mg base CX0 1 hC (fun vs H Q E => sp_check (vs ++ []) H Q E))
    (F_ranges_in : Fun K "ranges_in" "ranges_in" s_ranges_in fR fdR) (B_ranges_in : Binds K fdR ["word"] []) (g_ranges_in : mg "ranges_in" = some (.ref fR)) (G_ranges_in : FnOk P w K mg base CX0 5 fR fdR ["word"] (sp_ranges_in C)) : FnOk P w K mg base CX0 6 hR fd ["self"] (sp_pnext C CP) := by
  refine F.ok sc_Phrase_next_ranges (fun vs H Q E h => ?_) (fun cdv A outer s H vs Q E hr h => ?_)
  · obtain ⟨x, ws, k, ps, rfl, _⟩ := h
    rfl
  · obtain ⟨x, ws, k, ps, rfl, ⟨dx, i, l, hx, hl⟩, hz1, hk, hc, hf, hz, q⟩ := h
    refine ⟨_, (pss_cons (ps_set (i := 1) sc_Phrase_next_ranges.nd rfl (Or.inl rfl) (pe_call G_ranges_in (hr.mono (by decide)) rfl g_ranges_in F_ranges_in.kp B_ranges_in .nil pass0 (pa_cons (pe_meth0R (pv 0) TP.cl MP.next_word RP_next_word (hr.mono (by decide)) pass0) pa_nil)))
 (pss_cons (ps_expr (pe_methR (pv 0) TP.cl MP.check RP_check (hr.mono (by decide)) pass0 (pa_cons (pe_cmpR op_notN (pv 1) pe_non (nomark _)) pa_nil)))
 (pss_one (ps_ret (pv 1))))), ?_⟩
    walk_at "rd"
    refine i_meth ?_
    walk_at "rd"
    refine ⟨x, dx, _, rfl, hx, rfl, ?_⟩
    walk_at "rd"
    refine ⟨x, ws, k, partsT ps, rfl, ⟨dx, i, l, hx, hl⟩, hz1, hk, fun H1 of1 ph1 => ?_⟩
    walk_at "rd"
    refine ⟨ps, rfl, hc, hf, hz, fun r H2 s2 hr2 => ?_⟩
    walk_at "rd"
    obtain ⟨dx2, i2, l2, hx2, hl2⟩ := ph1.up s2
    refine i_meth ?_
    walk_at "rd"
    refine ⟨x, dx2, _, rfl, hx2, rfl, ?_⟩
    walk_at "rd"
    refine ⟨_, rfl, ?_⟩
    dsimp only
    walk_at "rd"
    exact q r H2 (Off.trans of1 (off_of s2)) ⟨dx2, i2, l2, hx2, hl2⟩ hr2
/-- words of a line -/
structure Line (w0 : Str) (ws : List Str) : Prop where
  e : w0 = Txt.join " " ws
  ne : ws ≠ []
  no : ∀ x, x ∈ ws → 32 ∉ tl x ∧ 10 ∉ tl x
  le : w0.length ≤ 90000
  few : ws.length ≤ 1000
theorem Line.no10 {w0 : Str} {ws : List Str} (h : Line w0 ws) : 10 ∉ tl w0 := by
  rw [h.e, join_eq, tl_join]
  refine joinL_free (by show 10 ∉ [32]; decide) fun p hp => ?_
  obtain ⟨z, hz, rfl⟩ := List.mem_map.mp hp
  exact (h.no z hz).2
abbrev s_phrases_in : Stmt := top 43
theorem sc_phrases_in : FnScope ["lines", "at", "line"] ["lines"] (defScope s_phrases_in) := ⟨rfl, rfl, rfl, by decide +kernel, rfl, by decide +kernel, by decide +kernel⟩
def sp_pin (CP : Addr) : Sp := fun vs H Q _ => ∃ l w0 ws, vs = [.ref l] ∧ H l = some (.lst [.str w0]) ∧ Line w0 ws ∧ ∀ p x H', Same H H' → H' p = some (.lst [.ref x]) → H x = none → Phr CP H' x ws 0 → Q (.ref p) H'
theorem ok_pin {f : Addr} {fd fdI : FuncData} (F : Fun K "phrases_in" "phrases_in" s_phrases_in f fd) (TP : ClsP K mg CP fPI hM hN hC hE hR hA hQ hF) (RPI : FnR P w K mg base CX0 1 fPI (spPI CP)) (z_enumerate : mg "enumerate" = none) : FnOk P w K mg base CX0 3 f fd ["lines"] (sp_pin CP) := by
  have MkP := TP.M
  have g_Phrase := TP.g_Phrase
  refine F.ok sc_phrases_in (fun vs H Q E h => ?_) (fun cdv A outer s H vs Q E hr h => ?_)
  · obtain ⟨l, w0, ws, rfl, _⟩ := h
    rfl
  · obtain ⟨l, w0, ws, rfl, hl, hw, q⟩ := h
    have hz := hw.le
    refine ⟨_, (pss_one (ps_ret (pe_lc (own := [("at", 1), ("line", 2)]) (g := gTup K 2 (gCons (gName 1) (gCons (gName 2) gNil))) (tt := tYes) rfl sc_phrases_in.nd (pi_enum (by rfl) z_enumerate (pa_cons (pv 0) pa_nil)) (blkOk_by (own := [("at", 1), ("line", 2)]) (N := ["lines", "at", "line"]) (sc := defScope s_phrases_in) (by decide +kernel)) (fun _ _ _ _ _ => pg_tup (by rfl) (pgs_cons (pg_name (i := 1) sc_phrases_in.nd rfl (Or.inl rfl)) (pgs_cons (pg_name (i := 2) sc_phrases_in.nd rfl (Or.inl rfl)) pgs_nil))) (fun _ _ _ _ _ => pts_nil) (fun _ _ _ _ _ => (StX.pe_makeR MkP RPI (hr.mono (by decide)) rfl g_Phrase pass0 (pa_cons (pv 1) (pa_cons (pe_split (pv 2) pe_str) pa_nil))))))), ?_⟩
    walk_at "rd"
    unfold tLc
    refine i_iE ?_
    walk_at "rd"
    refine ⟨l, _, rfl, SqL.of hl, fun D hD => ?_⟩
    obtain ⟨H1, e1, s1, h1⟩ := new_heap (o := .lst []) hD
    refine lc_it (walk_enum (K := K) (a := l) (xs := [V.str w0])) (fun m H' => Same H H' ∧ ∃ acc, H' D = some (.lst acc) ∧ (m = 0 → acc = []) ∧ (m = 1 → ∃ x, acc = [.ref x] ∧ H x = none ∧ Phr CP H' x ws 0)) ⟨by rw [e1]; exact s1, [], by rw [e1]; exact h1, fun _ => rfl, fun z => absurd z (by decide)⟩ ?_ ?_ ?_
    · rintro m H' _ ⟨s2, _⟩
      exact SqL.of (s2 _ _ hl)
    · rintro m y H2 _ hm ⟨s2, acc, h2, a0, _⟩ ⟨t2, c', v, rfl, ht2, rfl, ec, ev⟩
      obtain rfl : m = 0 := by simpa using hm
      obtain rfl : v = .str w0 := by simpa using ev.symm
      obtain rfl := a0 rfl
      have ec' := Option.some.inj ec
      subst ec'
      obtain ⟨H3, e3, s3, h3⟩ := new_heap (o := .tup [.int ((0 : Nat) : Int), .str w0]) ht2
      rw [e3]
      refine i_gtup h3 rfl (i_gcons ?_)
      walk_at "rd"
      refine ⟨rfl, i_yes (iteT ?_)⟩
      unfold StX.tMakeR
      walk_at "rd"
      refine i_m1 ?_
      walk_at "rd"
      refine ⟨⟨_, rfl⟩, ?_⟩
      walk_at "rd"
      refine ⟨_, _, rfl, rfl, rfl, size_of (by omega), fun lp hlp => ?_⟩
      rw [show Txt.split w0 (Str.ofString " ") = ws from by
        rw [hw.e]
        exact split_join (y := Str.ofString " ") (s := 32) (S := []) rfl (by decide +kernel) hw.ne fun p hp => (hw.no p hp).1]
      obtain ⟨H4, e4, s4, h4⟩ := new_heap (o := .lst (ws.map V.str)) hlp
      show tNil _ (upd H3 lp (.lst (ws.map V.str))) _
      rw [e4]
      walk_at "rd"
      refine mk_phr (ws := ws) h4 fun x H5 s5 hx ph => ?_
      have s45 : Same H2 H5 := fun b o z => s5 _ _ (s4 _ _ (s3 _ _ z))
      have s05 : Same H H5 := fun b o z => s45 _ _ (s2 _ _ z)
      refine ⟨[], s45 _ _ h2, size_lt (by decide), Same.mut s05 hD, [.ref x], upd_same, fun z => absurd z (by decide), fun _ => ⟨x, rfl, ?_, ?_⟩⟩
      · exact none_of (fun b o z => s4 _ _ (s3 _ _ (s2 _ _ z))) hx
      · obtain ⟨dx, i, l', hx5, hl5⟩ := ph
        have hD5 := s45 _ _ h2
        refine ⟨dx, i, l', ?_, ?_⟩
        · rw [upd_ne (fun z => by rw [z, hD5] at hx5; cases hx5)]
          exact hx5
        · have : l' ≠ D := fun z => by
            rw [z, hD5] at hl5
            have e := HO.lst.inj (Option.some.inj hl5)
            exact hw.ne (List.map_eq_nil_iff.mp e.symm)
          rw [upd_ne this]
          exact hl5
    · rintro H' ⟨s2, acc, h2, _, a1⟩
      obtain ⟨x, rfl, hx, ph⟩ := a1 rfl
      exact q D x H' s2 h2 hx ph
abbrev s_phrases_of : Stmt := top 42
theorem sc_phrases_of : FnScope ["text"] ["text"] (defScope s_phrases_of) := ⟨rfl, rfl, rfl, by decide +kernel, rfl, by decide +kernel, by decide +kernel⟩
def sp_pof (CP : Addr) : Sp := fun vs H Q _ => ∃ w0 ws, vs = [.str w0] ∧ Line w0 ws ∧ ∀ p x H', Same H H' → H' p = some (.lst [.ref x]) → H x = none → Phr CP H' x ws 0 → Q (.ref p) H'
theorem ok_pof {f fN : Addr} {fd fdN : FuncData} (F : Fun K "phrases_of" "phrases_of" s_phrases_of f fd) (F_phrases_in : Fun K "phrases_in" "phrases_in" s_phrases_in fN fdN) (B_phrases_in : Binds K fdN ["lines"] []) (g_phrases_in : mg "phrases_in" = some (.ref fN)) (G_phrases_in : FnOk P w K mg base CX0 3 fN fdN ["lines"] (sp_pin CP))
    (z_isinstance : mg "isinstance" = none) (z_str : mg "str" = none) : FnOk P w K mg base CX0 4 f fd ["text"] (sp_pof CP) := by
  refine F.ok sc_phrases_of (fun vs H Q E h => ?_) (fun cdv A outer s H vs Q E hr h => ?_)
  · obtain ⟨w0, ws, rfl, _⟩ := h
    rfl
  · obtain ⟨w0, ws, rfl, hw, q⟩ := h
    have hz := hw.le
    refine ⟨_, (pss_cons (ps_if (pt_not (pt_val (pe_callB call_isi (by rfl) z_isinstance (by decide +kernel) (pa_cons (pv 0) (pa_cons (pe_bltn (v := .ty "str") (u := .type "str") (by rfl) z_str (by decide +kernel) rfl) pa_nil)))))
 (pss_one ps_dead)
 pss_nil)
 (pss_one (ps_ret (pe_call G_phrases_in (hr.mono (by decide)) rfl g_phrases_in F_phrases_in.kp B_phrases_in .nil pass0 (pa_cons (pe_split (pv 0) pe_str) pa_nil))))), ?_⟩
    walk_at "rd"
    refine ⟨_, _, _, _, true, rfl, .ty "str", .base (.str w0), kit_ty (by decide +kernel), true, rfl, iteF ?_⟩
    walk_at "rd"
    refine i_m1 ?_
    walk_at "rd"
    refine ⟨⟨_, rfl⟩, ?_⟩
    walk_at "rd"
    refine ⟨_, _, rfl, rfl, rfl, size_of (by omega), fun lp hlp => ?_⟩
    rw [split_whole (y := Str.ofString "\n") (s := 10) rfl (by decide +kernel) hw.no10]
    obtain ⟨H1, e1, s1, h1⟩ := new_heap (o := .lst [V.str w0]) hlp
    show tNil _ (upd H lp (.lst [V.str w0])) _
    rw [e1]
    walk_at "rd"
    exact ⟨lp, w0, ws, rfl, h1, hw, fun p x H' s2 hp hx ph => q p x H' (fun b o z => s2 _ _ (s1 _ _ z)) hp (none_of s1 hx) ph⟩
abbrev s_end_of_line : Stmt := top 44
theorem sc_end_of_line : FnScope ["phrases"] ["phrases"] (defScope s_end_of_line) := ⟨rfl, rfl, rfl, by decide +kernel, rfl, by decide +kernel, by decide +kernel⟩
def sp_eol (CP : Addr) : Sp := fun vs H Q _ => ∃ p x ws, vs = [.ref p] ∧ H p = some (.lst [.ref x]) ∧ Phr CP H x ws ws.length ∧ ws.length ≤ 1000 ∧ Q .non H
theorem ok_eol {f : Addr} {fd : FuncData} (F : Fun K "end_of_line" "end_of_line" s_end_of_line f fd) (TP : ClsP K mg CP fPI hM hN hC hE hR hA hQ hF) (MP : ClsP K mg CP fPI hM hN hC hE hR hA hQ hF) (RP_end : FnR P w K mg base CX0 2 hE (fun vs H Q E => sp_pend CP (vs ++ []) H Q E)) (z_len : mg "len" = none) : FnOk P w K mg base CX0 3 f fd ["phrases"] (sp_eol CP) := by
  refine F.ok sc_end_of_line (fun vs H Q E h => ?_) (fun cdv A outer s H vs Q E hr h => ?_)
  · obtain ⟨p, x, ws, rfl, _⟩ := h
    rfl
  · obtain ⟨p, x, ws, rfl, hp, ph, hz, q⟩ := h
    refine ⟨_, (pss_cons (ps_expr (pe_meth0R (pe_ix ix_list (pv 0) pe_int (fun _ _ => rfl)) TP.cl MP.ends RP_end (hr.mono (by decide)) pass0))
 (pss_one (ps_if (pt_cmpR op_gt (pe_callB call_len_seq (by rfl) z_len PySem.boot_len (pa_cons (pv 0) pa_nil)) pe_int (nomark _))
 (pss_one ps_dead)
 pss_nil))), ?_⟩
    walk_at "rd"
    refine i_meth ?_
    walk_at "rd"
    obtain ⟨dx, i, l, hx, hl⟩ := ph
    refine ⟨x, dx, _, rfl, hx, rfl, ?_⟩
    walk_at "rd"
    refine ⟨x, ws, _, rfl, ⟨dx, i, l, hx, hl⟩, hz, Int.le_refl _, ?_⟩
    walk_at "rd"
    exact q
end
end Spk

set_option Elab.async false
set_option linter.all false
set_option maxRecDepth 100000
set_option maxHeartbeats 1000000
namespace Spk
open PySem L2
local macro_rules | `(tactic| walk_at "rd") => `(tactic| repeat (first
  | with_reducible refine i_seq ?_ | with_reducible refine i_asg ?_ | with_reducible refine i_ret ?_ | with_reducible refine i_ifS ?_ | with_reducible refine i_if ?_
  | with_reducible refine i_for ?_ | with_reducible refine i_iL ?_ | with_reducible refine i_iT ?_ | with_reducible refine i_ckw ?_ | with_reducible refine i_cm ?_ | with_reducible refine And.intro (rfl : V.ref _ = V.ref _) ?_ | with_reducible refine i_rng1 ?_ | with_reducible refine i_bm ?_ | with_reducible refine i_bm0 ?_
  | with_reducible refine i_drop ?_ | with_reducible refine i_next ?_
  | with_reducible refine i_var rfl ?_ | with_reducible refine i_c ?_ | with_reducible refine i_op ?_ | with_reducible refine i_un ?_ | with_reducible refine i_name ?_
  | with_reducible refine i_rI0 ?_ | with_reducible refine i_rU ?_ | with_reducible refine i_rEq rfl ?_ | with_reducible refine i_rNe rfl ?_
  | with_reducible refine i_test ?_ | with_reducible refine i_tB ?_ | with_reducible refine i_and ?_ | with_reducible refine i_or ?_ | with_reducible refine i_not ?_
  | with_reducible refine i_andV ?_ | with_reducible refine i_orV ?_ | with_reducible refine i_notV ?_
  | with_reducible refine i_cons ?_ | with_reducible refine i_nil ?_ | with_reducible refine i_cb ?_ | with_reducible refine i_call ?_ | with_reducible refine i_bl ?_
  | with_reducible refine i_tup ?_ | with_reducible refine i_lst ?_ | with_reducible refine i_par ?_ | with_reducible refine i_gcons ?_ | with_reducible refine i_gnil ?_
  | with_reducible refine And.intro (rfl : V.non = V.non) ?_ | with_reducible refine i_ixT (by assumption) rfl ?_ | with_reducible refine i_ixL (by assumption) rfl ?_ | with_reducible refine i_gtup (by assumption) rfl ?_
  | with_reducible refine i_gsub ?_
  | with_reducible refine Or.inl (Exists.intro _ (And.intro (rfl : [V.int _] = [V.int _]) ?_)) | with_reducible refine Exists.intro _ (And.intro (rfl : [V.int _] = [V.int _]) ?_)
  | with_reducible refine Or.inr (Exists.intro _ (And.intro (rfl : [V.bl _] = [V.bl _]) ?_))
  | with_reducible refine Exists.intro _ (Exists.intro _ (And.intro (rfl : [V.int _, V.int _] = [V.int _, V.int _]) ?_))
  | with_reducible refine Exists.intro _ (Exists.intro _ (And.intro (rfl : [V.ref _] = [V.ref _]) (And.intro (Or.inl (SqL.of (by assumption))) ?_)))
  | with_reducible refine i_rI (show (0 : Int) < _ by assumption) ?_ | with_reducible refine i_rI (show (0 : Int) < _ by decide) ?_
  | with_reducible refine i_rI (pow_ok (Nat.le_of_ble_eq_true rfl) (Nat.le_of_ble_eq_true rfl)) ?_
  | with_reducible refine i_rI (cmulL rfl) ?_))
/-! ### three truths -/
/-- a truth as a value -/
def tv : Option Bool → V
  | none => .non
  | some b => .bl b
def and3 (a b : Option Bool) : Option Bool := if a = some false ∨ b = some false then some false else if a = none ∨ b = none then none else some true
def or3 (a b : Option Bool) : Option Bool := if a = some true ∨ b = some true then some true else if a = none ∨ b = none then none else some false
def not3 (a : Option Bool) : Option Bool := a.map fun b => !b
theorem tv_non (a : Option Bool) : decide (tv a = .non) = decide (a = none) := by
  cases a <;> rfl
/-- x is True, x is False of a truth -/
theorem op_isTr {X : Cx} : OpR X (compareOp .Is) (fun x y H Q => ∃ (a : Option Bool) (b : Bool), x = tv a ∧ y = .bl b ∧ Q (.bl (decide (a = some b))) H) := by
  intro pins s σ H x y v u Q I rx ry h
  obtain ⟨a, b, rfl, rfl, q⟩ := h
  cases a with
  | some c =>
    refine op_isBl pins s σ H (.bl c) (.bl b) v u Q I rx ry ⟨c, b, rfl, rfl, ?_⟩
    have e : decide (c = b) = decide (some c = some b) := by cases c <;> cases b <;> rfl
    rw [e]
    exact q
  | none =>
    cases (show v = Value.none from rx)
    cases (show u = Value.bool b from ry)
    exact wpAny_is_other rfl (fun z => nomatch z) ⟨.bl false, H, I, rfl, q⟩
section
variable {P : Program} {w : World} {K : PySem.W.Frag} {mg : Str → Option Value} {base : Heap}
abbrev s_both : Stmt := top 21
theorem sc_both : FnScope ["one", "other"] ["one", "other"] (defScope s_both) := ⟨rfl, rfl, rfl, by decide +kernel, rfl, by decide +kernel, by decide +kernel⟩
def sp_both : Sp := fun vs H Q _ => ∃ a b, vs = [tv a, tv b] ∧ Q (tv (and3 a b)) H
theorem ok_both {f : Addr} {fd : FuncData} (F : Fun K "both" "both" s_both f fd) : FnOk P w K mg base CX0 1 f fd ["one", "other"] sp_both := by
  refine F.ok sc_both (fun vs H Q E h => ?_) (fun cdv A outer s H vs Q E hr h => ?_)
  · obtain ⟨a, b, rfl, _⟩ := h
    rfl
  · obtain ⟨a, b, rfl, q⟩ := h
    refine ⟨_, (pss_cons (ps_if (PW.pt (pw_or (pt_cmpR op_isTr (pv 0) pe_bl (nomark _)) (pw_or1 (pt_cmpR op_isTr (pv 1) pe_bl (nomark _)))))
 (pss_one (ps_ret pe_bl))
 pss_nil)
 (pss_cons (ps_if (PW.pt (pw_or (pt_cmpR op_isN (pv 0) pe_non (nomark _)) (pw_or1 (pt_cmpR op_isN (pv 1) pe_non (nomark _)))))
 (pss_one (ps_ret pe_non))
 pss_nil)
 (pss_one (ps_ret pe_bl)))), ?_⟩
    walk_at "rd"
    have fin : ∀ c, and3 a b = c → Q (tv c) H := fun c e => by rw [← e]; exact q
    refine ⟨a, false, rfl, rfl, _, rfl, ite_d (fun h1 => ?_) (fun h1 => ?_)⟩
    · walk_at "rd"
      exact fin (some false) (by simp [and3, h1])
    · walk_at "rd"
      refine ⟨b, false, rfl, rfl, _, rfl, ite_d (fun h2 => ?_) (fun h2 => ?_)⟩
      · walk_at "rd"
        exact fin (some false) (by simp [and3, h2])
      · walk_at "rd"
        rw [tv_non]
        refine ite_d (fun h3 => ?_) (fun h3 => ?_)
        · walk_at "rd"
          exact fin none (by simp [and3, h1, h2, h3])
        · walk_at "rd"
          rw [tv_non]
          refine ite_d (fun h4 => ?_) (fun h4 => ?_)
          · walk_at "rd"
            exact fin none (by simp [and3, h1, h2, h4])
          · walk_at "rd"
            exact fin (some true) (by simp [and3, h1, h2, h3, h4])
abbrev s_either : Stmt := top 22
theorem sc_either : FnScope ["one", "other"] ["one", "other"] (defScope s_either) := ⟨rfl, rfl, rfl, by decide +kernel, rfl, by decide +kernel, by decide +kernel⟩
def sp_either : Sp := fun vs H Q _ => ∃ a b, vs = [tv a, tv b] ∧ Q (tv (or3 a b)) H
theorem ok_either {f : Addr} {fd : FuncData} (F : Fun K "either" "either" s_either f fd) : FnOk P w K mg base CX0 1 f fd ["one", "other"] sp_either := by
  refine F.ok sc_either (fun vs H Q E h => ?_) (fun cdv A outer s H vs Q E hr h => ?_)
  · obtain ⟨a, b, rfl, _⟩ := h
    rfl
  · obtain ⟨a, b, rfl, q⟩ := h
    refine ⟨_, (pss_cons (ps_if (PW.pt (pw_or (pt_cmpR op_isTr (pv 0) pe_bl (nomark _)) (pw_or1 (pt_cmpR op_isTr (pv 1) pe_bl (nomark _)))))
 (pss_one (ps_ret pe_bl))
 pss_nil)
 (pss_cons (ps_if (PW.pt (pw_or (pt_cmpR op_isN (pv 0) pe_non (nomark _)) (pw_or1 (pt_cmpR op_isN (pv 1) pe_non (nomark _)))))
 (pss_one (ps_ret pe_non))
 pss_nil)
 (pss_one (ps_ret pe_bl)))), ?_⟩
    walk_at "rd"
    have fin : ∀ c, or3 a b = c → Q (tv c) H := fun c e => by rw [← e]; exact q
    refine ⟨a, true, rfl, rfl, _, rfl, ite_d (fun h1 => ?_) (fun h1 => ?_)⟩
    · walk_at "rd"
      exact fin (some true) (by simp [or3, h1])
    · walk_at "rd"
      refine ⟨b, true, rfl, rfl, _, rfl, ite_d (fun h2 => ?_) (fun h2 => ?_)⟩
      · walk_at "rd"
        exact fin (some true) (by simp [or3, h2])
      · walk_at "rd"
        rw [tv_non]
        refine ite_d (fun h3 => ?_) (fun h3 => ?_)
        · walk_at "rd"
          exact fin none (by simp [or3, h1, h2, h3])
        · walk_at "rd"
          rw [tv_non]
          refine ite_d (fun h4 => ?_) (fun h4 => ?_)
          · walk_at "rd"
            exact fin none (by simp [or3, h1, h2, h4])
          · walk_at "rd"
            exact fin (some false) (by simp [or3, h1, h2, h3, h4])
abbrev s_negated : Stmt := top 23
theorem sc_negated : FnScope ["truth"] ["truth"] (defScope s_negated) := ⟨rfl, rfl, rfl, by decide +kernel, rfl, by decide +kernel, by decide +kernel⟩
def sp_negated : Sp := fun vs H Q _ => ∃ a, vs = [tv a] ∧ Q (tv (not3 a)) H
theorem ok_negated {f : Addr} {fd : FuncData} (F : Fun K "negated" "negated" s_negated f fd) : FnOk P w K mg base CX0 1 f fd ["truth"] sp_negated := by
  refine F.ok sc_negated (fun vs H Q E h => ?_) (fun cdv A outer s H vs Q E hr h => ?_)
  · obtain ⟨a, rfl, _⟩ := h
    rfl
  · obtain ⟨a, rfl, q⟩ := h
    refine ⟨_, (pss_one (ps_ret (pe_ifExp (pt_cmpR op_isN (pv 0) pe_non (nomark _)) pe_non (pe_not (pv 0))))), ?_⟩
    cases a with
    | none =>
      walk_at "rd"
      refine ite_d (fun _ => ?_) (fun h => absurd rfl h)
      walk_at "rd"
      exact q
    | some b =>
      walk_at "rd"
      refine ite_d (fun h => nomatch h) (fun _ => ?_)
      walk_at "rd"
      exact ⟨b, rfl, q⟩
abbrev s_truth_within : Stmt := top 20
theorem sc_truth_within : FnScope ["value", "parts"] ["value", "parts"] (defScope s_truth_within) := ⟨rfl, rfl, rfl, by decide +kernel, rfl, by decide +kernel, by decide +kernel⟩
/-- what a condition says of a value -/
def wi3 (ps : List Stc) : Option Int → Option Bool
  | none => none
  | some n => some (hasL ps n)
def sp_truth_within : Sp := fun vs H Q _ => ∃ (o : Option Int) (t : Addr) (ps : List Stc), vs = [ov o, .ref t] ∧ PartsT H t ps ∧ Canon ps ∧ Q (tv (wi3 ps o)) H
theorem ok_truth_within {f fP : Addr} {fd fdP : FuncData} (F : Fun K "truth_within" "truth_within" s_truth_within f fd) (F_in_parts : Fun K "in_parts" "in_parts" s_in_parts fP fdP) (B_in_parts : Binds K fdP ["parts", "number"] []) (g_in_parts : mg "in_parts" = some (.ref fP))
    (G_in_parts : FnOk P w K mg base CX0 1 fP fdP ["parts", "number"] sp_in_parts) : FnOk P w K mg base CX0 2 f fd ["value", "parts"] sp_truth_within := by
  refine F.ok sc_truth_within (fun vs H Q E h => ?_) (fun cdv A outer s H vs Q E hr h => ?_)
  · obtain ⟨o, t, ps, rfl, _⟩ := h
    rfl
  · obtain ⟨o, t, ps, rfl, pt, ca, q⟩ := h
    refine ⟨_, (pss_one (ps_ret (pe_ifExp (pt_cmpR op_isN (pv 0) pe_non (nomark _)) pe_non (pe_call G_in_parts (hr.mono (by decide)) rfl g_in_parts F_in_parts.kp B_in_parts .nil pass0 (pa_cons (pv 1) (pa_cons (pv 0) pa_nil)))))), ?_⟩
    cases o with
    | none =>
      walk_at "rd"
      refine ite_d (fun _ => ?_) (fun h => absurd rfl h)
      walk_at "rd"
      exact q
    | some n =>
      walk_at "rd"
      refine ite_d (fun h => nomatch h) (fun _ => ?_)
      walk_at "rd"
      exact ⟨t, ps, n, rfl, pt, ca, q⟩
end
end Spk

set_option Elab.async false
set_option linter.all false
set_option maxRecDepth 100000
set_option maxHeartbeats 1000000
namespace Spk
open PySem L2
local macro_rules | `(tactic| walk_at "rd") => `(tactic| repeat (first
  | with_reducible refine i_seq ?_ | with_reducible refine i_asg ?_ | with_reducible refine i_ret ?_ | with_reducible refine i_ifS ?_ | with_reducible refine i_if ?_
  | with_reducible refine i_for ?_ | with_reducible refine i_iL ?_ | with_reducible refine i_iT ?_ | with_reducible refine i_ckw ?_ | with_reducible refine i_cm ?_ | with_reducible refine And.intro (rfl : V.ref _ = V.ref _) ?_ | with_reducible refine i_rng1 ?_ | with_reducible refine i_bm ?_ | with_reducible refine i_bm0 ?_
  | with_reducible refine i_drop ?_ | with_reducible refine i_next ?_
  | with_reducible refine i_var rfl ?_ | with_reducible refine i_c ?_ | with_reducible refine i_op ?_ | with_reducible refine i_un ?_ | with_reducible refine i_name ?_
  | with_reducible refine i_rI0 ?_ | with_reducible refine i_rU ?_ | with_reducible refine i_rEq rfl ?_ | with_reducible refine i_rNe rfl ?_
  | with_reducible refine i_test ?_ | with_reducible refine i_tB ?_ | with_reducible refine i_and ?_ | with_reducible refine i_or ?_ | with_reducible refine i_not ?_
  | with_reducible refine i_andV ?_ | with_reducible refine i_orV ?_ | with_reducible refine i_notV ?_
  | with_reducible refine i_cons ?_ | with_reducible refine i_nil ?_ | with_reducible refine i_cb ?_ | with_reducible refine i_call ?_ | with_reducible refine i_bl ?_
  | with_reducible refine i_tup ?_ | with_reducible refine i_lst ?_ | with_reducible refine i_par ?_ | with_reducible refine i_gcons ?_ | with_reducible refine i_gnil ?_
  | with_reducible refine And.intro (rfl : V.non = V.non) ?_ | with_reducible refine i_ixT (by assumption) rfl ?_ | with_reducible refine i_ixL (by assumption) rfl ?_ | with_reducible refine i_gtup (by assumption) rfl ?_
  | with_reducible refine i_gsub ?_
  | with_reducible refine Or.inl (Exists.intro _ (And.intro (rfl : [V.int _] = [V.int _]) ?_)) | with_reducible refine Exists.intro _ (And.intro (rfl : [V.int _] = [V.int _]) ?_)
  | with_reducible refine Or.inr (Exists.intro _ (And.intro (rfl : [V.bl _] = [V.bl _]) ?_))
  | with_reducible refine Exists.intro _ (Exists.intro _ (And.intro (rfl : [V.int _, V.int _] = [V.int _, V.int _]) ?_))
  | with_reducible refine Exists.intro _ (Exists.intro _ (And.intro (rfl : [V.ref _] = [V.ref _]) (And.intro (Or.inl (SqL.of (by assumption))) ?_)))
  | with_reducible refine i_rI (show (0 : Int) < _ by assumption) ?_ | with_reducible refine i_rI (show (0 : Int) < _ by decide) ?_
  | with_reducible refine i_rI (pow_ok (Nat.le_of_ble_eq_true rfl) (Nat.le_of_ble_eq_true rfl)) ?_
  | with_reducible refine i_rI (cmulL rfl) ?_))
/-! ### trees of filters -/
inductive Tr where
  | wi (c : Str) (ps : List Stc)
  | mi (c : Str)
  | al
  | ne
  | an (l r : Tr)
  | ou (l r : Tr)
  | no (t : Tr)
  deriving DecidableEq
namespace Tr
/-- what the tree says of values by columns -/
def sem (ρ : Str → Option Int) : Tr → Option Bool
  | wi c ps => wi3 ps (ρ c)
  | mi c => some (ρ c).isNone
  | al => some true
  | ne => some false
  | an l r => and3 (sem ρ l) (sem ρ r)
  | ou l r => or3 (sem ρ l) (sem ρ r)
  | no t => not3 (sem ρ t)
/-- its columns, some several times -/
def cols : Tr → List Str
  | wi c _ => [c]
  | mi c => [c]
  | al => []
  | ne => []
  | an l r => cols l ++ cols r
  | ou l r => cols l ++ cols r
  | no t => cols t
def deep : Tr → Nat
  | wi _ _ => 1
  | mi _ => 1
  | al => 1
  | ne => 1
  | an l r => max (deep l) (deep r) + 1
  | ou l r => max (deep l) (deep r) + 1
  | no t => deep t + 1
/-- its conditions -/
def many : Tr → Nat
  | wi _ _ => 1
  | mi _ => 1
  | al => 1
  | ne => 1
  | an l r => many l + many r
  | ou l r => many l + many r
  | no t => many t
end Tr
/-- the value is the tree's tuple -/
def TreeAt (H : Hp) : Tr → V → Prop
  | .wi c ps, v => ∃ a p, v = .ref a ∧ H a = some (.tup [.str "within", .str c, .ref p]) ∧ PartsT H p ps ∧ Canon ps
  | .mi c, v => ∃ a, v = .ref a ∧ H a = some (.tup [.str "missing", .str c])
  | .al, v => ∃ a, v = .ref a ∧ H a = some (.tup [.str "always"])
  | .ne, v => ∃ a, v = .ref a ∧ H a = some (.tup [.str "never"])
  | .an l r, v => ∃ a x y, v = .ref a ∧ H a = some (.tup [.str "and", x, y]) ∧ TreeAt H l x ∧ TreeAt H r y
  | .ou l r, v => ∃ a x y, v = .ref a ∧ H a = some (.tup [.str "or", x, y]) ∧ TreeAt H l x ∧ TreeAt H r y
  | .no t, v => ∃ a x, v = .ref a ∧ H a = some (.tup [.str "not", x]) ∧ TreeAt H t x
/-- from one heap into another one -/
theorem TreeAt.via {H H' : Hp} (e1 : ∀ a xs, H a = some (.tup xs) → H' a = some (.tup xs)) (e2 : ∀ a ps, PartsT H a ps → PartsT H' a ps) : ∀ {t : Tr} {v : V}, TreeAt H t v → TreeAt H' t v
  | .wi c ps, v, h => by
    obtain ⟨a, p, e, h1, h2, h3⟩ := h
    exact ⟨a, p, e, e1 _ _ h1, e2 _ _ h2, h3⟩
  | .mi c, v, h => by
    obtain ⟨a, e, h1⟩ := h
    exact ⟨a, e, e1 _ _ h1⟩
  | .al, v, h => by
    obtain ⟨a, e, h1⟩ := h
    exact ⟨a, e, e1 _ _ h1⟩
  | .ne, v, h => by
    obtain ⟨a, e, h1⟩ := h
    exact ⟨a, e, e1 _ _ h1⟩
  | .an l r, v, h => by
    obtain ⟨a, x, y, e, h1, h2, h3⟩ := h
    exact ⟨a, x, y, e, e1 _ _ h1, TreeAt.via e1 e2 h2, TreeAt.via e1 e2 h3⟩
  | .ou l r, v, h => by
    obtain ⟨a, x, y, e, h1, h2, h3⟩ := h
    exact ⟨a, x, y, e, e1 _ _ h1, TreeAt.via e1 e2 h2, TreeAt.via e1 e2 h3⟩
  | .no t, v, h => by
    obtain ⟨a, x, e, h1, h2⟩ := h
    exact ⟨a, x, e, e1 _ _ h1, TreeAt.via e1 e2 h2⟩
theorem TreeAt.up {H H' : Hp} (e : Same H H') {t : Tr} {v : V} (h : TreeAt H t v) : TreeAt H' t v := h.via (fun _ _ z => e _ _ z) fun _ _ z => z.up e
theorem TreeAt.keep {H H' : Hp} (e : Keep H H') {t : Tr} {v : V} (h : TreeAt H t v) : TreeAt H' t v := h.via (fun _ _ z => e _ _ rfl z) fun _ _ z => z.keep e
/-- a dict of values by columns -/
def ValsAt (H : Hp) (m : Addr) (ρ : Str → Option Int) (cs : List Str) : Prop := ∃ kvs, H m = some (.dK kvs) ∧ ∀ c, c ∈ cs → valV kvs (Sum.inr c) = some (ov (ρ c))
theorem ValsAt.up {H H' : Hp} {m : Addr} {ρ : Str → Option Int} {cs : List Str} (e : Same H H') (h : ValsAt H m ρ cs) : ValsAt H' m ρ cs := by
  obtain ⟨kvs, h1, h2⟩ := h
  exact ⟨kvs, e _ _ h1, h2⟩
theorem ValsAt.sub {H : Hp} {m : Addr} {ρ : Str → Option Int} {cs ds : List Str} (h : ValsAt H m ρ cs) (s : ∀ c, c ∈ ds → c ∈ cs) : ValsAt H m ρ ds := by
  obtain ⟨kvs, h1, h2⟩ := h
  exact ⟨kvs, h1, fun c hc => h2 c (s c hc)⟩
theorem s_yes {a : Str} {A B : Prop} (h : A) : if decide (V.str a = V.str a) = true then A else B := by
  rw [decide_eq_true rfl]
  exact iteT h
theorem s_no {a b : Str} {A B : Prop} (hn : (a == b) = false) (h : B) : if decide (V.str a = V.str b) = true then A else B := by
  rw [decide_eq_false fun z => by rw [V.str.inj z, beq_self_eq_true] at hn; cases hn]
  exact iteF h
theorem ValsAt.get {H : Hp} {m : Addr} {ρ : Str → Option Int} {cs : List Str} {c : Str} (h : ValsAt H m ρ cs) (hc : c ∈ cs) : DGet H m (.str c) (some (ov (ρ c))) := by
  obtain ⟨kvs, h1, h2⟩ := h
  have z := DGet.k (k := Sum.inr c) h1
  rw [h2 c hc] at z
  exact z
section
variable {P : Program} {w : World} {K : PySem.W.Frag} {mg : Str → Option Value} {base : Heap}
abbrev s_truth_of : Stmt := top 19
theorem sc_truth_of : FnScope ["tree", "values", "word"] ["tree", "values"] (defScope s_truth_of) := ⟨rfl, rfl, rfl, by decide +kernel, rfl, by decide +kernel, by decide +kernel⟩
/-- truth_of of trees of this depth -/
def sp_truth (d : Nat) : Sp := fun vs H Q _ => ∃ t v m ρ, vs = [v, .ref m] ∧ TreeAt H t v ∧ t.deep ≤ d ∧ ValsAt H m ρ t.cols ∧ ∀ H', Same H H' → Q (tv (t.sem ρ)) H'
theorem ok_truth {f fW fB fE fN : Addr} {fd fdW fdB fdE fdN : FuncData} (F : Fun K "truth_of" "truth_of" s_truth_of f fd) (B_truth_of : Binds K fd ["tree", "values"] []) (g_truth_of : mg "truth_of" = some (.ref f))
    (F_truth_within : Fun K "truth_within" "truth_within" s_truth_within fW fdW) (B_truth_within : Binds K fdW ["value", "parts"] []) (g_truth_within : mg "truth_within" = some (.ref fW)) (G_truth_within : FnOk P w K mg base CX0 2 fW fdW ["value", "parts"] sp_truth_within)
    (F_both : Fun K "both" "both" s_both fB fdB) (B_both : Binds K fdB ["one", "other"] []) (g_both : mg "both" = some (.ref fB)) (G_both : FnOk P w K mg base CX0 1 fB fdB ["one", "other"] sp_both)
    (F_either : Fun K "either" "either" s_either fE fdE) (B_either : Binds K fdE ["one", "other"] []) (g_either : mg "either" = some (.ref fE)) (G_either : FnOk P w K mg base CX0 1 fE fdE ["one", "other"] sp_either)
    (F_negated : Fun K "negated" "negated" s_negated fN fdN) (B_negated : Binds K fdN ["truth"] []) (g_negated : mg "negated" = some (.ref fN)) (G_negated : FnOk P w K mg base CX0 1 fN fdN ["truth"] sp_negated) :
    ∀ d, FnOk P w K mg base CX0 (d + 3) f fd ["tree", "values"] (sp_truth d) := by
  intro d
  induction d with
  | zero =>
    refine F.ok sc_truth_of (fun vs H Q E h => ?_) (fun cdv A outer s H vs Q E hr h => ?_)
    · obtain ⟨t, v, m, ρ, rfl, _⟩ := h
      rfl
    · obtain ⟨t, v, m, ρ, rfl, ht, hd, _⟩ := h
      cases t <;> exact absurd hd (by simp [Tr.deep])
  | succ d G_truth_of =>
    have F_truth_of := F
    refine F.ok sc_truth_of (fun vs H Q E h => ?_) (fun cdv A outer s H vs Q E hr h => ?_)
    · obtain ⟨t, v, m, ρ, rfl, _⟩ := h
      rfl
    · obtain ⟨t, v, m, ρ, rfl, ht, hd, hv, q⟩ := h
      refine ⟨_, (pss_cons (ps_set (i := 2) sc_truth_of.nd rfl (Or.inl rfl) (pe_ix ix_tup (pv 0) pe_int (fun _ _ => rfl)))
 (pss_cons (ps_if (pt_cmpR op_eq (pv 2) pe_str (nomark _))
 (pss_one (ps_ret (pe_call G_truth_within (hr.mono (by omega)) rfl g_truth_within F_truth_within.kp B_truth_within .nil pass0 (pa_cons (pe_dget (Nat.lt_of_le_of_lt (Nat.add_le_add_left (by decide : 1 ≤ 64) _) hr.units) (pv 1) (pe_ix ix_tup (pv 0) pe_int (fun _ _ => rfl)) (fun _ _ => rfl)) (pa_cons (pe_ix ix_tup (pv 0) pe_int (fun _ _ => rfl)) pa_nil)))))
 pss_nil)
 (pss_cons (ps_if (pt_cmpR op_eq (pv 2) pe_str (nomark _))
 (pss_one (ps_ret (pe_cmpR op_isN (pe_dget (Nat.lt_of_le_of_lt (Nat.add_le_add_left (by decide : 1 ≤ 64) _) hr.units) (pv 1) (pe_ix ix_tup (pv 0) pe_int (fun _ _ => rfl)) (fun _ _ => rfl)) pe_non (nomark _))))
 pss_nil)
 (pss_cons (ps_if (pt_cmpR op_eq (pv 2) pe_str (nomark _))
 (pss_one (ps_ret (pe_call G_both (hr.mono (by omega)) rfl g_both F_both.kp B_both .nil pass0 (pa_cons (pe_call G_truth_of (hr.mono (by omega)) rfl g_truth_of F_truth_of.kp B_truth_of .nil pass0 (pa_cons (pe_ix ix_tup (pv 0) pe_int (fun _ _ => rfl)) (pa_cons (pv 1) pa_nil))) (pa_cons (pe_call G_truth_of (hr.mono (by omega)) rfl g_truth_of F_truth_of.kp B_truth_of .nil pass0 (pa_cons (pe_ix ix_tup (pv 0) pe_int (fun _ _ => rfl)) (pa_cons (pv 1) pa_nil))) pa_nil)))))
 pss_nil)
 (pss_cons (ps_if (pt_cmpR op_eq (pv 2) pe_str (nomark _))
 (pss_one (ps_ret (pe_call G_either (hr.mono (by omega)) rfl g_either F_either.kp B_either .nil pass0 (pa_cons (pe_call G_truth_of (hr.mono (by omega)) rfl g_truth_of F_truth_of.kp B_truth_of .nil pass0 (pa_cons (pe_ix ix_tup (pv 0) pe_int (fun _ _ => rfl)) (pa_cons (pv 1) pa_nil))) (pa_cons (pe_call G_truth_of (hr.mono (by omega)) rfl g_truth_of F_truth_of.kp B_truth_of .nil pass0 (pa_cons (pe_ix ix_tup (pv 0) pe_int (fun _ _ => rfl)) (pa_cons (pv 1) pa_nil))) pa_nil)))))
 pss_nil)
 (pss_cons (ps_if (pt_cmpR op_eq (pv 2) pe_str (nomark _))
 (pss_one (ps_ret (pe_call G_negated (hr.mono (by omega)) rfl g_negated F_negated.kp B_negated .nil pass0 (pa_cons (pe_call G_truth_of (hr.mono (by omega)) rfl g_truth_of F_truth_of.kp B_truth_of .nil pass0 (pa_cons (pe_ix ix_tup (pv 0) pe_int (fun _ _ => rfl)) (pa_cons (pv 1) pa_nil))) pa_nil))))
 pss_nil)
 (pss_one (ps_ret (pe_cmpR op_eq (pv 2) pe_str (nomark _)))))))))), ?_⟩
      cases t with
      | wi c ps =>
        obtain ⟨a, p, rfl, h1, h2, h3⟩ := ht
        walk_at "rd"
        refine s_yes ?_
        walk_at "rd"
        unfold tDGet
        walk_at "rd"
        refine ⟨m, ov (ρ c), rfl, hv.get (List.mem_singleton.mpr rfl), ?_⟩
        walk_at "rd"
        exact ⟨ρ c, p, ps, rfl, h2, h3, q H (Same.refl H)⟩
      | mi c =>
        obtain ⟨a, rfl, h1⟩ := ht
        walk_at "rd"
        refine s_no rfl ?_
        walk_at "rd"
        refine s_yes ?_
        walk_at "rd"
        unfold tDGet
        walk_at "rd"
        refine ⟨m, ov (ρ c), rfl, hv.get (List.mem_singleton.mpr rfl), ?_⟩
        walk_at "rd"
        have z := q H (Same.refl H)
        cases e : ρ c with
        | none =>
          simp only [Tr.sem, e] at z
          exact z
        | some n =>
          simp only [Tr.sem, e] at z
          exact z
      | al =>
        obtain ⟨a, rfl, h1⟩ := ht
        walk_at "rd"
        refine s_no rfl ?_
        walk_at "rd"
        refine s_no rfl ?_
        walk_at "rd"
        refine s_no rfl ?_
        walk_at "rd"
        refine s_no rfl ?_
        walk_at "rd"
        refine s_no rfl ?_
        walk_at "rd"
        exact q H (Same.refl H)
      | ne =>
        obtain ⟨a, rfl, h1⟩ := ht
        walk_at "rd"
        refine s_no rfl ?_
        walk_at "rd"
        refine s_no rfl ?_
        walk_at "rd"
        refine s_no rfl ?_
        walk_at "rd"
        refine s_no rfl ?_
        walk_at "rd"
        refine s_no rfl ?_
        walk_at "rd"
        exact q H (Same.refl H)
      | an l r =>
        obtain ⟨a, x, y, rfl, h1, h2, h3⟩ := ht
        have d1 : l.deep ≤ d ∧ r.deep ≤ d := by
          simp only [Tr.deep] at hd
          omega
        walk_at "rd"
        refine s_no rfl ?_
        walk_at "rd"
        refine s_no rfl ?_
        walk_at "rd"
        refine s_yes ?_
        walk_at "rd"
        refine ⟨l, x, m, ρ, rfl, h2, d1.1, hv.sub fun c hc => List.mem_append_left _ hc, fun H1 s1 => ?_⟩
        have h1' := s1 _ _ h1
        walk_at "rd"
        refine ⟨r, y, m, ρ, rfl, h3.up s1, d1.2, (hv.up s1).sub fun c hc => List.mem_append_right _ hc, fun H2 s2 => ?_⟩
        walk_at "rd"
        exact ⟨_, _, rfl, q H2 (fun b o z => s2 _ _ (s1 _ _ z))⟩
      | ou l r =>
        obtain ⟨a, x, y, rfl, h1, h2, h3⟩ := ht
        have d1 : l.deep ≤ d ∧ r.deep ≤ d := by
          simp only [Tr.deep] at hd
          omega
        walk_at "rd"
        refine s_no rfl ?_
        walk_at "rd"
        refine s_no rfl ?_
        walk_at "rd"
        refine s_no rfl ?_
        walk_at "rd"
        refine s_yes ?_
        walk_at "rd"
        refine ⟨l, x, m, ρ, rfl, h2, d1.1, hv.sub fun c hc => List.mem_append_left _ hc, fun H1 s1 => ?_⟩
        have h1' := s1 _ _ h1
        walk_at "rd"
        refine ⟨r, y, m, ρ, rfl, h3.up s1, d1.2, (hv.up s1).sub fun c hc => List.mem_append_right _ hc, fun H2 s2 => ?_⟩
        walk_at "rd"
        exact ⟨_, _, rfl, q H2 (fun b o z => s2 _ _ (s1 _ _ z))⟩
      | no t =>
        obtain ⟨a, x, rfl, h1, h2⟩ := ht
        have d1 : t.deep ≤ d := by
          simp only [Tr.deep] at hd
          omega
        walk_at "rd"
        refine s_no rfl ?_
        walk_at "rd"
        refine s_no rfl ?_
        walk_at "rd"
        refine s_no rfl ?_
        walk_at "rd"
        refine s_no rfl ?_
        walk_at "rd"
        refine s_yes ?_
        walk_at "rd"
        refine ⟨t, x, m, ρ, rfl, h2, d1, hv, fun H1 s1 => ?_⟩
        walk_at "rd"
        exact ⟨_, rfl, q H1 s1⟩
end
end Spk

set_option Elab.async false
set_option linter.all false
set_option maxRecDepth 100000
set_option maxHeartbeats 1000000
namespace Spk
open PySem L2
local macro_rules | `(tactic| walk_at "rd") => `(tactic| repeat (first
  | with_reducible refine i_seq ?_ | with_reducible refine i_asg ?_ | with_reducible refine i_ret ?_ | with_reducible refine i_ifS ?_ | with_reducible refine i_if ?_
  | with_reducible refine i_for ?_ | with_reducible refine i_iL ?_ | with_reducible refine i_iT ?_ | with_reducible refine i_ckw ?_ | with_reducible refine i_cm ?_ | with_reducible refine And.intro (rfl : V.ref _ = V.ref _) ?_ | with_reducible refine i_rng1 ?_ | with_reducible refine i_bm ?_ | with_reducible refine i_bm0 ?_
  | with_reducible refine i_drop ?_ | with_reducible refine i_next ?_
  | with_reducible refine i_var rfl ?_ | with_reducible refine i_c ?_ | with_reducible refine i_op ?_ | with_reducible refine i_un ?_ | with_reducible refine i_name ?_
  | with_reducible refine i_rI0 ?_ | with_reducible refine i_rU ?_ | with_reducible refine i_rEq rfl ?_ | with_reducible refine i_rNe rfl ?_
  | with_reducible refine i_test ?_ | with_reducible refine i_tB ?_ | with_reducible refine i_and ?_ | with_reducible refine i_or ?_ | with_reducible refine i_not ?_
  | with_reducible refine i_andV ?_ | with_reducible refine i_orV ?_ | with_reducible refine i_notV ?_
  | with_reducible refine i_cons ?_ | with_reducible refine i_nil ?_ | with_reducible refine i_cb ?_ | with_reducible refine i_call ?_ | with_reducible refine i_bl ?_
  | with_reducible refine i_tup ?_ | with_reducible refine i_lst ?_ | with_reducible refine i_par ?_ | with_reducible refine i_gcons ?_ | with_reducible refine i_gnil ?_
  | with_reducible refine And.intro (rfl : V.non = V.non) ?_ | with_reducible refine i_ixT (by assumption) rfl ?_ | with_reducible refine i_ixL (by assumption) rfl ?_ | with_reducible refine i_gtup (by assumption) rfl ?_
  | with_reducible refine i_gsub ?_
  | with_reducible refine Or.inl (Exists.intro _ (And.intro (rfl : [V.int _] = [V.int _]) ?_)) | with_reducible refine Exists.intro _ (And.intro (rfl : [V.int _] = [V.int _]) ?_)
  | with_reducible refine Or.inr (Exists.intro _ (And.intro (rfl : [V.bl _] = [V.bl _]) ?_))
  | with_reducible refine Exists.intro _ (Exists.intro _ (And.intro (rfl : [V.int _, V.int _] = [V.int _, V.int _]) ?_))
  | with_reducible refine Exists.intro _ (Exists.intro _ (And.intro (rfl : [V.ref _] = [V.ref _]) (And.intro (Or.inl (SqL.of (by assumption))) ?_)))
  | with_reducible refine i_rI (show (0 : Int) < _ by assumption) ?_ | with_reducible refine i_rI (show (0 : Int) < _ by decide) ?_
  | with_reducible refine i_rI (pow_ok (Nat.le_of_ble_eq_true rfl) (Nat.le_of_ble_eq_true rfl)) ?_
  | with_reducible refine i_rI (cmulL rfl) ?_))
/-! ### the columns of two filters -/
theorem withTx_nd {l : List Str} {k : Str} (h : l.Nodup) : (withTx l k).Nodup := by
  unfold withTx
  split
  · exact h
  · rename_i z
    exact List.nodup_cons.mpr ⟨z, h⟩
theorem onceTx_nd : ∀ (xs l : List Str), l.Nodup → (onceTx l xs).Nodup
  | [], _, h => h
  | _ :: ys, _, h => onceTx_nd ys _ (withTx_nd h)
/-- a tuple of texts, ascending, each once: these -/
structure ColsOk (cs : List Str) (m : Str → Prop) (n : Nat) : Prop where
  up : PyProof.Rows.sortedS cs = true
  nd : cs.Nodup
  mem : ∀ c, c ∈ cs ↔ m c
  len : cs.length ≤ n
theorem i_txSet {K : PySem.W.Frag} {P : Program} {w : World} {H : Hp} {u : Addr} {xs : List Str} {R : VK} (hu : H u = some (.tup (xs.map V.str))) (hz : xs.length ≤ 1000) (k : ∀ b H2, Same H H2 → H2 b = some (TxO P w b (onceTx [] xs)) → R (.ref b) H2) : rTxSet K P w [.ref u] H R := by
  refine ⟨u, xs, rfl, SqT.of hu, hz, fun b hb => ?_⟩
  obtain ⟨H2, e2, s2, h2⟩ := new_heap (o := TxO P w b (onceTx [] xs)) hb
  rw [e2]
  exact k b H2 s2 h2
theorem i_txSort {P : Program} {w : World} {H : Hp} {b : Addr} {xs : List Str} {R : VK} (hb : H b = some (TxO P w b (onceTx [] xs))) (hz : xs.length < 64)
    (k : ∀ l H2, ∀ zs : List Str, Same H H2 → H2 l = some (.lst (zs.map V.str)) → ColsOk zs (fun c => c ∈ xs) xs.length → R (.ref l) H2) : rTxSorted P w [.ref b] H R := by
  have le := onceTx_len xs []
  have z0 : ([] : List Str).length = 0 := rfl
  refine ⟨b, onceTx [] xs, rfl, hb, by omega, fun zs l pe so hl => ?_⟩
  obtain ⟨H3, e3, s3, h3⟩ := new_heap (o := .lst (zs.map V.str)) hl
  rw [e3]
  refine k l H3 zs s3 h3 ⟨so, pe.nodup_iff.mpr (onceTx_nd _ _ List.nodup_nil), fun c => ?_, by rw [pe.length_eq]; omega⟩
  rw [pe.mem_iff, onceTx_mem]
  simp
section
variable {P : Program} {w : World} {K : PySem.W.Frag} {mg : Str → Option Value} {base : Heap}
abbrev s_all_columns : Stmt := top 18
theorem sc_all_columns : FnScope ["one", "other"] ["one", "other"] (defScope s_all_columns) := ⟨rfl, rfl, rfl, by decide +kernel, rfl, by decide +kernel, by decide +kernel⟩
def sp_all_columns : Sp := fun vs H Q _ => ∃ (p q : Addr) (xs ys : List Str), vs = [.ref p, .ref q] ∧ H p = some (.tup (xs.map V.str)) ∧ H q = some (.tup (ys.map V.str)) ∧ xs.length + ys.length < 64 ∧
  ∀ (r : Addr) (H' : Hp) (zs : List Str), Same H H' → H' r = some (.tup (zs.map V.str)) → ColsOk zs (fun c => c ∈ xs ∨ c ∈ ys) (xs.length + ys.length) → Q (.ref r) H'
theorem ok_all_columns {f : Addr} {fd : FuncData} (F : Fun K "all_columns" "all_columns" s_all_columns f fd) (z_tuple : mg "tuple" = none) (z_sorted : mg "sorted" = none) (z_set : mg "set" = none) : FnOk P w K mg base CX0 1 f fd ["one", "other"] sp_all_columns := by
  refine F.ok sc_all_columns (fun vs H Q E h => ?_) (fun cdv A outer s H vs Q E hr h => ?_)
  · obtain ⟨p, q, xs, ys, rfl, _⟩ := h
    rfl
  · obtain ⟨p, q, xs, ys, rfl, hp, hq, hz, k⟩ := h
    refine ⟨_, (pss_one (ps_ret (pe_callTy call_tuple_of (by rfl) z_tuple (by decide +kernel) (pa_cons (pe_callB (cr_txSorted rfl) (by rfl) z_sorted (by decide +kernel) (pa_cons (pe_callTy (cr_txSet rfl) (by rfl) z_set (by decide +kernel) (pa_cons (pe_op op_catA (pv 0) (pv 1)) pa_nil)) pa_nil)) pa_nil)))), ?_⟩
    have fin : ∀ (l : Addr) (H3 : Hp) (zs : List Str), Same H H3 → H3 l = some (.lst (zs.map V.str)) → ColsOk zs (fun c => c ∈ xs ++ ys) (xs ++ ys).length → ∀ r, H3 r = none → Q (.ref r) (upd H3 r (.tup (zs.map V.str))) := by
      intro l H3 zs s3 h3 ok r hr
      obtain ⟨H4, e4, s4, h4⟩ := new_heap (o := .tup (zs.map V.str)) hr
      rw [e4]
      exact k r H4 zs (fun a o e => s4 _ _ (s3 _ _ e)) h4 ⟨ok.up, ok.nd, fun c => (ok.mem c).trans List.mem_append, by have := ok.len; rw [List.length_append] at this; exact this⟩
    have hz2 : (xs ++ ys).length < 64 := by rw [List.length_append]; exact hz
    walk_at "rd"
    refine ⟨p, q, xs.map V.str, ys.map V.str, rfl, rfl, SqT.of hp, SqT.of hq, size_of (by simp; omega), fun e => ?_, fun _ e => ?_, fun _ _ u hu => ?_⟩
    · have hx : xs = [] := List.map_eq_nil_iff.mp e
      subst hx
      walk_at "rd"
      refine i_txSet hq (by simp at hz; omega) fun b H2 s2 h2 => ?_
      walk_at "rd"
      refine i_txSort h2 (by simpa using hz) fun l H3 zs s3 h3 ok => ?_
      walk_at "rd"
      exact ⟨l, _, rfl, .inl ⟨SqL.of h3, fin l H3 zs (fun a o e => s3 _ _ (s2 _ _ e)) h3 ok⟩⟩
    · have hy : ys = [] := List.map_eq_nil_iff.mp e
      subst hy
      walk_at "rd"
      refine i_txSet hp (by simp at hz; omega) fun b H2 s2 h2 => ?_
      walk_at "rd"
      refine i_txSort h2 (by simpa using hz) fun l H3 zs s3 h3 ok => ?_
      walk_at "rd"
      rw [List.append_nil] at fin
      exact ⟨l, _, rfl, .inl ⟨SqL.of h3, fin l H3 zs (fun a o e => s3 _ _ (s2 _ _ e)) h3 ok⟩⟩
    · rw [← List.map_append]
      obtain ⟨H1, e1, s1, h1⟩ := new_heap (o := .tup ((xs ++ ys).map V.str)) hu
      rw [e1]
      walk_at "rd"
      refine i_txSet h1 (by omega) fun b H2 s2 h2 => ?_
      walk_at "rd"
      refine i_txSort h2 hz2 fun l H3 zs s3 h3 ok => ?_
      walk_at "rd"
      exact ⟨l, _, rfl, .inl ⟨SqL.of h3, fin l H3 zs (fun a o e => s3 _ _ (s2 _ _ (s1 _ _ e))) h3 ok⟩⟩
end
end Spk

set_option Elab.async false
set_option linter.all false
set_option maxRecDepth 100000
set_option maxHeartbeats 1000000
namespace Spk
open PySem L2
local macro_rules | `(tactic| walk_at "rd") => `(tactic| repeat (first
  | with_reducible refine i_seq ?_ | with_reducible refine i_asg ?_ | with_reducible refine i_ret ?_ | with_reducible refine i_ifS ?_ | with_reducible refine i_if ?_
  | with_reducible refine i_for ?_ | with_reducible refine i_iL ?_ | with_reducible refine i_iT ?_ | with_reducible refine i_ckw ?_ | with_reducible refine i_cm ?_ | with_reducible refine And.intro (rfl : V.ref _ = V.ref _) ?_ | with_reducible refine i_rng1 ?_ | with_reducible refine i_bm ?_ | with_reducible refine i_bm0 ?_
  | with_reducible refine i_drop ?_ | with_reducible refine i_next ?_
  | with_reducible refine i_var rfl ?_ | with_reducible refine i_c ?_ | with_reducible refine i_op ?_ | with_reducible refine i_un ?_ | with_reducible refine i_name ?_
  | with_reducible refine i_rI0 ?_ | with_reducible refine i_rU ?_ | with_reducible refine i_rEq rfl ?_ | with_reducible refine i_rNe rfl ?_
  | with_reducible refine i_test ?_ | with_reducible refine i_tB ?_ | with_reducible refine i_and ?_ | with_reducible refine i_or ?_ | with_reducible refine i_not ?_
  | with_reducible refine i_andV ?_ | with_reducible refine i_orV ?_ | with_reducible refine i_notV ?_
  | with_reducible refine i_cons ?_ | with_reducible refine i_nil ?_ | with_reducible refine i_cb ?_ | with_reducible refine i_call ?_ | with_reducible refine i_bl ?_
  | with_reducible refine i_tup ?_ | with_reducible refine i_lst ?_ | with_reducible refine i_par ?_ | with_reducible refine i_gcons ?_ | with_reducible refine i_gnil ?_
  | with_reducible refine And.intro (rfl : V.non = V.non) ?_ | with_reducible refine i_ixT (by assumption) rfl ?_ | with_reducible refine i_ixL (by assumption) rfl ?_ | with_reducible refine i_gtup (by assumption) rfl ?_
  | with_reducible refine i_gsub ?_
  | with_reducible refine Or.inl (Exists.intro _ (And.intro (rfl : [V.int _] = [V.int _]) ?_)) | with_reducible refine Exists.intro _ (And.intro (rfl : [V.int _] = [V.int _]) ?_)
  | with_reducible refine Or.inr (Exists.intro _ (And.intro (rfl : [V.bl _] = [V.bl _]) ?_))
  | with_reducible refine Exists.intro _ (Exists.intro _ (And.intro (rfl : [V.int _, V.int _] = [V.int _, V.int _]) ?_))
  | with_reducible refine Exists.intro _ (Exists.intro _ (And.intro (rfl : [V.ref _] = [V.ref _]) (And.intro (Or.inl (SqL.of (by assumption))) ?_)))
  | with_reducible refine i_rI (show (0 : Int) < _ by assumption) ?_ | with_reducible refine i_rI (show (0 : Int) < _ by decide) ?_
  | with_reducible refine i_rI (pow_ok (Nat.le_of_ble_eq_true rfl) (Nat.le_of_ble_eq_true rfl)) ?_
  | with_reducible refine i_rI (cmulL rfl) ?_))
/-! ### the class Filter -/
/-- what the text says of the class -/
structure ClsF (K : PySem.W.Frag) (mg : Str → Option Value) (D fI : Addr) : Prop where
  cl : Cls K D
  nT : NoAttr K D "tree"
  nC : NoAttr K D "columns"
  M : Mk K D fI
  g_CF : mg "Filter" = some (.ref D)
/-- a filter with this tree -/
def Fil (D : Addr) (H : Hp) (x : Addr) (t : Tr) : Prop := ∃ dx v q cs, H x = some (.ins D dx [("tree", v), ("columns", .ref q)]) ∧ TreeAt H t v ∧ H q = some (.tup (cs.map V.str)) ∧ ColsOk cs (fun c => c ∈ t.cols) t.cols.length
theorem Fil.up {D : Addr} {H H' : Hp} {x : Addr} {t : Tr} (e : Same H H') (h : Fil D H x t) : Fil D H' x t := by
  obtain ⟨dx, v, q, cs, h1, h2, h3, h4⟩ := h
  exact ⟨dx, v, q, cs, e _ _ h1, h2.up e, e _ _ h3, h4⟩
theorem Fil.keep {D : Addr} {H H' : Hp} {x : Addr} {t : Tr} (e : Keep H H') (h : Fil D H x t) : Fil D H' x t := by
  obtain ⟨dx, v, q, cs, h1, h2, h3, h4⟩ := h
  exact ⟨dx, v, q, cs, e _ _ rfl h1, h2.keep e, e _ _ rfl h3, h4⟩
theorem lk_tree {v u : V} : ([("tree", v), ("columns", u)] : List (Str × V)).lookup ("tree" : Str) = some v := by
  show (match (("tree" : Str) == "tree") with | true => some v | false => List.lookup ("tree" : Str) [(("columns" : Str), u)]) = some v
  rw [beq_self_eq_true]
theorem lk_columns {v u : V} : ([("tree", v), ("columns", u)] : List (Str × V)).lookup ("columns" : Str) = some u := by
  show (match (("columns" : Str) == "tree") with | true => some v | false => (match (("columns" : Str) == "columns") with | true => some u | false => none)) = some u
  rw [show (("columns" : Str) == "tree") = false from rfl, beq_self_eq_true]
section
variable {P : Program} {w : World} {K : PySem.W.Frag} {mg : Str → Option Value} {base : Heap} {C fI fE D fJ : Addr}
abbrev s_Filter__init : Stmt := inClass (top 17) 0
theorem sc_Filter__init : FnScope ["self", "tree", "columns"] ["self", "tree", "columns"] (defScope s_Filter__init) := ⟨rfl, rfl, rfl, by decide +kernel, rfl, by decide +kernel, by decide +kernel⟩
def sp_finit (D : Addr) : Sp := fun vs H Q _ => ∃ x dx v q, vs = [.ref x, v, q] ∧ H x = some (.ins D dx []) ∧ Q .non (upd H x (.ins D dx [("tree", v), ("columns", q)]))
theorem ok_finit {fd : FuncData} (F : Fun K "__init__" "Filter.__init__" s_Filter__init fJ fd) (T : ClsF K mg D fJ) : FnOk P w K mg base CX0 1 fJ fd ["self", "tree", "columns"] (sp_finit D) := by
  refine F.ok sc_Filter__init (fun vs H Q E h => ?_) (fun cdv A outer s H vs Q E hr h => ?_)
  · obtain ⟨x, dx, v, q, rfl, _⟩ := h
    rfl
  · obtain ⟨x, dx, v, q, rfl, hx, k⟩ := h
    refine ⟨_, (pss_cons (ps_fld (pv 0) (pv 1) rfl)
 (pss_one (ps_fld (pv 0) (pv 2) rfl))), ?_⟩
    refine ⟨_, rfl, _, rfl, x, D, dx, [], rfl, hx, T.cl, T.nT, (by show 0 < 1000; decide), ?_⟩
    have h1 : upd H x (.ins D dx [("tree", v)]) x = some (.ins D dx [("tree", v)]) := upd_same
    refine ⟨_, rfl, _, rfl, x, D, dx, [("tree", v)], rfl, h1, T.cl, T.nC, (by show 1 < 1000; decide), ?_⟩
    have e : upd (upd H x (.ins D dx [("tree", v)])) x (.ins D dx [("tree", v), ("columns", q)]) = upd H x (.ins D dx [("tree", v), ("columns", q)]) := L2.upd_upd
    rw [← e] at k
    exact k
/-- the promise of __init__ where a filter is made -/
abbrev spJ (D : Addr) : Sp := fun vs H Q E => sp_finit D (vs ++ []) H Q E
/-- «a new filter with this tree» -/
abbrev NewF (D : Addr) (H : Hp) (Q : VK) (t : Tr) : Prop := ∀ x H', Same H H' → Fil D H' x t → Q (.ref x) H'
theorem mk_fil {H : Hp} {v : V} {q : Addr} {t : Tr} {cs : List Str} {Q : VK} (ht : TreeAt H t v) (hq : H q = some (.tup (cs.map V.str))) (ok : ColsOk cs (fun c => c ∈ t.cols) t.cols.length) (k : NewF D H Q t) :
    ∀ x dx, H x = none → H dx = none → dx ≠ x → spJ D (V.ref x :: [v, .ref q]) (upd (upd H dx (.own x)) x (.ins D dx [])) (fun u H2 => u = .non ∧ Q (.ref x) H2) E0 := by
  intro x dx hx hdx hne
  refine ⟨x, dx, v, .ref q, rfl, upd_same, rfl, ?_⟩
  have sm : Same H (upd (upd (upd H dx (.own x)) x (.ins D dx [])) x (.ins D dx [("tree", v), ("columns", .ref q)])) := fun b o e => by
    rw [upd_ne (ne_of_none e hx), upd_ne (ne_of_none e hx), upd_ne (ne_of_none e hdx)]
    exact e
  exact k x _ sm ⟨dx, v, q, cs, upd_same, ht.up sm, sm _ _ hq, ok⟩
theorem cols_nil (n : Nat) : ColsOk [] (fun c => c ∈ ([] : List Str)) n := ⟨rfl, List.nodup_nil, fun c => Iff.rfl, Nat.zero_le _⟩
theorem cols_one (x : Str) : ColsOk [x] (fun c => c ∈ [x]) 1 := ⟨rfl, List.nodup_cons.mpr ⟨List.not_mem_nil, List.nodup_nil⟩, fun c => Iff.rfl, Nat.le_refl _⟩
abbrev s_Filter_within : Stmt := inClass (top 17) 1
theorem sc_Filter_within : FnScope ["cls", "column", "ranges"] ["cls", "column", "ranges"] (defScope s_Filter_within) := ⟨rfl, rfl, rfl, by decide +kernel, rfl, by decide +kernel, by decide +kernel⟩
def sp_fwithin (C D : Addr) : Sp := fun vs H Q _ => ∃ c r ps, vs = [.ref D, .str c, .ref r] ∧ Rng C H r ps ∧ NewF D H Q (.wi c ps)
theorem ok_fwithin {f : Addr} {fd fdI : FuncData} (F : Fun K "within" "Filter.within" s_Filter_within f fd) (FI : Fun K "__init__" "Filter.__init__" s_Filter__init fJ fdI) (B_init : Binds K fdI ["self", "tree", "columns"] []) (T : ClsF K mg D fJ) (TC : ClsT K mg C fI fE) :
    FnOk P w K mg base CX0 3 f fd ["cls", "column", "ranges"] (sp_fwithin C D) := by
  have RI : FnR P w K mg base CX0 1 fJ (spJ D) := FnOk.raw (ok_finit FI T) B_init .nil
  have M := T.M
  refine F.ok sc_Filter_within (fun vs H Q E h => ?_) (fun cdv A outer s H vs Q E hr h => ?_)
  · obtain ⟨c, r, ps, rfl, _⟩ := h
    rfl
  · obtain ⟨c, r, ps, rfl, ⟨dx, t, hx, hp, ca⟩, k⟩ := h
    refine ⟨_, (pss_one (ps_ret (pe_makeL (i := 0) M RI (hr.mono (by decide)) rfl (Or.inl rfl) pass0 (pa_cons (pe_tup (pa_cons pe_str (pa_cons (pv 1) (pa_cons (pe_fld (pv 2) rfl) pa_nil)))) (pa_cons (pe_tup (pa_cons (pv 1) pa_nil)) pa_nil))))), ?_⟩
    walk_at "rd"
    refine ⟨rfl, ?_⟩
    unfold StX.tMakeR
    walk_at "rd"
    refine ⟨_, rfl, r, C, dx, _, _, rfl, hx, TC.cl, TC.nP, lk_parts, ?_⟩
    walk_at "rd"
    refine ⟨size_of (Nat.le_of_ble_eq_true rfl), fun p h0 => ?_⟩
    obtain ⟨H1, e1, s1, h1⟩ := new_heap (o := .tup [.str "within", .str c, .ref t]) h0
    rw [e1]
    walk_at "rd"
    refine ⟨size_of (Nat.le_of_ble_eq_true rfl), fun p' hp' => ?_⟩
    obtain ⟨H2, e2, s2, h2⟩ := new_heap (o := .tup [.str c]) hp'
    rw [e2]
    walk_at "rd"
    have tr : TreeAt H2 (.wi c ps) (.ref p) := ⟨p, t, rfl, s2 _ _ h1, (hp.up s1).up s2, ca⟩
    exact mk_fil (cs := [c]) tr h2 (cols_one c) fun x H' s3 hf => k x H' (fun b o z => s3 _ _ (s2 _ _ (s1 _ _ z))) hf
abbrev s_Filter_missing : Stmt := inClass (top 17) 2
theorem sc_Filter_missing : FnScope ["cls", "column"] ["cls", "column"] (defScope s_Filter_missing) := ⟨rfl, rfl, rfl, by decide +kernel, rfl, by decide +kernel, by decide +kernel⟩
def sp_fmissing (D : Addr) : Sp := fun vs H Q _ => ∃ c, vs = [.ref D, .str c] ∧ NewF D H Q (.mi c)
theorem ok_fmissing {f : Addr} {fd fdI : FuncData} (F : Fun K "missing" "Filter.missing" s_Filter_missing f fd) (FI : Fun K "__init__" "Filter.__init__" s_Filter__init fJ fdI) (B_init : Binds K fdI ["self", "tree", "columns"] []) (T : ClsF K mg D fJ) :
    FnOk P w K mg base CX0 3 f fd ["cls", "column"] (sp_fmissing D) := by
  have RI : FnR P w K mg base CX0 1 fJ (spJ D) := FnOk.raw (ok_finit FI T) B_init .nil
  have M := T.M
  refine F.ok sc_Filter_missing (fun vs H Q E h => ?_) (fun cdv A outer s H vs Q E hr h => ?_)
  · obtain ⟨c, rfl, _⟩ := h
    rfl
  · obtain ⟨c, rfl, k⟩ := h
    refine ⟨_, (pss_one (ps_ret (pe_makeL (i := 0) M RI (hr.mono (by decide)) rfl (Or.inl rfl) pass0 (pa_cons (pe_tup (pa_cons pe_str (pa_cons (pv 1) pa_nil))) (pa_cons (pe_tup (pa_cons (pv 1) pa_nil)) pa_nil))))), ?_⟩
    walk_at "rd"
    refine ⟨rfl, ?_⟩
    unfold StX.tMakeR
    walk_at "rd"
    refine ⟨size_of (Nat.le_of_ble_eq_true rfl), fun p h0 => ?_⟩
    obtain ⟨H1, e1, s1, h1⟩ := new_heap (o := .tup [.str "missing", .str c]) h0
    rw [e1]
    walk_at "rd"
    refine ⟨size_of (Nat.le_of_ble_eq_true rfl), fun p' hp' => ?_⟩
    obtain ⟨H2, e2, s2, h2⟩ := new_heap (o := .tup [.str c]) hp'
    rw [e2]
    walk_at "rd"
    have tr : TreeAt H2 (.mi c) (.ref p) := ⟨p, rfl, s2 _ _ h1⟩
    exact mk_fil (cs := [c]) tr h2 (cols_one c) fun x H' s3 hf => k x H' (fun b o z => s3 _ _ (s2 _ _ (s1 _ _ z))) hf
abbrev s_Filter_always : Stmt := inClass (top 17) 3
theorem sc_Filter_always : FnScope ["cls"] ["cls"] (defScope s_Filter_always) := ⟨rfl, rfl, rfl, by decide +kernel, rfl, by decide +kernel, by decide +kernel⟩
def sp_falways (D : Addr) : Sp := fun vs H Q _ => vs = [.ref D] ∧ NewF D H Q .al
theorem ok_falways {f : Addr} {fd fdI : FuncData} (F : Fun K "always" "Filter.always" s_Filter_always f fd) (FI : Fun K "__init__" "Filter.__init__" s_Filter__init fJ fdI) (B_init : Binds K fdI ["self", "tree", "columns"] []) (T : ClsF K mg D fJ) :
    FnOk P w K mg base CX0 3 f fd ["cls"] (sp_falways D) := by
  have RI : FnR P w K mg base CX0 1 fJ (spJ D) := FnOk.raw (ok_finit FI T) B_init .nil
  have M := T.M
  refine F.ok sc_Filter_always (fun vs H Q E h => ?_) (fun cdv A outer s H vs Q E hr h => ?_)
  · obtain ⟨rfl, _⟩ := h
    rfl
  · obtain ⟨rfl, k⟩ := h
    refine ⟨_, (pss_one (ps_ret (pe_makeL (i := 0) M RI (hr.mono (by decide)) rfl (Or.inl rfl) pass0 (pa_cons (pe_tup (pa_cons pe_str pa_nil)) (pa_cons (pe_tup pa_nil) pa_nil))))), ?_⟩
    walk_at "rd"
    refine ⟨rfl, ?_⟩
    unfold StX.tMakeR
    walk_at "rd"
    refine ⟨size_of (Nat.le_of_ble_eq_true rfl), fun p h0 => ?_⟩
    obtain ⟨H1, e1, s1, h1⟩ := new_heap (o := .tup [.str "always"]) h0
    rw [e1]
    walk_at "rd"
    refine ⟨Nat.zero_le _, fun p' hp' => ?_⟩
    obtain ⟨H2, e2, s2, h2⟩ := new_heap (o := .tup []) hp'
    rw [e2]
    walk_at "rd"
    have tr : TreeAt H2 .al (.ref p) := ⟨p, rfl, s2 _ _ h1⟩
    exact mk_fil (cs := []) tr h2 (cols_nil 0) fun x H' s3 hf => k x H' (fun b o z => s3 _ _ (s2 _ _ (s1 _ _ z))) hf
abbrev s_Filter_never : Stmt := inClass (top 17) 4
theorem sc_Filter_never : FnScope ["cls"] ["cls"] (defScope s_Filter_never) := ⟨rfl, rfl, rfl, by decide +kernel, rfl, by decide +kernel, by decide +kernel⟩
def sp_fnever (D : Addr) : Sp := fun vs H Q _ => vs = [.ref D] ∧ NewF D H Q .ne
theorem ok_fnever {f : Addr} {fd fdI : FuncData} (F : Fun K "never" "Filter.never" s_Filter_never f fd) (FI : Fun K "__init__" "Filter.__init__" s_Filter__init fJ fdI) (B_init : Binds K fdI ["self", "tree", "columns"] []) (T : ClsF K mg D fJ) :
    FnOk P w K mg base CX0 3 f fd ["cls"] (sp_fnever D) := by
  have RI : FnR P w K mg base CX0 1 fJ (spJ D) := FnOk.raw (ok_finit FI T) B_init .nil
  have M := T.M
  refine F.ok sc_Filter_never (fun vs H Q E h => ?_) (fun cdv A outer s H vs Q E hr h => ?_)
  · obtain ⟨rfl, _⟩ := h
    rfl
  · obtain ⟨rfl, k⟩ := h
    refine ⟨_, (pss_one (ps_ret (pe_makeL (i := 0) M RI (hr.mono (by decide)) rfl (Or.inl rfl) pass0 (pa_cons (pe_tup (pa_cons pe_str pa_nil)) (pa_cons (pe_tup pa_nil) pa_nil))))), ?_⟩
    walk_at "rd"
    refine ⟨rfl, ?_⟩
    unfold StX.tMakeR
    walk_at "rd"
    refine ⟨size_of (Nat.le_of_ble_eq_true rfl), fun p h0 => ?_⟩
    obtain ⟨H1, e1, s1, h1⟩ := new_heap (o := .tup [.str "never"]) h0
    rw [e1]
    walk_at "rd"
    refine ⟨Nat.zero_le _, fun p' hp' => ?_⟩
    obtain ⟨H2, e2, s2, h2⟩ := new_heap (o := .tup []) hp'
    rw [e2]
    walk_at "rd"
    have tr : TreeAt H2 .ne (.ref p) := ⟨p, rfl, s2 _ _ h1⟩
    exact mk_fil (cs := []) tr h2 (cols_nil 0) fun x H' s3 hf => k x H' (fun b o z => s3 _ _ (s2 _ _ (s1 _ _ z))) hf
abbrev s_Filter__and : Stmt := inClass (top 17) 5
theorem sc_Filter__and : FnScope ["self", "other"] ["self", "other"] (defScope s_Filter__and) := ⟨rfl, rfl, rfl, by decide +kernel, rfl, by decide +kernel, by decide +kernel⟩
def sp_fand (D : Addr) : Sp := fun vs H Q _ => ∃ a b l r, vs = [.ref a, .ref b] ∧ Fil D H a l ∧ Fil D H b r ∧ l.cols.length + r.cols.length < 64 ∧ NewF D H Q (.an l r)
theorem ok_fand {f fA : Addr} {fd fdI fdA : FuncData} (F : Fun K "__and__" "Filter.__and__" s_Filter__and f fd) (FI : Fun K "__init__" "Filter.__init__" s_Filter__init fJ fdI) (B_init : Binds K fdI ["self", "tree", "columns"] []) (T : ClsF K mg D fJ)
    (F_all_columns : Fun K "all_columns" "all_columns" s_all_columns fA fdA) (B_all_columns : Binds K fdA ["one", "other"] []) (g_all_columns : mg "all_columns" = some (.ref fA)) (G_all_columns : FnOk P w K mg base CX0 1 fA fdA ["one", "other"] sp_all_columns) :
    FnOk P w K mg base CX0 3 f fd ["self", "other"] (sp_fand D) := by
  have RI : FnR P w K mg base CX0 1 fJ (spJ D) := FnOk.raw (ok_finit FI T) B_init .nil
  have M := T.M
  have g_CF := T.g_CF
  refine F.ok sc_Filter__and (fun vs H Q E h => ?_) (fun cdv A outer s H vs Q E hr h => ?_)
  · obtain ⟨a, b, l, r, rfl, _⟩ := h
    rfl
  · obtain ⟨a, b, l, r, rfl, ⟨dx, v, p, cs, ha, ta, hp, oa⟩, ⟨dy, u, q, ds, hb, tb, hq, ob⟩, hz, k⟩ := h
    refine ⟨_, (pss_one (ps_ret (StX.pe_makeR M RI (hr.mono (by decide)) rfl g_CF pass0 (pa_cons (pe_tup (pa_cons pe_str (pa_cons (pe_fld (pv 0) rfl) (pa_cons (pe_fld (pv 1) rfl) pa_nil)))) (pa_cons (pe_call G_all_columns (hr.mono (by decide)) rfl g_all_columns F_all_columns.kp B_all_columns .nil pass0 (pa_cons (pe_fld (pv 0) rfl) (pa_cons (pe_fld (pv 1) rfl) pa_nil))) pa_nil))))), ?_⟩
    unfold StX.tMakeR
    walk_at "rd"
    refine ⟨_, rfl, a, D, dx, _, _, rfl, ha, T.cl, T.nT, lk_tree, ?_⟩
    walk_at "rd"
    refine ⟨_, rfl, b, D, dy, _, _, rfl, hb, T.cl, T.nT, lk_tree, ?_⟩
    walk_at "rd"
    refine ⟨size_of (Nat.le_of_ble_eq_true rfl), fun t h0 => ?_⟩
    obtain ⟨H1, e1, s1, h1⟩ := new_heap (o := .tup [.str "and", v, u]) h0
    rw [e1]
    walk_at "rd"
    refine ⟨_, rfl, a, D, dx, _, _, rfl, s1 _ _ ha, T.cl, T.nC, lk_columns, ?_⟩
    walk_at "rd"
    refine ⟨_, rfl, b, D, dy, _, _, rfl, s1 _ _ hb, T.cl, T.nC, lk_columns, ?_⟩
    walk_at "rd"
    refine ⟨p, q, cs, ds, rfl, s1 _ _ hp, s1 _ _ hq, by have := oa.len; have := ob.len; omega, fun m H2 es s2 h2 oe => ?_⟩
    walk_at "rd"
    have tr : TreeAt H2 (.an l r) (.ref t) := ⟨t, v, u, rfl, s2 _ _ h1, (ta.up s1).up s2, (tb.up s1).up s2⟩
    refine mk_fil (cs := es) tr h2 ⟨oe.up, oe.nd, fun c => ?_, ?_⟩ fun x H' s3 hf => k x H' (fun b o z => s3 _ _ (s2 _ _ (s1 _ _ z))) hf
    · rw [oe.mem, oa.mem, ob.mem]
      exact List.mem_append.symm
    · have := oe.len
      have := oa.len
      have := ob.len
      simp only [Tr.cols, List.length_append]
      omega
abbrev s_Filter__or : Stmt := inClass (top 17) 6
theorem sc_Filter__or : FnScope ["self", "other"] ["self", "other"] (defScope s_Filter__or) := ⟨rfl, rfl, rfl, by decide +kernel, rfl, by decide +kernel, by decide +kernel⟩
def sp_for (D : Addr) : Sp := fun vs H Q _ => ∃ a b l r, vs = [.ref a, .ref b] ∧ Fil D H a l ∧ Fil D H b r ∧ l.cols.length + r.cols.length < 64 ∧ NewF D H Q (.ou l r)
theorem ok_for {f fA : Addr} {fd fdI fdA : FuncData} (F : Fun K "__or__" "Filter.__or__" s_Filter__or f fd) (FI : Fun K "__init__" "Filter.__init__" s_Filter__init fJ fdI) (B_init : Binds K fdI ["self", "tree", "columns"] []) (T : ClsF K mg D fJ)
    (F_all_columns : Fun K "all_columns" "all_columns" s_all_columns fA fdA) (B_all_columns : Binds K fdA ["one", "other"] []) (g_all_columns : mg "all_columns" = some (.ref fA)) (G_all_columns : FnOk P w K mg base CX0 1 fA fdA ["one", "other"] sp_all_columns) :
    FnOk P w K mg base CX0 3 f fd ["self", "other"] (sp_for D) := by
  have RI : FnR P w K mg base CX0 1 fJ (spJ D) := FnOk.raw (ok_finit FI T) B_init .nil
  have M := T.M
  have g_CF := T.g_CF
  refine F.ok sc_Filter__or (fun vs H Q E h => ?_) (fun cdv A outer s H vs Q E hr h => ?_)
  · obtain ⟨a, b, l, r, rfl, _⟩ := h
    rfl
  · obtain ⟨a, b, l, r, rfl, ⟨dx, v, p, cs, ha, ta, hp, oa⟩, ⟨dy, u, q, ds, hb, tb, hq, ob⟩, hz, k⟩ := h
    refine ⟨_, (pss_one (ps_ret (StX.pe_makeR M RI (hr.mono (by decide)) rfl g_CF pass0 (pa_cons (pe_tup (pa_cons pe_str (pa_cons (pe_fld (pv 0) rfl) (pa_cons (pe_fld (pv 1) rfl) pa_nil)))) (pa_cons (pe_call G_all_columns (hr.mono (by decide)) rfl g_all_columns F_all_columns.kp B_all_columns .nil pass0 (pa_cons (pe_fld (pv 0) rfl) (pa_cons (pe_fld (pv 1) rfl) pa_nil))) pa_nil))))), ?_⟩
    unfold StX.tMakeR
    walk_at "rd"
    refine ⟨_, rfl, a, D, dx, _, _, rfl, ha, T.cl, T.nT, lk_tree, ?_⟩
    walk_at "rd"
    refine ⟨_, rfl, b, D, dy, _, _, rfl, hb, T.cl, T.nT, lk_tree, ?_⟩
    walk_at "rd"
    refine ⟨size_of (Nat.le_of_ble_eq_true rfl), fun t h0 => ?_⟩
    obtain ⟨H1, e1, s1, h1⟩ := new_heap (o := .tup [.str "or", v, u]) h0
    rw [e1]
    walk_at "rd"
    refine ⟨_, rfl, a, D, dx, _, _, rfl, s1 _ _ ha, T.cl, T.nC, lk_columns, ?_⟩
    walk_at "rd"
    refine ⟨_, rfl, b, D, dy, _, _, rfl, s1 _ _ hb, T.cl, T.nC, lk_columns, ?_⟩
    walk_at "rd"
    refine ⟨p, q, cs, ds, rfl, s1 _ _ hp, s1 _ _ hq, by have := oa.len; have := ob.len; omega, fun m H2 es s2 h2 oe => ?_⟩
    walk_at "rd"
    have tr : TreeAt H2 (.ou l r) (.ref t) := ⟨t, v, u, rfl, s2 _ _ h1, (ta.up s1).up s2, (tb.up s1).up s2⟩
    refine mk_fil (cs := es) tr h2 ⟨oe.up, oe.nd, fun c => ?_, ?_⟩ fun x H' s3 hf => k x H' (fun b o z => s3 _ _ (s2 _ _ (s1 _ _ z))) hf
    · rw [oe.mem, oa.mem, ob.mem]
      exact List.mem_append.symm
    · have := oe.len
      have := oa.len
      have := ob.len
      simp only [Tr.cols, List.length_append]
      omega
abbrev s_Filter__invert : Stmt := inClass (top 17) 7
theorem sc_Filter__invert : FnScope ["self"] ["self"] (defScope s_Filter__invert) := ⟨rfl, rfl, rfl, by decide +kernel, rfl, by decide +kernel, by decide +kernel⟩
def sp_finv (D : Addr) : Sp := fun vs H Q _ => ∃ a t, vs = [.ref a] ∧ Fil D H a t ∧ NewF D H Q (.no t)
theorem ok_finv {f : Addr} {fd fdI : FuncData} (F : Fun K "__invert__" "Filter.__invert__" s_Filter__invert f fd) (FI : Fun K "__init__" "Filter.__init__" s_Filter__init fJ fdI) (B_init : Binds K fdI ["self", "tree", "columns"] []) (T : ClsF K mg D fJ) :
    FnOk P w K mg base CX0 3 f fd ["self"] (sp_finv D) := by
  have RI : FnR P w K mg base CX0 1 fJ (spJ D) := FnOk.raw (ok_finit FI T) B_init .nil
  have M := T.M
  have g_CF := T.g_CF
  refine F.ok sc_Filter__invert (fun vs H Q E h => ?_) (fun cdv A outer s H vs Q E hr h => ?_)
  · obtain ⟨a, t, rfl, _⟩ := h
    rfl
  · obtain ⟨a, t, rfl, ⟨dx, v, p, cs, ha, ta, hp, oa⟩, k⟩ := h
    refine ⟨_, (pss_one (ps_ret (StX.pe_makeR M RI (hr.mono (by decide)) rfl g_CF pass0 (pa_cons (pe_tup (pa_cons pe_str (pa_cons (pe_fld (pv 0) rfl) pa_nil))) (pa_cons (pe_fld (pv 0) rfl) pa_nil))))), ?_⟩
    unfold StX.tMakeR
    walk_at "rd"
    refine ⟨_, rfl, a, D, dx, _, _, rfl, ha, T.cl, T.nT, lk_tree, ?_⟩
    walk_at "rd"
    refine ⟨size_of (Nat.le_of_ble_eq_true rfl), fun q h0 => ?_⟩
    obtain ⟨H1, e1, s1, h1⟩ := new_heap (o := .tup [.str "not", v]) h0
    rw [e1]
    walk_at "rd"
    refine ⟨_, rfl, a, D, dx, _, _, rfl, s1 _ _ ha, T.cl, T.nC, lk_columns, ?_⟩
    walk_at "rd"
    have tr : TreeAt H1 (.no t) (.ref q) := ⟨q, v, rfl, h1, ta.up s1⟩
    exact mk_fil (cs := cs) tr (s1 _ _ hp) oa fun x H' s3 hf => k x H' (fun b o z => s3 _ _ (s1 _ _ z)) hf
abbrev s_Filter__call : Stmt := inClass (top 17) 9
theorem sc_Filter__call : FnScope ["self", "values"] ["self", "values"] (defScope s_Filter__call) := ⟨rfl, rfl, rfl, by decide +kernel, rfl, by decide +kernel, by decide +kernel⟩
/-- a filter of at most this depth, called -/
def sp_fcall (D : Addr) (d : Nat) : Sp := fun vs H Q _ => ∃ a t m ρ, vs = [.ref a, .ref m] ∧ Fil D H a t ∧ t.deep ≤ d ∧ ValsAt H m ρ t.cols ∧ ∀ H', Same H H' → Q (tv (t.sem ρ)) H'
theorem ok_fcall {d : Nat} {f fA : Addr} {fd fdA : FuncData} (F : Fun K "__call__" "Filter.__call__" s_Filter__call f fd) (T : ClsF K mg D fJ)
    (F_truth_of : Fun K "truth_of" "truth_of" s_truth_of fA fdA) (B_truth_of : Binds K fdA ["tree", "values"] []) (g_truth_of : mg "truth_of" = some (.ref fA)) (G_truth_of : FnOk P w K mg base CX0 (d + 3) fA fdA ["tree", "values"] (sp_truth d)) :
    FnOk P w K mg base CX0 (d + 4) f fd ["self", "values"] (sp_fcall D d) := by
  refine F.ok sc_Filter__call (fun vs H Q E h => ?_) (fun cdv A outer s H vs Q E hr h => ?_)
  · obtain ⟨a, t, m, ρ, rfl, _⟩ := h
    rfl
  · obtain ⟨a, t, m, ρ, rfl, ⟨dx, v, p, cs, ha, ta, hp, oa⟩, hd, hv, k⟩ := h
    refine ⟨_, (pss_one (ps_ret (pe_call G_truth_of (hr.mono (by omega)) rfl g_truth_of F_truth_of.kp B_truth_of .nil pass0 (pa_cons (pe_fld (pv 0) rfl) (pa_cons (pv 1) pa_nil))))), ?_⟩
    walk_at "rd"
    refine ⟨_, rfl, a, D, dx, _, _, rfl, ha, T.cl, T.nT, lk_tree, ?_⟩
    walk_at "rd"
    exact ⟨t, v, m, ρ, rfl, ta, hd, hv, k⟩
end
end Spk

set_option Elab.async false
set_option linter.all false
set_option maxRecDepth 100000
set_option maxHeartbeats 1000000
namespace Spk
open PySem L2
local macro_rules | `(tactic| walk_at "rd") => `(tactic| repeat (first
  | with_reducible refine i_seq ?_ | with_reducible refine i_asg ?_ | with_reducible refine i_ret ?_ | with_reducible refine i_ifS ?_ | with_reducible refine i_if ?_
  | with_reducible refine i_for ?_ | with_reducible refine i_iL ?_ | with_reducible refine i_iT ?_ | with_reducible refine i_ckw ?_ | with_reducible refine i_cm ?_ | with_reducible refine And.intro (rfl : V.ref _ = V.ref _) ?_ | with_reducible refine i_rng1 ?_ | with_reducible refine i_bm ?_ | with_reducible refine i_bm0 ?_
  | with_reducible refine i_drop ?_ | with_reducible refine i_next ?_
  | with_reducible refine i_var rfl ?_ | with_reducible refine i_c ?_ | with_reducible refine i_op ?_ | with_reducible refine i_un ?_ | with_reducible refine i_name ?_
  | with_reducible refine i_rI0 ?_ | with_reducible refine i_rU ?_ | with_reducible refine i_rEq rfl ?_ | with_reducible refine i_rNe rfl ?_
  | with_reducible refine i_test ?_ | with_reducible refine i_tB ?_ | with_reducible refine i_and ?_ | with_reducible refine i_or ?_ | with_reducible refine i_not ?_
  | with_reducible refine i_andV ?_ | with_reducible refine i_orV ?_ | with_reducible refine i_notV ?_
  | with_reducible refine i_cons ?_ | with_reducible refine i_nil ?_ | with_reducible refine i_cb ?_ | with_reducible refine i_call ?_ | with_reducible refine i_bl ?_
  | with_reducible refine i_tup ?_ | with_reducible refine i_lst ?_ | with_reducible refine i_par ?_ | with_reducible refine i_gcons ?_ | with_reducible refine i_gnil ?_
  | with_reducible refine And.intro (rfl : V.non = V.non) ?_ | with_reducible refine i_ixT (by assumption) rfl ?_ | with_reducible refine i_ixL (by assumption) rfl ?_ | with_reducible refine i_gtup (by assumption) rfl ?_
  | with_reducible refine i_gsub ?_
  | with_reducible refine Or.inl (Exists.intro _ (And.intro (rfl : [V.int _] = [V.int _]) ?_)) | with_reducible refine Exists.intro _ (And.intro (rfl : [V.int _] = [V.int _]) ?_)
  | with_reducible refine Or.inr (Exists.intro _ (And.intro (rfl : [V.bl _] = [V.bl _]) ?_))
  | with_reducible refine Exists.intro _ (Exists.intro _ (And.intro (rfl : [V.int _, V.int _] = [V.int _, V.int _]) ?_))
  | with_reducible refine Exists.intro _ (Exists.intro _ (And.intro (rfl : [V.ref _] = [V.ref _]) (And.intro (Or.inl (SqL.of (by assumption))) ?_)))
  | with_reducible refine i_rI (show (0 : Int) < _ by assumption) ?_ | with_reducible refine i_rI (show (0 : Int) < _ by decide) ?_
  | with_reducible refine i_rI (pow_ok (Nat.le_of_ble_eq_true rfl) (Nat.le_of_ble_eq_true rfl)) ?_
  | with_reducible refine i_rI (cmulL rfl) ?_))
/-! ### trees as data -/
def treeD : Tr → PyData
  | .wi c ps => .tuple [.str "within", .str c, psD ps]
  | .mi c => .tuple [.str "missing", .str c]
  | .al => .tuple [.str "always"]
  | .ne => .tuple [.str "never"]
  | .an l r => .tuple [.str "and", treeD l, treeD r]
  | .ou l r => .tuple [.str "or", treeD l, treeD r]
  | .no t => .tuple [.str "not", treeD t]
theorem dpTr {K : PySem.W.Frag} {H : Hp} : ∀ {t : Tr} {v : V}, TreeAt H t v → Dp K H v (treeD t)
  | .wi c ps, v, h => by
    obtain ⟨a, p, rfl, h1, h2, _⟩ := h
    exact .tup (SqT.of h1) (.cons (.str _) (.cons (.str _) (.cons (dp_parts h2) .nil)))
  | .mi c, v, h => by
    obtain ⟨a, rfl, h1⟩ := h
    exact .tup (SqT.of h1) (.cons (.str _) (.cons (.str _) .nil))
  | .al, v, h => by
    obtain ⟨a, rfl, h1⟩ := h
    exact .tup (SqT.of h1) (.cons (.str _) .nil)
  | .ne, v, h => by
    obtain ⟨a, rfl, h1⟩ := h
    exact .tup (SqT.of h1) (.cons (.str _) .nil)
  | .an l r, v, h => by
    obtain ⟨a, x, y, rfl, h1, h2, h3⟩ := h
    exact .tup (SqT.of h1) (.cons (.str _) (.cons (dpTr h2) (.cons (dpTr h3) .nil)))
  | .ou l r, v, h => by
    obtain ⟨a, x, y, rfl, h1, h2, h3⟩ := h
    exact .tup (SqT.of h1) (.cons (.str _) (.cons (dpTr h2) (.cons (dpTr h3) .nil)))
  | .no t, v, h => by
    obtain ⟨a, x, rfl, h1, h2⟩ := h
    exact .tup (SqT.of h1) (.cons (.str _) (.cons (dpTr h2) .nil))
/-- all texts can be laid -/
def TxsOk (cs : List Str) : Prop := ∀ c, c ∈ cs → PyData.strOk c = true
theorem lay_psD (ps : List Stc) : (psD ps).canLay0 = true := by
  show PyData.canLay0 (.tuple (ps.map stD)) = true
  simp only [PyData.canLay0]
  exact lay_ps ps
theorem dep_psD (ps : List Stc) : (psD ps).depth ≤ 3 := by
  have h := dep_ps ps
  show PyData.depth (.tuple (ps.map stD)) ≤ 3
  simp only [PyData.depth]
  omega
theorem layTr : ∀ t : Tr, TxsOk t.cols → (treeD t).canLay0 = true
  | .wi c ps, h => by
    have a := h c (List.mem_singleton.mpr rfl)
    simp only [treeD, PyData.canLay0, PyData.canLayAll0, lay_psD, a, Bool.and_true]
    decide +kernel
  | .mi c, h => by
    have a := h c (List.mem_singleton.mpr rfl)
    simp only [treeD, PyData.canLay0, PyData.canLayAll0, a, Bool.and_true]
    decide +kernel
  | .al, _ => by decide +kernel
  | .ne, _ => by decide +kernel
  | .an l r, h => by
    have a := layTr l fun c hc => h c (List.mem_append_left _ hc)
    have b := layTr r fun c hc => h c (List.mem_append_right _ hc)
    simp only [treeD, PyData.canLay0, PyData.canLayAll0, a, b, Bool.and_true]
    decide +kernel
  | .ou l r, h => by
    have a := layTr l fun c hc => h c (List.mem_append_left _ hc)
    have b := layTr r fun c hc => h c (List.mem_append_right _ hc)
    simp only [treeD, PyData.canLay0, PyData.canLayAll0, a, b, Bool.and_true]
    decide +kernel
  | .no t, h => by
    have a := layTr t h
    simp only [treeD, PyData.canLay0, PyData.canLayAll0, a, Bool.and_true]
    decide +kernel
theorem depTr : ∀ t : Tr, (treeD t).depth ≤ 2 * t.deep + 2
  | .wi c ps => by
    have a := dep_psD ps
    simp only [treeD, PyData.depth, PyData.depthAll, Tr.deep]
    omega
  | .mi c => by
    simp only [treeD, PyData.depth, PyData.depthAll, Tr.deep]
    omega
  | .al => by
    simp only [treeD, PyData.depth, PyData.depthAll, Tr.deep]
    omega
  | .ne => by
    simp only [treeD, PyData.depth, PyData.depthAll, Tr.deep]
    omega
  | .an l r => by
    have a := depTr l
    have b := depTr r
    simp only [treeD, PyData.depth, PyData.depthAll, Tr.deep]
    omega
  | .ou l r => by
    have a := depTr l
    have b := depTr r
    simp only [treeD, PyData.depth, PyData.depthAll, Tr.deep]
    omega
  | .no t => by
    have a := depTr t
    simp only [treeD, PyData.depth, PyData.depthAll, Tr.deep]
    omega
theorem shapedTr {t : Tr} (h : TxsOk t.cols) (d : t.deep ≤ 22) : SeqAt.shaped (treeD t) = true := by
  have a := layTr t h
  have b := depTr t
  unfold SeqAt.shaped
  rw [a, Bool.true_and, decide_eq_true_eq]
  omega
theorem dps_strs {K : PySem.W.Frag} {H : Hp} : ∀ cs : List Str, DpAll K H (cs.map V.str) (cs.map PyData.str)
  | [] => .nil
  | c :: cs => .cons (.str c) (dps_strs cs)
theorem lay_strs : ∀ {cs : List Str}, TxsOk cs → PyData.canLayAll0 (cs.map PyData.str) = true
  | [], _ => by simp [PyData.canLayAll0]
  | c :: cs, h => by
    have a := h c List.mem_cons_self
    have b := lay_strs (cs := cs) fun d hd => h d (List.mem_cons_of_mem _ hd)
    simp [PyData.canLayAll0, PyData.canLay0, a, b]
theorem dep_strs : ∀ cs : List Str, PyData.depthAll (cs.map PyData.str) = 0
  | [] => by simp [PyData.depthAll]
  | c :: cs => by simp [PyData.depthAll, PyData.depth, dep_strs cs]
theorem shaped_strsT {cs : List Str} (h : TxsOk cs) : SeqAt.shaped (.tuple (cs.map PyData.str)) = true := by
  have a := lay_strs h
  have b := dep_strs cs
  have c : (PyData.tuple (cs.map PyData.str)).depth ≤ 64 := by
    simp only [PyData.depth]
    omega
  unfold SeqAt.shaped
  rw [Bool.and_eq_true, decide_eq_true_eq]
  exact ⟨by simpa only [PyData.canLay0] using a, c⟩

theorem beq_dec (a b : Str) : (a == b) = decide (a = b) := by
  rw [Bool.eq_iff_iff]
  simp
theorem no_words {a b : Str} {xs ys : List PyData} {t u : Tr} (h : (a == b) = false) (n : t ≠ u) : PyData.eqv (.tuple (.str a :: xs)) (.tuple (.str b :: ys)) = decide (t = u) := by
  have e : PyData.eqv (.str a) (.str b) = (a == b) := by simp [PyData.eqv]
  rw [decide_eq_false n]
  simp only [PyData.eqv, PyData.eqvAll] at *
  rw [h, Bool.false_and]
theorem same_words {a : Str} {xs ys : List PyData} {c : Bool} (h : PyData.eqvAll xs ys = c) : PyData.eqv (.tuple (.str a :: xs)) (.tuple (.str a :: ys)) = c := by
  simp only [PyData.eqv, PyData.eqvAll]
  rw [beq_self_eq_true, Bool.true_and]
  exact h
theorem two_all {x y x2 y2 : PyData} {a b : Bool} (h1 : PyData.eqv x x2 = a) (h2 : PyData.eqv y y2 = b) : PyData.eqvAll [x, y] [x2, y2] = (a && b) := by
  simp only [PyData.eqvAll, h1, h2, Bool.and_true]
theorem one_all {x x2 : PyData} {a : Bool} (h1 : PyData.eqv x x2 = a) : PyData.eqvAll [x] [x2] = a := by
  simp only [PyData.eqvAll, h1, Bool.and_true]
theorem dec_and {p q : Prop} [Decidable p] [Decidable q] : (decide p && decide q) = decide (p ∧ q) := by
  by_cases h1 : p <;> by_cases h2 : q <;> simp [h1, h2]
theorem eqv_str (a b : Str) : PyData.eqv (.str a) (.str b) = decide (a = b) := by
  simp only [PyData.eqv]
  exact beq_dec a b
theorem dec_iff {p q : Prop} [Decidable p] [Decidable q] (h : p ↔ q) : decide p = decide q := by
  by_cases h1 : p
  · rw [decide_eq_true h1, decide_eq_true (h.mp h1)]
  · rw [decide_eq_false h1, decide_eq_false fun z => h1 (h.mpr z)]
/-- data of trees are equal just if the trees are -/
theorem eqv_treeD : ∀ t u : Tr, PyData.eqv (treeD t) (treeD u) = decide (t = u) := by
  intro t
  induction t with
  | wi c ps =>
    intro u
    cases u with
    | wi d qs =>
      refine (same_words (two_all (eqv_str c d) (eqv_psD ps qs))).trans (dec_and.trans (dec_iff ?_))
      simp
    | _ => exact no_words rfl (by intro h; cases h)
  | mi c =>
    intro u
    cases u with
    | mi d =>
      refine (same_words (one_all (eqv_str c d))).trans (dec_iff ?_)
      simp
    | _ => exact no_words rfl (by intro h; cases h)
  | al =>
    intro u
    cases u with
    | al => exact (same_words (c := true) rfl).trans (decide_eq_true rfl).symm
    | _ => exact no_words rfl (by intro h; cases h)
  | ne =>
    intro u
    cases u with
    | ne => exact (same_words (c := true) rfl).trans (decide_eq_true rfl).symm
    | _ => exact no_words rfl (by intro h; cases h)
  | an l r ihl ihr =>
    intro u
    cases u with
    | an l2 r2 =>
      refine (same_words (two_all (ihl l2) (ihr r2))).trans (dec_and.trans (dec_iff ?_))
      simp
    | _ => exact no_words rfl (by intro h; cases h)
  | ou l r ihl ihr =>
    intro u
    cases u with
    | ou l2 r2 =>
      refine (same_words (two_all (ihl l2) (ihr r2))).trans (dec_and.trans (dec_iff ?_))
      simp
    | _ => exact no_words rfl (by intro h; cases h)
  | no t ih =>
    intro u
    cases u with
    | no t2 =>
      refine (same_words (one_all (ih t2))).trans (dec_iff ?_)
      simp
    | _ => exact no_words rfl (by intro h; cases h)
end Spk

set_option Elab.async false
set_option linter.all false
set_option maxRecDepth 100000
set_option maxHeartbeats 1000000
namespace Spk
open PySem L2
local macro_rules | `(tactic| walk_at "rd") => `(tactic| repeat (first
  | with_reducible refine i_seq ?_ | with_reducible refine i_asg ?_ | with_reducible refine i_ret ?_ | with_reducible refine i_ifS ?_ | with_reducible refine i_if ?_
  | with_reducible refine i_for ?_ | with_reducible refine i_iL ?_ | with_reducible refine i_iT ?_ | with_reducible refine i_ckw ?_ | with_reducible refine i_cm ?_ | with_reducible refine And.intro (rfl : V.ref _ = V.ref _) ?_ | with_reducible refine i_rng1 ?_ | with_reducible refine i_bm ?_ | with_reducible refine i_bm0 ?_
  | with_reducible refine i_drop ?_ | with_reducible refine i_next ?_
  | with_reducible refine i_var rfl ?_ | with_reducible refine i_c ?_ | with_reducible refine i_op ?_ | with_reducible refine i_un ?_ | with_reducible refine i_name ?_
  | with_reducible refine i_rI0 ?_ | with_reducible refine i_rU ?_ | with_reducible refine i_rEq rfl ?_ | with_reducible refine i_rNe rfl ?_
  | with_reducible refine i_test ?_ | with_reducible refine i_tB ?_ | with_reducible refine i_and ?_ | with_reducible refine i_or ?_ | with_reducible refine i_not ?_
  | with_reducible refine i_andV ?_ | with_reducible refine i_orV ?_ | with_reducible refine i_notV ?_
  | with_reducible refine i_cons ?_ | with_reducible refine i_nil ?_ | with_reducible refine i_cb ?_ | with_reducible refine i_call ?_ | with_reducible refine i_bl ?_
  | with_reducible refine i_tup ?_ | with_reducible refine i_lst ?_ | with_reducible refine i_par ?_ | with_reducible refine i_gcons ?_ | with_reducible refine i_gnil ?_
  | with_reducible refine And.intro (rfl : V.non = V.non) ?_ | with_reducible refine i_ixT (by assumption) rfl ?_ | with_reducible refine i_ixL (by assumption) rfl ?_ | with_reducible refine i_gtup (by assumption) rfl ?_
  | with_reducible refine i_gsub ?_
  | with_reducible refine Or.inl (Exists.intro _ (And.intro (rfl : [V.int _] = [V.int _]) ?_)) | with_reducible refine Exists.intro _ (And.intro (rfl : [V.int _] = [V.int _]) ?_)
  | with_reducible refine Or.inr (Exists.intro _ (And.intro (rfl : [V.bl _] = [V.bl _]) ?_))
  | with_reducible refine Exists.intro _ (Exists.intro _ (And.intro (rfl : [V.int _, V.int _] = [V.int _, V.int _]) ?_))
  | with_reducible refine Exists.intro _ (Exists.intro _ (And.intro (rfl : [V.ref _] = [V.ref _]) (And.intro (Or.inl (SqL.of (by assumption))) ?_)))
  | with_reducible refine i_rI (show (0 : Int) < _ by assumption) ?_ | with_reducible refine i_rI (show (0 : Int) < _ by decide) ?_
  | with_reducible refine i_rI (pow_ok (Nat.le_of_ble_eq_true rfl) (Nat.le_of_ble_eq_true rfl)) ?_
  | with_reducible refine i_rI (cmulL rfl) ?_))
/-! ### filters compared -/
/-- what else is told of the class Filter -/
structure ClsE (K : PySem.W.Frag) (D fQ : Addr) : Prop where
  eq : OwnEq K D fQ
  cls : PySem.W.findIn K (.ref D) "__class__" = some (some (.builtin "object.__class__"))
  get : PySem.W.specialIn K (.builtin "object.__class__") "__get__" = some (some (.builtin "getset_descriptor.__get__"))
  tk : PySem.W.takesIn K (.builtin "object.__class__") = some true
  mro : PySem.W.mroIn K D (.type "object") = some true
  kit : PySem.W.kitOne K (.ref D) (.ref D) = some true
  kn : PySem.W.kitOne K (.type "NoneType") (.ref D) = some false
  kb : PySem.W.kitOne K (.type "bool") (.ref D) = some false
  ki : PySem.W.kitOne K (.type "int") (.ref D) = some false
  ks : PySem.W.kitOne K (.type "str") (.ref D) = some false
  kl : PySem.W.kitOne K (.type "list") (.ref D) = some false
  kt : PySem.W.kitOne K (.type "tuple") (.ref D) = some false
/-- a tree whose data can be compared -/
structure Fits (t : Tr) : Prop where
  tx : TxsOk t.cols
  dp : t.deep ≤ 22
section
variable {P : Program} {w : World} {K : PySem.W.Frag} {mg : Str → Option Value} {base : Heap} {C D fJ fQ fI fE : Addr} {mc : Value} {pe pb po pf ge gb go gf fO : Addr} {md : Value} {pw pm pa pn gw gm ga gn hA hO hV hC : Addr}
theorem Fil.ty {H : Hp} {r : Addr} {t : Tr} (T : ClsF K mg D fJ) (U : ClsE K D fQ) (h : Fil D H r t) : TyX K H (.ref r) (.ref D) := by
  obtain ⟨dx, v, q, cs, a, _⟩ := h
  exact .base (.ins a T.cl U.cls U.get U.tk U.mro)
theorem ClsE.odd {H : Hp} {y : V} {X : String} (U : ClsE K D fQ) (o : Odd H y X) : PySem.W.kitOne K (.type X) (.ref D) = some false := by
  cases o with
  | non => exact U.kn
  | bl b => exact U.kb
  | int i => exact U.ki
  | str x => exact U.ks
  | lst h => exact U.kl
  | tup h => exact U.kt
abbrev s_Filter__eq : Stmt := inClass (top 17) 8
theorem sc_Filter__eq : FnScope ["self", "other"] ["self", "other"] (defScope s_Filter__eq) := ⟨rfl, rfl, rfl, by decide +kernel, rfl, by decide +kernel, by decide +kernel⟩
def sp_feq (D : Addr) : Sp := fun vs H Q _ => ∃ a y t k, vs = [.ref a, y] ∧ Fil D H a t ∧ Fits t ∧ ((∃ b u, y = .ref b ∧ Fil D H b u ∧ Fits u ∧ k = decide (t = u)) ∨ (∃ X, Odd H y X ∧ k = false)) ∧ Q (.bl k) H
theorem ok_feq {fd : FuncData} (F : Fun K "__eq__" "Filter.__eq__" s_Filter__eq fQ fd) (T : ClsF K mg D fJ) (U : ClsE K D fQ) (z_isinstance : mg "isinstance" = none) : FnOk P w K mg base CX0 1 fQ fd ["self", "other"] (sp_feq D) := by
  have g_CF := T.g_CF
  refine F.ok sc_Filter__eq (fun vs H Q E h => ?_) (fun cdv A outer s H vs Q E hr h => ?_)
  · obtain ⟨a, y, t, k, rfl, _⟩ := h
    rfl
  · obtain ⟨a, y, t, k, rfl, ra, tok, h, q⟩ := h
    refine ⟨_, (pss_one (ps_ret (pe_and (pe_callB call_isi (by rfl) z_isinstance (by decide +kernel) (pa_cons (pv 1) (pa_cons (pe_glob rfl g_CF (relR _)) pa_nil))) (pe_one (pe_cmpR (op_eqD hr.units) (pe_fld (pv 0) rfl) (pe_fld (pv 1) rfl) (nomark _)))))), ?_⟩
    walk_at "rd"
    rcases h with ⟨b, u, rfl, rb, uok, rfl⟩ | ⟨X, o, rfl⟩
    · refine ⟨_, _, _, _, true, rfl, .own D, rb.ty T U, U.kit, true, rfl, iteT ?_⟩
      obtain ⟨dx, v, p, cs, ha, ta, _⟩ := ra
      obtain ⟨dy, v2, p2, ds, hb, tb, _⟩ := rb
      walk_at "rd"
      refine ⟨_, rfl, a, D, dx, _, _, rfl, ha, T.cl, T.nT, lk_tree, ?_⟩
      refine ⟨_, rfl, b, D, dy, _, _, rfl, hb, T.cl, T.nT, lk_tree, ?_⟩
      refine ⟨treeD t, treeD u, dpTr ta, dpTr tb, shapedTr tok.tx tok.dp, shapedTr uok.tx uok.dp, ?_⟩
      rw [eqv_treeD]
      exact q
    · exact ⟨_, _, _, _, false, rfl, .own D, o.ty, U.odd o, false, rfl, iteF q⟩
theorem self_nf : PySem.W.notFirst K C (.ref C) = true := by simp [PySem.W.notFirst]
end
end Spk

set_option Elab.async false
set_option linter.all false
set_option maxRecDepth 100000
set_option maxHeartbeats 1000000
namespace Spk
open PySem L2 TL
local macro_rules | `(tactic| walk_at "rd") => `(tactic| repeat (first
  | with_reducible refine i_seq ?_ | with_reducible refine i_asg ?_ | with_reducible refine i_ret ?_ | with_reducible refine i_ifS ?_ | with_reducible refine i_if ?_
  | with_reducible refine i_for ?_ | with_reducible refine i_iL ?_ | with_reducible refine i_iT ?_ | with_reducible refine i_ckw ?_ | with_reducible refine i_cm ?_ | with_reducible refine And.intro (rfl : V.ref _ = V.ref _) ?_ | with_reducible refine i_rng1 ?_ | with_reducible refine i_bm ?_ | with_reducible refine i_bm0 ?_
  | with_reducible refine i_drop ?_ | with_reducible refine i_next ?_
  | with_reducible refine i_var rfl ?_ | with_reducible refine i_c ?_ | with_reducible refine i_op ?_ | with_reducible refine i_un ?_ | with_reducible refine i_name ?_
  | with_reducible refine i_rI0 ?_ | with_reducible refine i_rU ?_ | with_reducible refine i_rEq rfl ?_ | with_reducible refine i_rNe rfl ?_
  | with_reducible refine i_test ?_ | with_reducible refine i_tB ?_ | with_reducible refine i_and ?_ | with_reducible refine i_or ?_ | with_reducible refine i_not ?_
  | with_reducible refine i_andV ?_ | with_reducible refine i_orV ?_ | with_reducible refine i_notV ?_
  | with_reducible refine i_cons ?_ | with_reducible refine i_nil ?_ | with_reducible refine i_cb ?_ | with_reducible refine i_call ?_ | with_reducible refine i_bl ?_
  | with_reducible refine i_tup ?_ | with_reducible refine i_lst ?_ | with_reducible refine i_par ?_ | with_reducible refine i_gcons ?_ | with_reducible refine i_gnil ?_
  | with_reducible refine And.intro (rfl : V.non = V.non) ?_ | with_reducible refine i_ixT (by assumption) rfl ?_ | with_reducible refine i_ixL (by assumption) rfl ?_ | with_reducible refine i_gtup (by assumption) rfl ?_
  | with_reducible refine i_gsub ?_
  | with_reducible refine Or.inl (Exists.intro _ (And.intro (rfl : [V.int _] = [V.int _]) ?_)) | with_reducible refine Exists.intro _ (And.intro (rfl : [V.int _] = [V.int _]) ?_)
  | with_reducible refine Or.inr (Exists.intro _ (And.intro (rfl : [V.bl _] = [V.bl _]) ?_))
  | with_reducible refine Exists.intro _ (Exists.intro _ (And.intro (rfl : [V.int _, V.int _] = [V.int _, V.int _]) ?_))
  | with_reducible refine Exists.intro _ (Exists.intro _ (And.intro (rfl : [V.ref _] = [V.ref _]) (And.intro (Or.inl (SqL.of (by assumption))) ?_)))
  | with_reducible refine i_rI (show (0 : Int) < _ by assumption) ?_ | with_reducible refine i_rI (show (0 : Int) < _ by decide) ?_
  | with_reducible refine i_rI (pow_ok (Nat.le_of_ble_eq_true rfl) (Nat.le_of_ble_eq_true rfl)) ?_
  | with_reducible refine i_rI (cmulL rfl) ?_))
theorem shaped_strsL {cs : List Str} (h : TxsOk cs) : SeqAt.shaped (.list (cs.map PyData.str)) = true := by
  have a := lay_strs h
  have b := dep_strs cs
  have c : (PyData.list (cs.map PyData.str)).depth ≤ 64 := by
    simp only [PyData.depth]
    omega
  unfold SeqAt.shaped
  rw [Bool.and_eq_true, decide_eq_true_eq]
  exact ⟨by simpa only [PyData.canLay0] using a, by omega⟩
/-- the signs of a text of a part -/
theorem part_signs {s : Stc} : ∀ c, c ∈ tl (partT s) → 45 ≤ c ∧ c ≤ 57 := fun c hc => by
  by_cases h : c < 45 ∨ 57 < c
  · exact absurd hc (partT_free h)
  · omega
theorem part_ok {s : Stc} : PyData.strOk (partT s) = true := by
  unfold PyData.strOk
  rw [Array.all_eq_true']
  intro c hc
  have := part_signs c (Array.mem_def.mp hc)
  rw [decide_eq_true_eq]
  omega
section
variable {P : Program} {w : World} {K : PySem.W.Frag} {mg : Str → Option Value} {base : Heap} {C fI fE : Addr} {mc : Value} {pe pb ge gb fO : Addr}
/-! ### the law's own pieces -/
abbrev s_bound : Stmt := top 50
theorem sc_bound : FnScope ["_law_pen_here", "_law_pick"] ["_law_pen_here"] (defScope s_bound) := ⟨rfl, rfl, rfl, by decide +kernel, rfl, by decide +kernel, by decide +kernel⟩
def sp_bound : Sp := fun vs H Q _ => ∃ p L n, vs = [.ref p] ∧ Pen H p L n ∧ n ≤ 9990 ∧ ∀ e H', e.natAbs < 10 ^ 12 → Keep H H' → Pen H' p L (n + 3) → Q (.int e) H'
theorem ok_bound {f fD : Addr} {fd fdD : FuncData} (F : Fun K "_law_bound" "_law_bound" s_bound f fd) (F_draw : Fun K "_law_draw" "_law_draw" s_draw fD fdD) (B_draw : Binds K fdD ["_law_pen_here", "_law_many"] []) (g_draw : mg "_law_draw" = some (.ref fD))
    (G_draw : FnOk P w K mg base CX0 1 fD fdD ["_law_pen_here", "_law_many"] sp_draw) : FnOk P w K mg base CX0 2 f fd ["_law_pen_here"] sp_bound := by
  refine F.ok sc_bound (fun vs H Q E h => ?_) (fun cdv A outer s H vs Q E hr h => ?_)
  · obtain ⟨p, L, n, rfl, _⟩ := h
    rfl
  · obtain ⟨p, L, n, rfl, hp, hn, q⟩ := h
    refine ⟨_, (pss_cons (ps_set (i := 1) sc_bound.nd rfl (Or.inl rfl) (pe_call G_draw (hr.mono (by decide)) rfl g_draw F_draw.kp B_draw .nil pass0 (pa_cons (pv 0) (pa_cons pe_int pa_nil))))
 (pss_cons (ps_if (pt_cmpR op_lt (pv 1) pe_int (nomark _))
 (pss_one (ps_ret (pe_op op_sub (pe_call G_draw (hr.mono (by decide)) rfl g_draw F_draw.kp B_draw .nil pass0 (pa_cons (pv 0) (pa_cons pe_int pa_nil))) pe_int)))
 pss_nil)
 (pss_cons (ps_if (pt_cmpR op_eq (pv 1) pe_int (nomark _))
 (pss_one (ps_ret (pe_op op_mul (pe_op op_sub (pe_op op_sub (pe_op op_pow pe_int pe_int) pe_int) (pe_call G_draw (hr.mono (by decide)) rfl g_draw F_draw.kp B_draw .nil pass0 (pa_cons (pv 0) (pa_cons pe_int pa_nil)))) (pe_op op_sub pe_int (pe_op op_mul pe_int (pe_call G_draw (hr.mono (by decide)) rfl g_draw F_draw.kp B_draw .nil pass0 (pa_cons (pv 0) (pa_cons pe_int pa_nil))))))))
 pss_nil)
 (pss_one (ps_ret (pe_op op_mul (pe_call G_draw (hr.mono (by decide)) rfl g_draw F_draw.kp B_draw .nil pass0 (pa_cons (pv 0) (pa_cons (pe_op op_pow pe_int pe_int) pa_nil))) (pe_op op_sub pe_int (pe_op op_mul pe_int (pe_call G_draw (hr.mono (by decide)) rfl g_draw F_draw.kp B_draw .nil pass0 (pa_cons (pv 0) (pa_cons pe_int pa_nil))))))))))), ?_⟩
    walk_at "rd"
    refine ⟨p, L, n, 5, rfl, hp, by omega, by decide, by decide, fun k H1 k0 k6 e1 p1 => ?_⟩
    walk_at "rd"
    have sgn : ∀ e : Int, 0 ≤ e → e < 2 → 1 - 2 * e = 1 ∨ 1 - 2 * e = -1 := fun e a b => by omega
    have p12 : (10 : Int) ^ (12 : Int).toNat = 1000000000000 := by decide
    have p6 : (10 : Int) ^ (6 : Int).toNat = 1000000 := by decide
    refine ite_d (fun h => ?_) (fun h => ?_)
    · walk_at "rd"
      refine ⟨p, L, _, 14, rfl, p1, by omega, by decide, by decide, fun d H2 d0 d1 e2 p2 => ?_⟩
      walk_at "rd"
      exact q _ H2 (by omega) (e1.trans e2) (p2.mono (by omega))
    · walk_at "rd"
      refine ite_d (fun h => ?_) (fun h => ?_)
      · walk_at "rd"
        refine ⟨p, L, _, 3, rfl, p1, by omega, by decide, by decide, fun d H2 d0 d1 e2 p2 => ?_⟩
        walk_at "rd"
        refine ⟨p, L, _, 2, rfl, p2, by omega, by decide, by decide, fun e H3 f0 f1 e3 p3 => ?_⟩
        walk_at "rd"
        have mm : ∀ x : Int, (x * (1 - 2 * e)).natAbs = x.natAbs := fun x => by
          rcases sgn e f0 f1 with z | z
          · rw [z, Int.mul_one]
          · rw [z, Int.mul_neg_one, Int.natAbs_neg]
        refine i_rI (.inr ⟨by omega, by omega⟩) ?_
        exact q _ H3 (by rw [mm, p12]; omega) ((e1.trans e2).trans e3) p3
      · walk_at "rd"
        refine ⟨p, L, _, _, rfl, p1, by omega, by decide, by decide, fun d H2 d0 d1 e2 p2 => ?_⟩
        walk_at "rd"
        refine ⟨p, L, _, 2, rfl, p2, by omega, by decide, by decide, fun e H3 f0 f1 e3 p3 => ?_⟩
        walk_at "rd"
        have mm : ∀ x : Int, (x * (1 - 2 * e)).natAbs = x.natAbs := fun x => by
          rcases sgn e f0 f1 with z | z
          · rw [z, Int.mul_one]
          · rw [z, Int.mul_neg_one, Int.natAbs_neg]
        refine i_rI (.inr ⟨by omega, by omega⟩) ?_
        exact q _ H3 (by rw [mm]; rw [p6] at d1; omega) ((e1.trans e2).trans e3) p3
abbrev s_parts_text : Stmt := top 53
theorem sc_parts_text : FnScope ["_law_parts_here", "_law_texts", "_law_low", "_law_high", "_law_ends", "_law_end"] ["_law_parts_here"] (defScope s_parts_text) := ⟨rfl, rfl, rfl, by decide +kernel, rfl, by decide +kernel, by decide +kernel⟩
def sp_ptext : Sp := fun vs H Q _ => ∃ t ps, vs = [.ref t] ∧ PartsT H t ps ∧ (∀ s, s ∈ ps → FewS s) ∧ ps.length ≤ 100 ∧ ∀ H', Same H H' → Q (.str (partsT ps)) H'
theorem join_two {a b : Str} : Txt.join dots [a, b] = a ++ dots ++ b := ext_tl (by
  rw [join_eq, tl_join, tl_append, tl_append, List.append_assoc]
  rfl)
theorem parts_sum : ∀ l : List Stc, (∀ s, s ∈ l → FewS s) → ((l.map partT).map (·.length)).sum ≤ 28 * l.length
  | [], _ => Nat.le_refl _
  | x :: r, h => by
    have a := partT_len (h x (List.mem_cons_self ..))
    have b := parts_sum r fun s hs => h s (List.mem_cons_of_mem _ hs)
    simp only [List.map_cons, List.sum_cons, List.length_cons] at b ⊢
    omega
theorem ok_ptext {f : Addr} {fd : FuncData} (F : Fun K "_law_parts_text" "_law_parts_text" s_parts_text f fd) (z_str : mg "str" = none) : FnOk P w K mg base CX0 1 f fd ["_law_parts_here"] sp_ptext := by
  refine F.ok sc_parts_text (fun vs H Q E h => ?_) (fun cdv A outer s H vs Q E hr h => ?_)
  · obtain ⟨t, ps, rfl, _⟩ := h
    rfl
  · obtain ⟨t, ps, rfl, ⟨vs, ht, tu⟩, hf, hz, q⟩ := h
    refine ⟨_, (pss_cons (ps_set (i := 1) sc_parts_text.nd rfl (Or.inl rfl) (pe_lst pa_nil))
 (pss_cons (ps_for PassesOwn.never rfl (pi_tup (pv 0)) (pg_tup (by rfl) (pgs_cons (pg_name (i := 2) sc_parts_text.nd rfl (Or.inl rfl)) (pgs_cons (pg_name (i := 3) sc_parts_text.nd rfl (Or.inl rfl)) pgs_nil)))
 (pss_cons (ps_setLc (i := 4) (own := [("_law_end", 5)]) (g := gName 5) (tt := tYes) rfl sc_parts_text.nd rfl rfl (sw_true rfl rfl rfl (by decide +kernel)) (pi_tup (pe_tup (pa_cons (pv 2) (pa_cons (pv 3) pa_nil)))) (blkOk_by (own := [("_law_end", 5)]) (N := ["_law_parts_here", "_law_texts", "_law_low", "_law_high", "_law_ends", "_law_end"]) (sc := defScope s_parts_text) (by decide +kernel)) (fun _ _ _ _ _ => pg_name (i := 5) sc_parts_text.nd rfl (Or.inl rfl)) (fun _ _ _ _ _ => pts_nil) (fun _ _ _ _ _ => (pe_ifExp (pt_cmpR op_isN (pv 5) pe_non (nomark _)) pe_str (pe_callTy call_str_int (by rfl) z_str (by decide +kernel) (pa_cons (pv 5) pa_nil)))))
 (pss_one (ps_expr (pe_bm PySem.F.plainAttrs_list PySem.F.slot_list_append PySem.F.type_list_append mt_append (pv 1) (pa_cons (pe_ifExp (PW.pt (pw_and (pt_cmpR op_notN (pv 2) pe_non (nomark _)) (pw_and1 (pt_cmpR op_eq (pv 2) (pv 3) (nomark _))))) (pe_ix ix_list (pv 4) pe_int (fun _ _ => rfl)) (pe_join pe_str (pv 4))) pa_nil))))))
 (pss_one (ps_ret (pe_ifExp (pt_cmpR (op_eqD hr.units) (pv 1) (pe_lst pa_nil) (nomark _)) pe_str (pe_join pe_str (pv 1))))))), ?_⟩
    walk_at "rd"
    refine ⟨Nat.zero_le _, fun d hd0 => ?_⟩
    obtain ⟨H1, e1, s1, hd⟩ := new_heap (o := .lst []) hd0
    rw [e1]
    have hl := tups_len tu
    walk_at "rd"
    refine ⟨t, rfl, ⟨_, SqT.of (s1 _ _ ht)⟩, for_tup (K := K) (a := t) (xs := vs) (fun i σ H' => ∃ (x2 x3 x4 : Option V), σ = [some (.ref t), some (.ref d), x2, x3, x4, none] ∧ Same H H' ∧ H' d = some (.lst (((ps.take i).map partT).map V.str))) ⟨none, none, none, rfl, s1, hd⟩ ?_ ?_ ?_⟩
    · rintro i σ H' _ ⟨x2, x3, x4, rfl, s2, _⟩
      exact SqT.of (s2 _ _ ht)
    · rintro i x σ H2 hx ⟨x2, x3, x4, rfl, s2, h2⟩
      obtain ⟨hi, c, rfl, hc⟩ := item_of (tu.up s2) hx
      obtain ⟨f1, f2⟩ := hf _ (List.getElem_mem hi)
      generalize hs : ps[i] = s at *
      obtain ⟨lo, hi'⟩ := s
      dsimp only at f1 f2 hc
      walk_at "rd"
      unfold tLc
      walk_at "rd"
      refine ⟨size_of (Nat.le_of_ble_eq_true rfl), fun tp htp => ?_⟩
      obtain ⟨H3, e3, s3, h3⟩ := new_heap (o := .tup [ov lo, ov hi']) htp
      rw [e3]
      refine ⟨tp, rfl, ⟨_, SqT.of h3⟩, fun D hD => ?_⟩
      obtain ⟨H4, e4, s4, h4⟩ := new_heap (o := .lst []) hD
      refine lc_tup (K := K) (a := tp) (xs := [ov lo, ov hi']) (fun j H' => Same H3 H' ∧ H' D = some (.lst (([endT lo, endT hi'].take j).map V.str))) ⟨by rw [e4]; exact s4, by rw [e4]; exact h4⟩ ?_ ?_ ?_
      · rintro j H' _ ⟨s5, _⟩
        exact SqT.of (s5 _ _ h3)
      · rintro j x H' hx ⟨s5, h5⟩
        obtain ⟨o, rfl, fo, ho⟩ : ∃ o, x = ov o ∧ Few12 o ∧ [endT lo, endT hi'][j]? = some (endT o) := by
          match j, hx with
          | 0, hx => exact ⟨lo, (Option.some.inj hx).symm, f1, rfl⟩
          | 1, hx => exact ⟨hi', (Option.some.inj hx).symm, f2, rfl⟩
        have hj : j < 2 := (List.getElem?_eq_some_iff.mp hx).1
        have app : ∃ acc, H' D = some (.lst acc) ∧ acc.length < sizeLine ∧ Same H3 (upd H' D (.lst (acc ++ [.str (endT o)]))) ∧ upd H' D (.lst (acc ++ [.str (endT o)])) D = some (.lst (([endT lo, endT hi'].take (j + 1)).map V.str)) := by
          refine ⟨_, h5, size_lt (by rw [List.length_map, List.length_take]; simp; omega), Same.mut s5 hD, ?_⟩
          rw [upd_same, List.take_succ, ho, List.map_append]
          rfl
        walk_at "rd"
        refine ⟨rfl, i_yes (iteT ?_)⟩
        walk_at "rd"
        refine ite_d (fun he => ?_) (fun he => ?_)
        · have e := ov_non he
          subst e
          exact app
        · obtain ⟨y, rfl⟩ := ov_some he
          walk_at "rd"
          exact ⟨few_log (fo y rfl), app⟩
      · rintro H' ⟨s5, h5⟩
        have h5' : H' D = some (.lst ([endT lo, endT hi'].map V.str)) := h5
        have s25 : Same H2 H' := fun b o z => s5 _ _ (s3 _ _ z)
        have hd' := s25 _ _ h2
        walk_at "rd"
        refine ⟨.inl ⟨rfl, _, SqL.of hd'⟩, ?_⟩
        have sn : (ps.take (i + 1)).map partT = (ps.take i).map partT ++ [partT (lo, hi')] := by
          rw [List.take_succ_eq_append_getElem hi, hs, List.map_append]
          rfl
        have app : ∃ xs, H' d = some (.lst xs) ∧ xs.length < sizeLine ∧ Same H (upd H' d (.lst (xs ++ [.str (partT (lo, hi'))]))) ∧ upd H' d (.lst (xs ++ [.str (partT (lo, hi'))])) d = some (.lst (((ps.take (i + 1)).map partT).map V.str)) := by
          refine ⟨_, hd', size_lt (by rw [List.length_map, List.length_map, List.length_take]; omega), Same.mut (fun b o z => s25 _ _ (s2 _ _ z)) hd0, ?_⟩
          rw [upd_same, sn, List.map_append]
          rfl
        have l1 := endT_len f1
        have l2 := endT_len f2
        have jz : (([endT lo, endT hi'] : List Str).map (·.length)).sum + ([endT lo, endT hi'] : List Str).length * (Str.ofString "..").length ≤ 16777216 := by
          show (endT lo).length + ((endT hi').length + 0) + 2 * 2 ≤ 16777216
          omega
        have jq : Txt.join (Str.ofString "..") [endT lo, endT hi'] = endT lo ++ dots ++ endT hi' := join_two
        walk_at "rd"
        refine ite_nd (fun h => ?_) (fun h => ?_)
        · obtain ⟨n, rfl⟩ := ov_some h
          walk_at "rd"
          refine i_rEq (by cases hi' <;> rfl) ?_
          refine ⟨_, rfl, ite_d (fun h2 => ?_) (fun h2 => ?_)⟩
          · have e : some n = hi' := by
              cases hi' with
              | none => cases h2
              | some m => cases h2; rfl
            have pe : partT (some n, hi') = endT (some n) := by
              unfold partT
              rw [if_pos ⟨by simp, e⟩]
            rw [pe] at app
            obtain ⟨xs, a1, a2, a3, a4⟩ := app
            walk_at "rd"
            exact ⟨d, xs, _, rfl, rfl, a1, a2, _, _, _, rfl, a3, a4⟩
          · have e : ¬ some n = hi' := fun e => h2 (by rw [← e])
            have pe : partT (some n, hi') = endT (some n) ++ dots ++ endT hi' := by
              unfold partT
              rw [if_neg (fun z => e z.2)]
            rw [pe] at app
            obtain ⟨xs, a1, a2, a3, a4⟩ := app
            refine i_m1 ?_
            walk_at "rd"
            refine ⟨⟨_, rfl⟩, ?_⟩
            walk_at "rd"
            refine ⟨_, D, [endT (some n), endT hi'], rfl, rfl, .inl (SqL.of h5'), jz, ?_⟩
            rw [jq]
            walk_at "rd"
            exact ⟨d, xs, _, rfl, rfl, a1, a2, _, _, _, rfl, a3, a4⟩
        · have e := ov_non h
          subst e
          have pe : partT (none, hi') = endT none ++ dots ++ endT hi' := by
            unfold partT
            rw [if_neg (fun z => z.1 rfl)]
          rw [pe] at app
          obtain ⟨xs, a1, a2, a3, a4⟩ := app
          refine iteF ?_
          refine i_m1 ?_
          walk_at "rd"
          refine ⟨⟨_, rfl⟩, ?_⟩
          walk_at "rd"
          refine ⟨_, D, [endT none, endT hi'], rfl, rfl, .inl (SqL.of h5'), jz, ?_⟩
          rw [jq]
          walk_at "rd"
          exact ⟨d, xs, _, rfl, rfl, a1, a2, _, _, _, rfl, a3, a4⟩
    · rintro σ H2 ⟨x2, x3, x4, rfl, s2, h2⟩
      rw [hl, List.take_length] at h2
      walk_at "rd"
      refine ⟨Nat.zero_le _, fun r hr => ?_⟩
      obtain ⟨H3, e3, s3, h3⟩ := new_heap (o := .lst []) hr
      rw [e3]
      have ok : TxsOk (ps.map partT) := fun c hc => by
        obtain ⟨s, _, rfl⟩ := List.mem_map.mp hc
        exact part_ok
      refine ⟨.list ((ps.map partT).map PyData.str), .list (([] : List Str).map PyData.str), .lst (SqL.of (s3 _ _ h2)) (dps_strs _), .lst (SqL.of h3) (dps_strs []), shaped_strsL ok, shaped_strsL (fun c hc => absurd hc List.not_mem_nil), ?_⟩
      by_cases hne : ps = []
      · subst hne
        refine ⟨true, rfl, iteT ?_⟩
        exact q H3 (fun b o z => s3 _ _ (s2 _ _ z))
      · have ev : PyData.eqv (PyData.list ((ps.map partT).map PyData.str)) (PyData.list (([] : List Str).map PyData.str)) = false := by
          cases ps with
          | nil => exact absurd rfl hne
          | cons a r => rfl
        rw [ev]
        refine ⟨false, rfl, iteF ?_⟩
        refine i_m1 ?_
        walk_at "rd"
        refine ⟨⟨_, rfl⟩, ?_⟩
        walk_at "rd"
        refine ⟨_, d, ps.map partT, rfl, rfl, .inl (SqL.of (s3 _ _ h2)), ?_, ?_⟩
        · have a := parts_sum ps hf
          have b : ("," : Str).length = 1 := rfl
          rw [b, List.length_map]
          omega
        · rw [show Txt.join (Str.ofString ",") (ps.map partT) = partsT ps from by unfold partsT; rw [if_neg hne]]
          exact q H3 (fun b o z => s3 _ _ (s2 _ _ z))
end
end Spk

set_option Elab.async false
set_option linter.all false
set_option maxRecDepth 100000
set_option maxHeartbeats 1000000
namespace Spk
open PySem L2 TL
local macro_rules | `(tactic| walk_at "rd") => `(tactic| repeat (first
  | with_reducible refine i_seq ?_ | with_reducible refine i_asg ?_ | with_reducible refine i_ret ?_ | with_reducible refine i_ifS ?_ | with_reducible refine i_if ?_
  | with_reducible refine i_for ?_ | with_reducible refine i_iL ?_ | with_reducible refine i_iT ?_ | with_reducible refine i_ckw ?_ | with_reducible refine i_cm ?_ | with_reducible refine And.intro (rfl : V.ref _ = V.ref _) ?_ | with_reducible refine i_rng1 ?_ | with_reducible refine i_bm ?_ | with_reducible refine i_bm0 ?_
  | with_reducible refine i_drop ?_ | with_reducible refine i_next ?_
  | with_reducible refine i_var rfl ?_ | with_reducible refine i_c ?_ | with_reducible refine i_op ?_ | with_reducible refine i_un ?_ | with_reducible refine i_name ?_
  | with_reducible refine i_rI0 ?_ | with_reducible refine i_rU ?_ | with_reducible refine i_rEq rfl ?_ | with_reducible refine i_rNe rfl ?_
  | with_reducible refine i_test ?_ | with_reducible refine i_tB ?_ | with_reducible refine i_and ?_ | with_reducible refine i_or ?_ | with_reducible refine i_not ?_
  | with_reducible refine i_andV ?_ | with_reducible refine i_orV ?_ | with_reducible refine i_notV ?_
  | with_reducible refine i_cons ?_ | with_reducible refine i_nil ?_ | with_reducible refine i_cb ?_ | with_reducible refine i_call ?_ | with_reducible refine i_bl ?_
  | with_reducible refine i_tup ?_ | with_reducible refine i_lst ?_ | with_reducible refine i_par ?_ | with_reducible refine i_gcons ?_ | with_reducible refine i_gnil ?_
  | with_reducible refine And.intro (rfl : V.non = V.non) ?_ | with_reducible refine i_ixT (by assumption) rfl ?_ | with_reducible refine i_ixL (by assumption) rfl ?_ | with_reducible refine i_gtup (by assumption) rfl ?_
  | with_reducible refine i_gsub ?_
  | with_reducible refine Or.inl (Exists.intro _ (And.intro (rfl : [V.int _] = [V.int _]) ?_)) | with_reducible refine Exists.intro _ (And.intro (rfl : [V.int _] = [V.int _]) ?_)
  | with_reducible refine Or.inr (Exists.intro _ (And.intro (rfl : [V.bl _] = [V.bl _]) ?_))
  | with_reducible refine Exists.intro _ (Exists.intro _ (And.intro (rfl : [V.int _, V.int _] = [V.int _, V.int _]) ?_))
  | with_reducible refine Exists.intro _ (Exists.intro _ (And.intro (rfl : [V.ref _] = [V.ref _]) (And.intro (Or.inl (SqL.of (by assumption))) ?_)))
  | with_reducible refine i_rI (show (0 : Int) < _ by assumption) ?_ | with_reducible refine i_rI (show (0 : Int) < _ by decide) ?_
  | with_reducible refine i_rI (pow_ok (Nat.le_of_ble_eq_true rfl) (Nat.le_of_ble_eq_true rfl)) ?_
  | with_reducible refine i_rI (cmulL rfl) ?_))
section
variable {P : Program} {w : World} {K : PySem.W.Frag} {mg : Str → Option Value} {base : Heap} {C fI fE : Addr} {mc : Value} {pe pb ge gb fO : Addr}
abbrev s_Lranges : Stmt := top 52
theorem sc_Lranges : FnScope ["_law_parts_here", "_law_found", "_law_low", "_law_high"] ["_law_parts_here"] (defScope s_Lranges) := ⟨rfl, rfl, rfl, by decide +kernel, rfl, by decide +kernel, by decide +kernel⟩
def sp_rangesT (C : Addr) : Sp := fun vs H Q _ => ∃ t us ps, vs = [.ref t] ∧ H t = some (.tup us) ∧ Tups H us ps ∧ ps.length ≤ 100 ∧ ∀ r H' rs, Same H H' → Rng C H' r rs → (∀ k, hasL rs k = hasL ps k) → rs.length ≤ ps.length → Q (.ref r) H'
def sp_rangesL (C : Addr) : Sp := fun vs H Q _ => ∃ t us ps, vs = [.ref t] ∧ H t = some (.lst us) ∧ Tups H us ps ∧ ps.length ≤ 100 ∧ ∀ r H' rs, Same H H' → Rng C H' r rs → (∀ k, hasL rs k = hasL ps k) → rs.length ≤ ps.length → Q (.ref r) H'
theorem ok_rangesT {f : Addr} {fd : FuncData} (F : Fun K "_law_ranges" "_law_ranges" s_Lranges f fd) (T : ClsT K mg C fI fE) (CM : ClsM K C mc pe pb ge gb fO) (R_empty : FnR P w K mg base CX0 3 ge (fun vs H Q E => sp_empty C (vs ++ []) H Q E))
    (R_between : FnR P w K mg base CX0 3 gb (fun vs H Q E => sp_between C (vs ++ []) H Q E)) (R_or : FnR P w K mg base CX0 5 fO (fun vs H Q E => sp_or C (vs ++ []) H Q E)) : FnOk P w K mg base CX0 6 f fd ["_law_parts_here"] (sp_rangesT C) := by
  have g_C := T.g_C
  refine F.ok sc_Lranges (fun vs H Q E h => ?_) (fun cdv A outer s H vs Q E hr h => ?_)
  · obtain ⟨t, us, ps, rfl, _⟩ := h
    rfl
  · obtain ⟨t, us, ps, rfl, ht, tu, hz, q⟩ := h
    refine ⟨_, (pss_cons (ps_set (i := 1) sc_Lranges.nd rfl (Or.inl rfl) (pe_cmeth0 (pe_glob rfl g_C (relR _)) CM.rd CM.empty R_empty (hr.mono (by decide)) pass0))
 (pss_cons (ps_for PassesOwn.never rfl (pi_tup (pv 0)) (pg_tup (by rfl) (pgs_cons (pg_name (i := 2) sc_Lranges.nd rfl (Or.inl rfl)) (pgs_cons (pg_name (i := 3) sc_Lranges.nd rfl (Or.inl rfl)) pgs_nil)))
 (pss_one (ps_set (i := 1) sc_Lranges.nd rfl (Or.inl rfl) (pe_op (op_own (op := .BitOr) R_or (hr.mono (by decide)) CM.self CM.orF CM.orI) (pv 1) (ClX.pe_cmeth (pe_glob rfl g_C (relR _)) CM.rd CM.between R_between (hr.mono (by decide)) pass0 (pa_cons (pv 2) (pa_cons (pv 3) pa_nil)))))))
 (pss_one (ps_ret (pv 1))))), ?_⟩
    walk_at "rd"
    refine ⟨rfl, fun r0 H1 s1 hr0 => ?_⟩
    have hl := tups_len tu
    walk_at "rd"
    refine ⟨t, rfl, ⟨_, SqT.of (s1 _ _ ht)⟩, for_tup (K := K) (a := t) (xs := us) (fun i σ H' => ∃ (r : Addr) (rs : List Stc) (x2 x3 : Option V), σ = [some (.ref t), some (.ref r), x2, x3] ∧ Same H H' ∧ Rng C H' r rs ∧ (∀ k, hasL rs k = hasL (ps.take i) k) ∧ rs.length ≤ i) ⟨r0, [], none, none, rfl, s1, hr0, fun k => rfl, Nat.le_refl _⟩ ?_ ?_ ?_⟩
    · rintro i σ H' _ ⟨r, rs, x2, x3, rfl, s2, _⟩
      exact SqT.of (s2 _ _ ht)
    · rintro i x σ H2 hx ⟨r, rs, x2, x3, rfl, s2, hr2, hm, hn⟩
      obtain ⟨hi, c, rfl, hc⟩ := item_of (tu.up s2) hx
      have step : ∀ k, hasL (ps.take (i + 1)) k = (hasL (ps.take i) k || has1 ps[i] k) := fun k => by
        rw [List.take_succ_eq_append_getElem hi, hasL_append, hasL_one]
      generalize hs : ps[i] = s at *
      obtain ⟨lo, hi'⟩ := s
      dsimp only at hc
      walk_at "rd"
      refine ⟨lo, hi', rfl, fun r2 H3 qs s3 hr3 hm3 hn3 => ?_⟩
      obtain ⟨d1, t1, x1, p1, c1⟩ := hr2.up s3
      obtain ⟨d2, t2, x2', p2, c2⟩ := hr3
      have hi2 : rs.length ≤ 100 := by omega
      refine ⟨r, r2, d1, d2, _, _, rfl, rfl, x1, x2', r, r2, rs, qs, rfl, ⟨d1, t1, x1, p1, c1⟩, ⟨d2, t2, x2', p2, c2⟩, by omega, fun r3 H4 us2 s4 hr4 hm4 hn4 => ?_⟩
      walk_at "rd"
      refine ⟨r3, us2, _, _, rfl, fun b o z => s4 _ _ (s3 _ _ (s2 _ _ z)), hr4, fun k => ?_, by omega⟩
      rw [hm4, step]
      show (hasL rs k || hasL qs k) = _
      rw [hm, hm3]
    · rintro σ H2 ⟨r, rs, x2, x3, rfl, s2, hr2, hm, hn⟩
      rw [hl, List.take_length] at hm
      rw [hl] at hn
      walk_at "rd"
      exact q r H2 rs s2 hr2 hm hn

theorem ok_rangesL {f : Addr} {fd : FuncData} (F : Fun K "_law_ranges" "_law_ranges" s_Lranges f fd) (T : ClsT K mg C fI fE) (CM : ClsM K C mc pe pb ge gb fO) (R_empty : FnR P w K mg base CX0 3 ge (fun vs H Q E => sp_empty C (vs ++ []) H Q E))
    (R_between : FnR P w K mg base CX0 3 gb (fun vs H Q E => sp_between C (vs ++ []) H Q E)) (R_or : FnR P w K mg base CX0 5 fO (fun vs H Q E => sp_or C (vs ++ []) H Q E)) : FnOk P w K mg base CX0 6 f fd ["_law_parts_here"] (sp_rangesL C) := by
  have g_C := T.g_C
  refine F.ok sc_Lranges (fun vs H Q E h => ?_) (fun cdv A outer s H vs Q E hr h => ?_)
  · obtain ⟨t, us, ps, rfl, _⟩ := h
    rfl
  · obtain ⟨t, us, ps, rfl, ht, tu, hz, q⟩ := h
    refine ⟨_, (pss_cons (ps_set (i := 1) sc_Lranges.nd rfl (Or.inl rfl) (pe_cmeth0 (pe_glob rfl g_C (relR _)) CM.rd CM.empty R_empty (hr.mono (by decide)) pass0))
 (pss_cons (ps_for PassesOwn.never rfl (pi_list (pv 0)) (pg_tup (by rfl) (pgs_cons (pg_name (i := 2) sc_Lranges.nd rfl (Or.inl rfl)) (pgs_cons (pg_name (i := 3) sc_Lranges.nd rfl (Or.inl rfl)) pgs_nil)))
 (pss_one (ps_set (i := 1) sc_Lranges.nd rfl (Or.inl rfl) (pe_op (op_own (op := .BitOr) R_or (hr.mono (by decide)) CM.self CM.orF CM.orI) (pv 1) (ClX.pe_cmeth (pe_glob rfl g_C (relR _)) CM.rd CM.between R_between (hr.mono (by decide)) pass0 (pa_cons (pv 2) (pa_cons (pv 3) pa_nil)))))))
 (pss_one (ps_ret (pv 1))))), ?_⟩
    walk_at "rd"
    refine ⟨rfl, fun r0 H1 s1 hr0 => ?_⟩
    have hl := tups_len tu
    walk_at "rd"
    refine ⟨t, rfl, ⟨_, SqL.of (s1 _ _ ht)⟩, for_list (K := K) (a := t) (xs := us) (fun i σ H' => ∃ (r : Addr) (rs : List Stc) (x2 x3 : Option V), σ = [some (.ref t), some (.ref r), x2, x3] ∧ Same H H' ∧ Rng C H' r rs ∧ (∀ k, hasL rs k = hasL (ps.take i) k) ∧ rs.length ≤ i) ⟨r0, [], none, none, rfl, s1, hr0, fun k => rfl, Nat.le_refl _⟩ ?_ ?_ ?_⟩
    · rintro i σ H' _ ⟨r, rs, x2, x3, rfl, s2, _⟩
      exact SqL.of (s2 _ _ ht)
    · rintro i x σ H2 hx ⟨r, rs, x2, x3, rfl, s2, hr2, hm, hn⟩
      obtain ⟨hi, c, rfl, hc⟩ := item_of (tu.up s2) hx
      have step : ∀ k, hasL (ps.take (i + 1)) k = (hasL (ps.take i) k || has1 ps[i] k) := fun k => by
        rw [List.take_succ_eq_append_getElem hi, hasL_append, hasL_one]
      generalize hs : ps[i] = s at *
      obtain ⟨lo, hi'⟩ := s
      dsimp only at hc
      walk_at "rd"
      refine ⟨lo, hi', rfl, fun r2 H3 qs s3 hr3 hm3 hn3 => ?_⟩
      obtain ⟨d1, t1, x1, p1, c1⟩ := hr2.up s3
      obtain ⟨d2, t2, x2', p2, c2⟩ := hr3
      have hi2 : rs.length ≤ 100 := by omega
      refine ⟨r, r2, d1, d2, _, _, rfl, rfl, x1, x2', r, r2, rs, qs, rfl, ⟨d1, t1, x1, p1, c1⟩, ⟨d2, t2, x2', p2, c2⟩, by omega, fun r3 H4 us2 s4 hr4 hm4 hn4 => ?_⟩
      walk_at "rd"
      refine ⟨r3, us2, _, _, rfl, fun b o z => s4 _ _ (s3 _ _ (s2 _ _ z)), hr4, fun k => ?_, by omega⟩
      rw [hm4, step]
      show (hasL rs k || hasL qs k) = _
      rw [hm, hm3]
    · rintro σ H2 ⟨r, rs, x2, x3, rfl, s2, hr2, hm, hn⟩
      rw [hl, List.take_length] at hm
      rw [hl] at hn
      walk_at "rd"
      exact q r H2 rs s2 hr2 hm hn

end
end Spk

set_option Elab.async false
set_option linter.all false
set_option maxRecDepth 100000
set_option maxHeartbeats 1000000
namespace Spk
open PySem L2 TL
local macro_rules | `(tactic| walk_at "rd") => `(tactic| repeat (first
  | with_reducible refine i_seq ?_ | with_reducible refine i_asg ?_ | with_reducible refine i_ret ?_ | with_reducible refine i_ifS ?_ | with_reducible refine i_if ?_
  | with_reducible refine i_for ?_ | with_reducible refine i_iL ?_ | with_reducible refine i_iT ?_ | with_reducible refine i_ckw ?_ | with_reducible refine i_cm ?_ | with_reducible refine And.intro (rfl : V.ref _ = V.ref _) ?_ | with_reducible refine i_rng1 ?_ | with_reducible refine i_bm ?_ | with_reducible refine i_bm0 ?_
  | with_reducible refine i_drop ?_ | with_reducible refine i_next ?_
  | with_reducible refine i_var rfl ?_ | with_reducible refine i_c ?_ | with_reducible refine i_op ?_ | with_reducible refine i_un ?_ | with_reducible refine i_name ?_
  | with_reducible refine i_rI0 ?_ | with_reducible refine i_rU ?_ | with_reducible refine i_rEq rfl ?_ | with_reducible refine i_rNe rfl ?_
  | with_reducible refine i_test ?_ | with_reducible refine i_tB ?_ | with_reducible refine i_and ?_ | with_reducible refine i_or ?_ | with_reducible refine i_not ?_
  | with_reducible refine i_andV ?_ | with_reducible refine i_orV ?_ | with_reducible refine i_notV ?_
  | with_reducible refine i_cons ?_ | with_reducible refine i_nil ?_ | with_reducible refine i_cb ?_ | with_reducible refine i_call ?_ | with_reducible refine i_bl ?_
  | with_reducible refine i_tup ?_ | with_reducible refine i_lst ?_ | with_reducible refine i_par ?_ | with_reducible refine i_gcons ?_ | with_reducible refine i_gnil ?_
  | with_reducible refine And.intro (rfl : V.non = V.non) ?_ | with_reducible refine i_ixT (by assumption) rfl ?_ | with_reducible refine i_ixL (by assumption) rfl ?_ | with_reducible refine i_gtup (by assumption) rfl ?_
  | with_reducible refine i_gsub ?_
  | with_reducible refine Or.inl (Exists.intro _ (And.intro (rfl : [V.int _] = [V.int _]) ?_)) | with_reducible refine Exists.intro _ (And.intro (rfl : [V.int _] = [V.int _]) ?_)
  | with_reducible refine Or.inr (Exists.intro _ (And.intro (rfl : [V.bl _] = [V.bl _]) ?_))
  | with_reducible refine Exists.intro _ (Exists.intro _ (And.intro (rfl : [V.int _, V.int _] = [V.int _, V.int _]) ?_))
  | with_reducible refine Exists.intro _ (Exists.intro _ (And.intro (rfl : [V.ref _] = [V.ref _]) (And.intro (Or.inl (SqL.of (by assumption))) ?_)))
  | with_reducible refine i_rI (show (0 : Int) < _ by assumption) ?_ | with_reducible refine i_rI (show (0 : Int) < _ by decide) ?_
  | with_reducible refine i_rI (pow_ok (Nat.le_of_ble_eq_true rfl) (Nat.le_of_ble_eq_true rfl)) ?_
  | with_reducible refine i_rI (cmulL rfl) ?_))
theorem Keep.mut {H0 H : Hp} {d : Addr} {o : HO} (e : Keep H0 H) (h : H0 d = none) : Keep H0 (upd H d o) := fun b u hu hb => by
  rw [upd_ne (ne_of_none hb h)]
  exact e b u hu hb
theorem Pen.mut {H : Hp} {p L d : Addr} {n : Nat} {vs ws : List V} (h : Pen H p L n) (hd : H d = some (.lst vs)) (hne : L ≠ d) : Pen (upd H d (.lst ws)) p L n := by
  obtain ⟨ns, a, l, h1, h2, r⟩ := h
  have hp : p ≠ d := fun z => by
    subst z
    rw [h1] at hd
    cases hd
  exact ⟨ns, a, l, by rw [upd_ne hp]; exact h1, by rw [upd_ne hne]; exact h2, r⟩
theorem Pen.ne {H : Hp} {p L d : Addr} {n : Nat} (h : Pen H p L n) (hd : H d = none) : L ≠ d := by
  obtain ⟨ns, a, l, h1, h2, r⟩ := h
  exact ne_of_none h2 hd
theorem i_r3 {ta : TA} {σ : L2.St} {H : Hp} {R : It → Hp → Prop} (h : ta σ H fun vs H1 => ∃ (i j c : Int) (n : Nat), vs = [.int i, .int j, .int c] ∧ RgC i j c n ∧ R (Itc i c n) H1) : iRng3 ta σ H R := h
theorem ixN_last (us : List V) (v : V) : ixN (us ++ [v]).length (-1) = some us.length := by
  have hl : (us ++ [v]).length = us.length + 1 := by simp
  unfold ixN
  rw [if_neg (by decide), hl, if_pos (by omega)]
  congr 1
  omega
theorem ixN_first (us : List V) (v : V) : ixN (v :: us).length 0 = some 0 := by
  unfold ixN
  rw [if_pos (by decide), if_pos (by rw [List.length_cons]; omega)]
  rfl
/-- the parts so far -/
structure Good (ns : List Int) (i : Nat) (acc : List Stc) : Prop where
  can : Canon acc
  fin : ∀ s, s ∈ acc → ∃ a b : Int, s = (some a, some b) ∧ a ≤ b ∧ a.natAbs < 10 ^ 12 ∧ b.natAbs < 10 ^ 12
  len : acc.length ≤ i
  top : ∀ pre s, acc = pre ++ [s] → ∀ b, s.2 = some b → ∀ j v, 2 * i ≤ j → ns[j]? = some v → b ≤ v
theorem good_nil {ns : List Int} : Good ns 0 [] := ⟨canon_nil, fun s hs => absurd hs List.not_mem_nil, Nat.le_refl _, fun pre s e => by
  cases pre <;> cases e⟩
section
variable {ns : List Int} {i : Nat} {pre : List Stc} {lo hi : Int}
theorem srt {ns : List Int} (h : ns.Pairwise (· ≤ ·)) {a b : Nat} {u v : Int} (ha : ns[a]? = some u) (hb : ns[b]? = some v) (hab : a ≤ b) : u ≤ v := by
  obtain ⟨ha', rfl⟩ := List.getElem?_eq_some_iff.mp ha
  obtain ⟨hb', rfl⟩ := List.getElem?_eq_some_iff.mp hb
  by_cases e : a = b
  · subst e; exact Int.le_refl _
  · exact List.pairwise_iff_getElem.mp h a b ha' hb' (by omega)
theorem good_new {acc : List Stc} (sr : ns.Pairwise (· ≤ ·)) (h0 : ns[2 * i]? = some lo) (h1 : ns[2 * i + 1]? = some hi) (f0 : lo.natAbs < 10 ^ 12) (f1 : hi.natAbs < 10 ^ 12) (g : Good ns i acc)
    (ap : ∀ pre s b, acc = pre ++ [s] → s.2 = some b → b + 1 < lo) : Good ns (i + 1) (acc ++ [(some lo, some hi)]) := by
  have le := srt sr h0 h1 (by omega)
  have ne : NE (some lo, some hi) := fun a b e1 e2 => by cases e1; cases e2; exact le
  refine ⟨?_, ?_, by rw [List.length_append]; have := g.len; simp; omega, ?_⟩
  · rcases List.eq_nil_or_concat acc with rfl | ⟨pre, s, rfl⟩
    · exact canon_one ne
    · rw [List.concat_eq_append] at *
      obtain ⟨a, b, rfl, _⟩ := g.fin s (by simp)
      exact canon_snoc g.can ne ⟨b, lo, rfl, rfl, ap pre _ b rfl rfl⟩
  · intro s hs
    rcases List.mem_append.mp hs with hs | hs
    · exact g.fin s hs
    · rw [List.mem_singleton.mp hs]
      exact ⟨lo, hi, rfl, le, f0, f1⟩
  · intro pre s e b eb j v hj hv
    obtain ⟨_, e2⟩ := List.append_inj' e rfl
    cases e2
    cases eb
    exact srt sr h1 hv (by omega)
theorem good_join {a b : Int} (sr : ns.Pairwise (· ≤ ·)) (h1 : ns[2 * i + 1]? = some hi) (f1 : hi.natAbs < 10 ^ 12) (g : Good ns i (pre ++ [(some a, some b)])) : Good ns (i + 1) (pre ++ [(some a, some hi)]) := by
  have bh : b ≤ hi := g.top pre _ rfl b rfl _ _ (by omega) h1
  obtain ⟨a', b', e, le, fa, fb⟩ := g.fin _ (List.mem_append_right _ (List.mem_singleton.mpr rfl))
  cases e
  refine ⟨?_, ?_, by have := g.len; rw [List.length_append] at *; simp at *; omega, ?_⟩
  · have z := canon_last (s := (none, some hi)) g.can
    have e : laterE (some b) (some hi) = some hi := by
      show some (if hi > b then hi else b) = some hi
      split
      · rfl
      · congr 1; omega
    rw [e] at z
    exact z
  · intro s hs
    rcases List.mem_append.mp hs with hs | hs
    · exact g.fin s (List.mem_append_left _ hs)
    · rw [List.mem_singleton.mp hs]
      exact ⟨a, hi, rfl, by omega, fa, f1⟩
  · intro pre' s e b' eb j v hj hv
    obtain ⟨_, e2⟩ := List.append_inj' e rfl
    cases e2
    cases eb
    exact srt sr h1 hv (by omega)
theorem canon_first {s : Stc} {r : List Stc} (h : Canon (s :: r)) : Canon ((none, s.2) :: r) := by
  refine ⟨fun x hx => ?_, ?_⟩
  · rcases List.mem_cons.mp hx with rfl | hx
    · exact fun l h e => nomatch e
    · exact h.ne x (List.mem_cons_of_mem _ hx)
  · have := List.pairwise_cons.mp h.ap
    exact List.pairwise_cons.mpr ⟨fun b hb => this.1 b hb, this.2⟩
theorem canon_open {s : Stc} (h : Canon (pre ++ [s])) : Canon (pre ++ [(s.1, none)]) := by
  have z := canon_last (s := (none, none)) h
  have e : laterE s.2 none = none := by cases s.2 <;> rfl
  rw [e] at z
  exact z
end
theorem rg2 : ∀ m : Nat, m ≤ 6 → RgC 0 ((2 * m : Nat) : Int) 2 m
  | 0, _ => ⟨by decide, by decide, by decide +kernel, by decide +kernel⟩
  | 1, _ => ⟨by decide, by decide, by decide +kernel, by decide +kernel⟩
  | 2, _ => ⟨by decide, by decide, by decide +kernel, by decide +kernel⟩
  | 3, _ => ⟨by decide, by decide, by decide +kernel, by decide +kernel⟩
  | 4, _ => ⟨by decide, by decide, by decide +kernel, by decide +kernel⟩
  | 5, _ => ⟨by decide, by decide, by decide +kernel, by decide +kernel⟩
  | 6, _ => ⟨by decide, by decide, by decide +kernel, by decide +kernel⟩
  | n + 7, h => absurd h (by omega)
structure FInv (H0 : Hp) (p L e d : Addr) (m : Int) (N : Nat) (σ : L2.St) (H : Hp) : Prop where
  ex : ∃ (ps : List Stc) (us : List V) (x4 x5 x6 : Option V), σ = [some (.ref p), some (.int m), some (.ref e), some (.ref d), x4, x5, x6] ∧ Keep H0 H ∧ Pen H p L N ∧ H d = some (.lst us) ∧ Tups H us ps ∧ Canon ps ∧ (∀ s, s ∈ ps → FewS s) ∧ ps.length ≤ 6
structure PInv (H0 : Hp) (p L e d : Addr) (m : Int) (N : Nat) (ns : List Int) (i : Nat) (σ : L2.St) (H : Hp) : Prop where
  ex : ∃ (acc : List Stc) (us : List V) (x4 x5 x6 : Option V), σ = [some (.ref p), some (.int m), some (.ref e), some (.ref d), x4, x5, x6] ∧ Keep H0 H ∧ Pen H p L N ∧ H e = some (.lst (ns.map V.int)) ∧ H d = some (.lst us) ∧ Tups H us acc ∧ Good ns i acc
section
variable {P : Program} {w : World} {K : PySem.W.Frag} {mg : Str → Option Value} {base : Heap}
abbrev s_Lparts : Stmt := top 51
theorem sc_Lparts : FnScope ["_law_pen_here", "_law_most", "_law_ends", "_law_found", "_law_k", "_law_low", "_law_high"] ["_law_pen_here", "_law_most"] (defScope s_Lparts) := ⟨rfl, rfl, rfl, by decide +kernel, rfl, by decide +kernel, by decide +kernel⟩
def sp_parts : Sp := fun vs H Q _ => ∃ p L n m, vs = [.ref p, .int m] ∧ Pen H p L n ∧ n ≤ 9000 ∧ 0 ≤ m ∧ m ≤ 6 ∧
  ∀ t us ps H', Keep H H' → Pen H' p L (n + 50) → H' t = some (.tup us) → Tups H' us ps → Canon ps → (∀ s, s ∈ ps → FewS s) → ps.length ≤ 6 → Q (.ref t) H'
theorem ok_parts {f fD fB : Addr} {fd fdD fdB : FuncData} (F : Fun K "_law_parts" "_law_parts" s_Lparts f fd) (F_draw : Fun K "_law_draw" "_law_draw" s_draw fD fdD) (B_draw : Binds K fdD ["_law_pen_here", "_law_many"] []) (g_draw : mg "_law_draw" = some (.ref fD))
    (G_draw : FnOk P w K mg base CX0 1 fD fdD ["_law_pen_here", "_law_many"] sp_draw) (F_bound : Fun K "_law_bound" "_law_bound" s_bound fB fdB) (B_bound : Binds K fdB ["_law_pen_here"] []) (g_bound : mg "_law_bound" = some (.ref fB))
    (G_bound : FnOk P w K mg base CX0 2 fB fdB ["_law_pen_here"] sp_bound) (z_range : mg "range" = none) (z_sorted : mg "sorted" = none) (z_len : mg "len" = none) (z_tuple : mg "tuple" = none) : FnOk P w K mg base CX0 3 f fd ["_law_pen_here", "_law_most"] sp_parts := by
  refine F.ok sc_Lparts (fun vs H Q E h => ?_) (fun cdv A outer s H vs Q E hr h => ?_)
  · obtain ⟨p, L, n, m, rfl, _⟩ := h
    rfl
  · obtain ⟨p, L, n, m, rfl, hp, hn, m0, m6, q⟩ := h
    refine ⟨_, (pss_cons (ps_set (i := 2) sc_Lparts.nd rfl (Or.inl rfl) (pe_callB cr_sorted (by rfl) z_sorted (by decide +kernel) (pa_cons (pe_lc (own := [("_law_k", 4)]) (g := gName 4) (tt := tYes) rfl sc_Lparts.nd (pi_range1 (by rfl) z_range (pa_cons (pe_op op_mul pe_int (pe_call G_draw (hr.mono (by decide)) rfl g_draw F_draw.kp B_draw .nil pass0 (pa_cons (pv 0) (pa_cons (pe_op op_add (pv 1) pe_int) pa_nil)))) pa_nil)) (blkOk_by (own := [("_law_k", 4)]) (N := ["_law_pen_here", "_law_most", "_law_ends", "_law_found", "_law_k", "_law_low", "_law_high"]) (sc := defScope s_Lparts) (by decide +kernel)) (fun _ _ _ _ _ => pg_name (i := 4) sc_Lparts.nd rfl (Or.inl rfl)) (fun _ _ _ _ _ => pts_nil) (fun _ _ _ _ _ => (pe_call G_bound (hr.mono (by decide)) rfl g_bound F_bound.kp B_bound .nil pass0 (pa_cons (pv 0) pa_nil)))) pa_nil)))
 (pss_cons (ps_set (i := 3) sc_Lparts.nd rfl (Or.inl rfl) (pe_lst pa_nil))
 (pss_cons (ps_for PassesOwn.never rfl (pi_range3 (by rfl) z_range (pa_cons pe_int (pa_cons (pe_callB call_len_seq (by rfl) z_len PySem.boot_len (pa_cons (pv 2) pa_nil)) (pa_cons pe_int pa_nil)))) (pg_name (i := 4) sc_Lparts.nd rfl (Or.inl rfl))
 (pss_cons (ps_par (i := 5) (j := 6) (by rfl) sc_Lparts.nd rfl rfl (by decide) rfl rfl (pa_cons (pe_ix ix_list (pv 2) (pv 4) (fun _ _ => rfl)) (pa_cons (pe_ix ix_list (pv 2) (pe_op op_add (pv 4) pe_int) (fun _ _ => rfl)) pa_nil)) (by rfl))
 (pss_cons (ps_if (PW.pt (pw_and (pt_cmpR (op_neD hr.units) (pv 3) (pe_lst pa_nil) (nomark _)) (pw_and1 (pt_cmpR op_le (pv 5) (pe_op op_add (pe_ix ix_tup (pe_ix ix_list (pv 3) (pe_un un_neg pe_int) (fun _ _ => rfl)) pe_int (fun _ _ => rfl)) pe_int) (nomark _)))))
 (pss_one (ps_set (i := 5) sc_Lparts.nd rfl (Or.inl rfl) (pe_ix ix_tup (pe_bm0 PySem.F.plainAttrs_list PySem.F.slot_list_pop PySem.F.type_list_pop mt_pop (pv 3)) pe_int (fun _ _ => rfl))))
 pss_nil)
 (pss_one (ps_expr (pe_bm PySem.F.plainAttrs_list PySem.F.slot_list_append PySem.F.type_list_append mt_append (pv 3) (pa_cons (pe_tup (pa_cons (pv 5) (pa_cons (pv 6) pa_nil))) pa_nil)))))))
 (C8.pss_cut (ps_if (PW.pt (pw_and (pt_cmpR (op_neD hr.units) (pv 3) (pe_lst pa_nil) (nomark _)) (pw_and1 (pt_cmpR op_eq (pe_call G_draw (hr.mono (by decide)) rfl g_draw F_draw.kp B_draw .nil pass0 (pa_cons (pv 0) (pa_cons pe_int pa_nil))) pe_int (nomark _)))))
 (pss_one (ps_asg (pe_tup (pa_cons pe_non (pa_cons (pe_ix ix_tup (pe_ix ix_list (pv 3) pe_int (fun _ _ => rfl)) pe_int (fun _ _ => rfl)) pa_nil))) (pg_sub (pv 3) pe_int set_list)))
 pss_nil)
 (C8.pss_cut (ps_if (PW.pt (pw_and (pt_cmpR (op_neD hr.units) (pv 3) (pe_lst pa_nil) (nomark _)) (pw_and1 (pt_cmpR op_eq (pe_call G_draw (hr.mono (by decide)) rfl g_draw F_draw.kp B_draw .nil pass0 (pa_cons (pv 0) (pa_cons pe_int pa_nil))) pe_int (nomark _)))))
 (pss_one (ps_asg (pe_tup (pa_cons (pe_ix ix_tup (pe_ix ix_list (pv 3) (pe_un un_neg pe_int) (fun _ _ => rfl)) pe_int (fun _ _ => rfl)) (pa_cons pe_non pa_nil))) (pg_sub (pv 3) (pe_un un_neg pe_int) set_list)))
 pss_nil)
 (pss_one (ps_ret (pe_callTy call_tuple_of (by rfl) z_tuple (by decide +kernel) (pa_cons (pv 3) pa_nil))))))))), ?_⟩
    walk_at "rd"
    unfold tLc
    walk_at "rd"
    refine ⟨p, L, n, _, rfl, hp, by omega, by omega, by omega, fun k0 H1 k1 k2 e1 p1 => ?_⟩
    walk_at "rd"
    obtain ⟨k, rfl⟩ : ∃ k : Nat, k0 = (k : Int) := ⟨k0.toNat, by omega⟩
    refine ⟨by omega, by omega, fun D hD => ?_⟩
    obtain ⟨H2, e2, s2, h2⟩ := new_heap (o := .lst []) hD
    have pD := p1.ne hD
    refine lc_range (lo := 0) (n := (2 * (k : Int)).toNat) (fun j H' => ∃ ns : List Int, Keep H1 H' ∧ Pen H' p L (n + 1 + 3 * j) ∧ H' D = some (.lst (ns.map V.int)) ∧ ns.length = j ∧ ∀ v, v ∈ ns → v.natAbs < 10 ^ 12) ⟨[], by rw [e2]; exact Same.keep s2, by rw [e2]; exact p1.up s2, by rw [e2]; exact h2, rfl, fun v hv => absurd hv List.not_mem_nil⟩ ?_ ?_
    · rintro j H3 hj ⟨ns, k3, p3, h3, ln, fw⟩
      walk_at "rd"
      refine ⟨rfl, i_yes (iteT ?_)⟩
      walk_at "rd"
      refine ⟨p, L, _, rfl, p3, by omega, fun e H4 fe k4 p4 => ?_⟩
      have h4 := k4 _ _ rfl h3
      refine ⟨_, h4, size_lt (by rw [List.length_map]; omega), ns ++ [e], Keep.mut (k3.trans k4) hD, ?_, ?_, by rw [List.length_append, ln]; rfl, fun v hv => ?_⟩
      · exact (p4.mut h4 pD).mono (by omega)
      · rw [upd_same, List.map_append]
        rfl
      · rcases List.mem_append.mp hv with hv | hv
        · exact fw v hv
        · rw [List.mem_singleton.mp hv]; exact fe
    · rintro H3 ⟨ns0, k3, p3, h3, ln, fw⟩
      walk_at "rd"
      refine ⟨D, ns0, rfl, SqL.of h3, by omega, fun ns e pm sr he => ?_⟩
      obtain ⟨H4, e4, s4, h4⟩ := new_heap (o := .lst (ns.map V.int)) he
      rw [e4]
      have k4 : Keep H H4 := (e1.trans k3).trans (Same.keep s4)
      have ln' : ns.length = 2 * k := by rw [pm.length_eq, ln]; omega
      have fw' : ∀ v, v ∈ ns → v.natAbs < 10 ^ 12 := fun v hv => fw v (pm.mem_iff.mp hv)
      have p4 := p3.up s4
      walk_at "rd"
      refine ⟨Nat.zero_le _, fun d hd0 => ?_⟩
      obtain ⟨H5, e5, s5, h5⟩ := new_heap (o := .lst []) hd0
      rw [e5]
      have Ld := p4.ne hd0
      have ed : e ≠ d := ne_of_none h4 hd0
      have p5 := p4.up s5
      walk_at "rd"
      refine i_r3 ?_
      walk_at "rd"
      refine ⟨e, _, rfl, .inl (SqL.of (s5 _ _ h4)), ?_⟩
      walk_at "rd"
      refine ⟨_, _, _, k, rfl, by rw [List.length_map, ln']; exact rg2 k (by omega), for_rangeC (lo := 0) (c := 2) (n := k) (PInv H4 p L e d m (n + 1 + 3 * (2 * (k : Int)).toNat) ns) ⟨[], [], none, none, none, rfl, Same.keep s5, p5, s5 _ _ h4, h5, .nil, good_nil⟩ ?_ ?_⟩
      · rintro i σ H6 hi ⟨acc, us, x4, x5, x6, rfl, k6, p6, h6e, h6d, tu, g⟩
        have hi0 : 2 * i < ns.length := by omega
        have hi1 : 2 * i + 1 < ns.length := by omega
        have a0 : ns[2 * i]? = some ns[2 * i] := List.getElem?_eq_getElem hi0
        have a1 : ns[2 * i + 1]? = some ns[2 * i + 1] := List.getElem?_eq_getElem hi1
        have f0 := fw' _ (List.getElem_mem hi0)
        have f1 := fw' _ (List.getElem_mem hi1)
        generalize ns[2 * i] = lo at *
        generalize ns[2 * i + 1] = hi' at *
        have hz : us.length ≤ 100000 := by
          have := tups_len tu
          have := g.len
          omega
        have app : ∀ (ws : List V) (ac : List Stc) (u v : Int) (H7 : Hp), Keep H4 H7 → Pen H7 p L (n + 1 + 3 * (2 * (k : Int)).toNat) → H7 e = some (.lst (ns.map V.int)) → H7 d = some (.lst ws) → ws.length ≤ 100000 → Tups H7 ws ac → Good ns (i + 1) (ac ++ [(some u, some v)]) → ∀ q, H7 q = none →
            ∀ R : VK, (∀ H8, (∀ x4 x5 x6, PInv H4 p L e d m (n + 1 + 3 * (2 * (k : Int)).toNat) ns (i + 1) [some (.ref p), some (.int m), some (.ref e), some (.ref d), x4, x5, x6] H8) → R .non H8) → rAppend (.ref d) [.ref q] (upd H7 q (.tup [.int u, .int v])) R := by
          intro ws ac u v H7 a1 a2 a3 a4 wl a5 gd q hq R hR
          obtain ⟨H8, e8, s8, h8⟩ := new_heap (o := .tup [.int u, .int v]) hq
          rw [e8]
          refine i_app (s8 _ _ a4) wl (hR _ fun y4 y5 y6 => ⟨_, ws ++ [.ref q], y4, y5, y6, rfl, Keep.mut (a1.trans (Same.keep s8)) hd0, (a2.up s8).mut (s8 _ _ a4) Ld, ?_, upd_same, Tups.mut (tups_snoc (s := (some u, some v)) (a5.up s8) ⟨q, rfl, h8⟩) (s8 _ _ a4), gd⟩)
          rw [upd_ne ed]
          exact s8 _ _ a3
        walk_at "rd"
        refine i_ixL h6e (v := .int lo) (by rw [show (0 : Int) + (i : Int) * 2 = ((2 * i : Nat) : Int) from by omega]; exact atI_nat (by rw [List.getElem?_map, a0]; rfl)) ?_
        walk_at "rd"
        refine i_ixL h6e (v := .int hi') (by rw [show (0 : Int) + (i : Int) * 2 + 1 = ((2 * i + 1 : Nat) : Int) from by omega]; exact atI_nat (by rw [List.getElem?_map, a1]; rfl)) ?_
        walk_at "rd"
        refine ⟨Nat.zero_le _, fun r hr => ?_⟩
        obtain ⟨H7, e7, s7, h7⟩ := new_heap (o := .lst []) hr
        rw [e7]
        refine ⟨.list (acc.map stD), .list (([] : List Stc).map stD), dp_strL ⟨us, s7 _ _ h6d, tu.up s7⟩, dp_strL ⟨[], h7, .nil⟩, shaped_strL acc, shaped_strL [], ?_⟩
        rw [eqv_strL]
        have k7 := k6.trans (Same.keep s7)
        have p7 := p6.up s7
        have h7e := s7 _ _ h6e
        have h7d := s7 _ _ h6d
        have tu7 := tu.up s7
        refine ⟨_, rfl, ite_nd (fun hne => ?_) (fun he => ?_)⟩
        · rcases List.eq_nil_or_concat acc with z | ⟨pre, s0, z⟩
          · exact absurd z hne
          · rw [z, List.concat_eq_append] at tu7 g
            obtain ⟨us', v, rfl, tu', ⟨c, rfl, hc⟩⟩ := tups_concat tu7
            obtain ⟨a, b, rfl, le, fa, fb⟩ := g.fin s0 (List.mem_append_right _ (List.mem_singleton.mpr rfl))
            have hcd : c ≠ d := ne_of hc h7d (by intro z; cases z)
            walk_at "rd"
            refine i_ixL h7d (atI_last _ _) ?_
            walk_at "rd"
            refine ite_d (fun ht => ?_) (fun ht => ?_)
            · walk_at "rd"
              refine i_tyL h7d (i_pop h7d ?_)
              have hc5 : upd H7 d (.lst us') c = some (.tup [.int a, .int b]) := by rw [upd_ne hcd]; exact hc
              walk_at "rd"
              refine i_tyL upd_same ?_
              walk_at "rd"
              refine ⟨size_of (Nat.le_of_ble_eq_true rfl), fun q hq => ?_⟩
              walk_at "rd"
              refine app us' pre a hi' _ (Keep.mut k7 hd0) (p7.mut h7d Ld) (by rw [upd_ne ed]; exact h7e) upd_same (by rw [List.length_append] at hz; omega) (tu'.mut h7d) (good_join sr a1 f1 g) q hq _ ?_
              exact fun H8 h => h _ _ _
            · walk_at "rd"
              refine i_tyL h7d ?_
              walk_at "rd"
              refine ⟨size_of (Nat.le_of_ble_eq_true rfl), fun q hq => ?_⟩
              walk_at "rd"
              refine app _ _ lo hi' H7 k7 p7 h7e h7d hz tu7 (good_new sr a0 a1 f0 f1 g (fun pre' s' b' e1 e2 => ?_)) q hq _ ?_
              · obtain ⟨_, e3⟩ := List.append_inj' e1 rfl
                cases e3
                cases e2
                omega
              · exact fun H8 h => h _ _ _
        · subst he
          refine iteF ?_
          walk_at "rd"
          refine i_tyL h7d ?_
          walk_at "rd"
          refine ⟨size_of (Nat.le_of_ble_eq_true rfl), fun q hq => ?_⟩
          walk_at "rd"
          refine app _ _ lo hi' H7 k7 p7 h7e h7d hz tu7 (good_new sr a0 a1 f0 f1 g (fun pre' s' b' e1 e2 => ?_)) q hq _ ?_
          · cases pre' <;> cases e1
          · exact fun H8 h => h _ _ _
      · rintro σ H6 ⟨acc, us, x4, x5, x6, rfl, k6, p6, h6e, h6d, tu, g⟩
        have fw6 : ∀ s, s ∈ acc → FewS s := fun s hs => by
          obtain ⟨a, b, rfl, _, fa, fb⟩ := g.fin s hs
          exact ⟨fun n e => by cases e; exact fa, fun n e => by cases e; exact fb⟩
        have ln6 : acc.length ≤ 6 := by have := g.len; omega
        walk_at "rd"
        refine ⟨FInv H4 p L e d m (n + 1 + 3 * (2 * (k : Int)).toNat + 1), ?_, ?_⟩
        · walk_at "rd"
          refine ⟨Nat.zero_le _, fun r hr => ?_⟩
          obtain ⟨H7, e7, s7, h7⟩ := new_heap (o := .lst []) hr
          rw [e7]
          refine ⟨.list (acc.map stD), .list (([] : List Stc).map stD), dp_strL ⟨us, s7 _ _ h6d, tu.up s7⟩, dp_strL ⟨[], h7, .nil⟩, shaped_strL acc, shaped_strL [], ?_⟩
          rw [eqv_strL]
          have k7 := k6.trans (Same.keep s7)
          have p7 := p6.up s7
          have h7d := s7 _ _ h6d
          have tu7 := tu.up s7
          refine ⟨_, rfl, ite_nd (fun hne => ?_) (fun he => ?_)⟩
          · walk_at "rd"
            refine ⟨p, L, _, 4, rfl, p7, by omega, by decide, by decide, fun dd H8 _ _ k8 p8 => ?_⟩
            have h8d := k8 _ _ rfl h7d
            have tu8 := tu7.keep k8
            have k48 := k7.trans k8
            walk_at "rd"
            refine ite_d (fun _ => ?_) (fun _ => ?_)
            · cases acc with
              | nil => exact absurd rfl hne
              | cons s0 rest =>
                obtain ⟨v, us', rfl, ⟨c, rfl, hc⟩, tu'⟩ : ∃ v us', us = v :: us' ∧ TupS H8 v s0 ∧ Tups H8 us' rest := by
                  cases tu8 with
                  | cons r t => exact ⟨_, _, rfl, r, t⟩
                walk_at "rd"
                refine i_ixL h8d (v := .ref c) (by show atI _ ((0 : Nat) : Int) = _; exact atI_nat rfl) ?_
                walk_at "rd"
                refine ⟨size_of (Nat.le_of_ble_eq_true rfl), fun q9 hq9 => ?_⟩
                obtain ⟨H9, e9, s9, h9⟩ := new_heap (o := .tup [.non, ov s0.2]) hq9
                rw [e9]
                walk_at "rd"
                have h9d := s9 _ _ h8d
                refine ⟨d, _, 0, 0, rfl, rfl, h9d, ixN_first us' _, ?_⟩
                refine ⟨(none, s0.2) :: rest, .ref q9 :: us', _, _, _, rfl, Keep.mut (k48.trans (Same.keep s9)) hd0, (p8.up s9).mut h9d Ld, upd_same, ?_, canon_first g.can, fun s hs => ?_, ln6⟩
                · exact Tups.mut (.cons ⟨q9, rfl, h9⟩ (tu'.up s9)) h9d
                · rcases List.mem_cons.mp hs with rfl | hs
                  · exact ⟨(fun n e => nomatch e), (fw6 s0 (List.mem_cons_self ..)).2⟩
                  · exact fw6 s (List.mem_cons_of_mem _ hs)
            · exact ⟨acc, us, _, _, _, rfl, k48, p8, h8d, tu8, g.can, fw6, ln6⟩
          · refine iteF ?_
            exact ⟨acc, us, _, _, _, rfl, k7, p7.mono (by omega), h7d, tu7, g.can, fw6, ln6⟩
        · rintro σ' H7 ⟨ps, us7, y4, y5, y6, rfl, k7, p7, h7d, tu7, can7, fw7, ln7⟩
          refine ⟨FInv H4 p L e d m (n + 1 + 3 * (2 * (k : Int)).toNat + 2), ?_, ?_⟩
          · walk_at "rd"
            refine ⟨Nat.zero_le _, fun r hr => ?_⟩
            obtain ⟨H8, e8, s8, h8⟩ := new_heap (o := .lst []) hr
            rw [e8]
            refine ⟨.list (ps.map stD), .list (([] : List Stc).map stD), dp_strL ⟨us7, s8 _ _ h7d, tu7.up s8⟩, dp_strL ⟨[], h8, .nil⟩, shaped_strL ps, shaped_strL [], ?_⟩
            rw [eqv_strL]
            have k8 := k7.trans (Same.keep s8)
            have p8 := p7.up s8
            have h8d := s8 _ _ h7d
            have tu8 := tu7.up s8
            refine ⟨_, rfl, ite_nd (fun hne => ?_) (fun he => ?_)⟩
            · walk_at "rd"
              refine ⟨p, L, _, 4, rfl, p8, by omega, by decide, by decide, fun dd H9 _ _ k9 p9 => ?_⟩
              have h9d := k9 _ _ rfl h8d
              have tu9 := tu8.keep k9
              have k49 := k8.trans k9
              walk_at "rd"
              refine ite_d (fun _ => ?_) (fun _ => ?_)
              · rcases List.eq_nil_or_concat ps with z | ⟨pre, s0, z⟩
                · exact absurd z hne
                · rw [z, List.concat_eq_append] at tu9 can7 fw7 ln7
                  obtain ⟨us', v, rfl, tu', ⟨c, rfl, hc⟩⟩ := tups_concat tu9
                  walk_at "rd"
                  refine i_ixL h9d (atI_last _ _) ?_
                  walk_at "rd"
                  refine ⟨size_of (Nat.le_of_ble_eq_true rfl), fun q9 hq9 => ?_⟩
                  obtain ⟨H10, e10, s10, h10⟩ := new_heap (o := .tup [ov s0.1, .non]) hq9
                  rw [e10]
                  walk_at "rd"
                  have h10d := s10 _ _ h9d
                  refine ⟨d, _, -1, us'.length, rfl, rfl, h10d, ixN_last us' _, ?_⟩
                  rw [show (us' ++ [V.ref c]).set us'.length (V.ref q9) = us' ++ [V.ref q9] from by simp]
                  refine ⟨pre ++ [(s0.1, none)], us' ++ [.ref q9], _, _, _, rfl, Keep.mut (k49.trans (Same.keep s10)) hd0, (p9.up s10).mut h10d Ld, upd_same, ?_, canon_open can7, fun s hs => ?_, by rw [List.length_append] at ln7 ⊢; exact ln7⟩
                  · exact Tups.mut (tups_snoc (s := (s0.1, none)) (tu'.up s10) ⟨q9, rfl, h10⟩) h10d
                  · rcases List.mem_append.mp hs with hs | hs
                    · exact fw7 s (List.mem_append_left _ hs)
                    · rw [List.mem_singleton.mp hs]
                      exact ⟨(fw7 s0 (by simp)).1, fun n e => nomatch e⟩
              · exact ⟨ps, us7, _, _, _, rfl, k49, p9.mono (by omega), h9d, tu9, can7, fw7, ln7⟩
            · refine iteF ?_
              exact ⟨ps, us7, _, _, _, rfl, k8, p8.mono (by omega), h8d, tu8, can7, fw7, ln7⟩
          · rintro σ' H8 ⟨ps, us8, y4, y5, y6, rfl, k8, p8, h8d, tu8, can8, fw8, ln8⟩
            walk_at "rd"
            refine ⟨d, us8, rfl, .inl ⟨SqL.of h8d, fun t ht => ?_⟩⟩
            obtain ⟨H9, e9, s9, h9⟩ := new_heap (o := .tup us8) ht
            rw [e9]
            exact q t us8 ps H9 ((k4.trans k8).trans (Same.keep s9)) ((p8.up s9).mono (by omega)) h9 (tu8.up s9) can8 fw8 ln8
end
end Spk

set_option Elab.async false
set_option linter.all false
set_option maxRecDepth 100000
set_option maxHeartbeats 1000000
namespace Spk
open PySem L2 TL
/-! ### the words of a tree -/
def wordsT : Tr → List Str
  | .wi c ps => ["in", c, partsT ps]
  | .mi c => ["missing", c]
  | .al => ["always"]
  | .ne => ["never"]
  | .an l r => "&" :: (wordsT l ++ wordsT r)
  | .ou l r => "|" :: (wordsT l ++ wordsT r)
  | .no t => "~" :: wordsT t
/-- how many signs stand within one another -/
def sdT : Tr → Nat
  | .an l r => max (sdT l) (sdT r) + 1
  | .ou l r => max (sdT l) (sdT r) + 1
  | .no t => sdT t + 1
  | _ => 0
/-- its columns are names, its sets have few parts -/
def GoodT : Tr → Prop
  | .wi c ps => IsName c ∧ Canon ps ∧ (∀ s, s ∈ ps → FewS s) ∧ ps.length ≤ 6
  | .mi c => IsName c
  | .al => True
  | .ne => True
  | .an l r => GoodT l ∧ GoodT r
  | .ou l r => GoodT l ∧ GoodT r
  | .no t => GoodT t
def leafT : Tr → Prop
  | .an _ _ => False
  | .ou _ _ => False
  | .no _ => False
  | _ => True
theorem words_pos : ∀ t : Tr, 0 < (wordsT t).length := fun t => by cases t <;> simp [wordsT]
/-- what stands around a tree, the innermost first -/
inductive Fr where
  | no
  | anL (r : Tr)
  | anR (l : Tr)
  | ouL (r : Tr)
  | ouR (l : Tr)
def Fr.sgn : Fr → Str
  | .no => "~"
  | .anL _ => "&"
  | .anR _ => "&"
  | .ouL _ => "|"
  | .ouR _ => "|"
def Fr.put : Fr → Tr → Tr
  | .no, t => .no t
  | .anL r, t => .an t r
  | .anR l, t => .an l t
  | .ouL r, t => .ou t r
  | .ouR l, t => .ou l t
def plug : List Fr → Tr → Tr
  | [], t => t
  | f :: c, t => plug c (f.put t)
def Fr.rest : Fr → List Str
  | .anL r => wordsT r
  | .ouL r => wordsT r
  | _ => []
def pendW : List Fr → List Str
  | [] => []
  | f :: c => f.rest ++ pendW c
/-- one step outwards: the sign is done, or its other part is next -/
def Fr.next : Fr → Tr → Option (Fr × Tr)
  | .anL r, t => some (.anR t, r)
  | .ouL r, t => some (.ouR t, r)
  | _, _ => none
/-- where the reader goes behind a whole tree -/
def upT : List Fr → Tr → Option (List Fr × Tr) × Tr
  | [], t => (none, t)
  | f :: c, t => match f.next t with
    | some (g, r) => (some (g :: c, r), t)
    | none => upT c (f.put t)
theorem next_put {f g : Fr} {t r : Tr} (h : f.next t = some (g, r)) : g.put r = f.put t ∧ f.rest = wordsT r ∧ g.rest = [] ∧ g.sgn = f.sgn := by
  cases f <;> simp only [Fr.next, reduceCtorEq, Option.some.injEq, Prod.mk.injEq] at h <;> obtain ⟨rfl, rfl⟩ := h <;> exact ⟨rfl, rfl, rfl, rfl⟩
theorem next_none {f : Fr} {t : Tr} (h : f.next t = none) : f.rest = [] := by
  cases f <;> simp only [Fr.next, reduceCtorEq] at h <;> rfl
theorem upT_some : ∀ {c : List Fr} {t : Tr} {c' : List Fr} {r u : Tr}, upT c t = (some (c', r), u) → plug c' r = plug c t ∧ pendW c = wordsT r ++ pendW c' ∧ c'.length ≤ c.length
  | [], t, c', r, u, h => by simp [upT] at h
  | f :: c, t, c', r, u, h => by
    unfold upT at h
    cases e : f.next t with
    | some p =>
      obtain ⟨g, r2⟩ := p
      rw [e] at h
      simp only [Prod.mk.injEq, Option.some.injEq] at h
      obtain ⟨⟨rfl, rfl⟩, _⟩ := h
      obtain ⟨a, b, c1, _⟩ := next_put e
      refine ⟨?_, ?_, Nat.le_refl _⟩
      · show plug c (g.put r2) = plug c (f.put t)
        rw [a]
      · show f.rest ++ pendW c = wordsT r2 ++ (g.rest ++ pendW c)
        rw [b, c1]
        rfl
    | none =>
      rw [e] at h
      obtain ⟨a, b, d⟩ := upT_some h
      refine ⟨a, ?_, Nat.le_succ_of_le d⟩
      show f.rest ++ pendW c = _
      rw [next_none e]
      exact b
theorem upT_none : ∀ {c : List Fr} {t u : Tr}, upT c t = (none, u) → u = plug c t ∧ pendW c = []
  | [], t, u, h => by
    simp only [upT, Prod.mk.injEq] at h
    exact ⟨h.2.symm, rfl⟩
  | f :: c, t, u, h => by
    unfold upT at h
    cases e : f.next t with
    | some p =>
      obtain ⟨g, r2⟩ := p
      rw [e] at h
      cases h
    | none =>
      rw [e] at h
      obtain ⟨a, b⟩ := upT_none h
      refine ⟨a, ?_⟩
      show f.rest ++ pendW c = []
      rw [next_none e, b]
      rfl
theorem put_sd (f : Fr) (t : Tr) : sdT t + 1 ≤ sdT (f.put t) := by cases f <;> simp only [Fr.put, sdT] <;> omega
theorem plug_sd : ∀ (c : List Fr) (t : Tr), c.length + sdT t ≤ sdT (plug c t)
  | [], t => by simp [plug]
  | f :: c, t => by
    have a := plug_sd c (f.put t)
    have b := put_sd f t
    show c.length + 1 + sdT t ≤ sdT (plug c (f.put t))
    omega
theorem put_cols (f : Fr) (t : Tr) : t.cols.length ≤ (f.put t).cols.length := by cases f <;> simp only [Fr.put, Tr.cols, List.length_append] <;> omega
theorem plug_cols : ∀ (c : List Fr) (t : Tr), t.cols.length ≤ (plug c t).cols.length
  | [], t => Nat.le_refl _
  | f :: c, t => Nat.le_trans (put_cols f t) (plug_cols c _)
theorem put_good {f : Fr} {t : Tr} (h : GoodT (f.put t)) : GoodT t := by
  cases f with
  | no => exact h
  | anL r => exact h.1
  | anR r => exact h.2
  | ouL r => exact h.1
  | ouR r => exact h.2
theorem plug_good : ∀ {c : List Fr} {t : Tr}, GoodT (plug c t) → GoodT t
  | [], _, h => h
  | _ :: c, _, h => put_good (plug_good (c := c) h)
/-! ### names have no blanks -/
theorem name_free {c : Str} (h : IsName c) {n : Nat} (hn : n < 97) : n ∉ tl c := fun z => by
  have := h.az n z
  omega
theorem words_no : ∀ {t : Tr}, GoodT t → ∀ x, x ∈ wordsT t → 32 ∉ tl x ∧ 10 ∉ tl x
  | .wi c ps, h, x, hx => by
    simp only [wordsT, List.mem_cons, List.not_mem_nil, or_false] at hx
    rcases hx with rfl | rfl | rfl
    · exact ⟨by decide +kernel, by decide +kernel⟩
    · exact ⟨name_free h.1 (by decide), name_free h.1 (by decide)⟩
    · exact ⟨partsT_free (by decide), partsT_free (by decide)⟩
  | .mi c, h, x, hx => by
    simp only [wordsT, List.mem_cons, List.not_mem_nil, or_false] at hx
    rcases hx with rfl | rfl
    · exact ⟨by decide +kernel, by decide +kernel⟩
    · exact ⟨name_free h (by decide), name_free h (by decide)⟩
  | .al, h, x, hx => by
    simp only [wordsT, List.mem_cons, List.not_mem_nil, or_false] at hx
    subst hx
    exact ⟨by decide +kernel, by decide +kernel⟩
  | .ne, h, x, hx => by
    simp only [wordsT, List.mem_cons, List.not_mem_nil, or_false] at hx
    subst hx
    exact ⟨by decide +kernel, by decide +kernel⟩
  | .an l r, h, x, hx => by
    simp only [wordsT, List.mem_cons, List.mem_append] at hx
    rcases hx with rfl | hx | hx
    · exact ⟨by decide +kernel, by decide +kernel⟩
    · exact words_no h.1 x hx
    · exact words_no h.2 x hx
  | .ou l r, h, x, hx => by
    simp only [wordsT, List.mem_cons, List.mem_append] at hx
    rcases hx with rfl | hx | hx
    · exact ⟨by decide +kernel, by decide +kernel⟩
    · exact words_no h.1 x hx
    · exact words_no h.2 x hx
  | .no t, h, x, hx => by
    simp only [wordsT, List.mem_cons] at hx
    rcases hx with rfl | hx
    · exact ⟨by decide +kernel, by decide +kernel⟩
    · exact words_no (t := t) h x hx
end Spk

set_option Elab.async false
set_option linter.all false
set_option maxRecDepth 100000
set_option maxHeartbeats 1000000
namespace Spk
open PySem L2 TL
local macro_rules | `(tactic| walk_at "rd") => `(tactic| repeat (first
  | with_reducible refine i_seq ?_ | with_reducible refine i_asg ?_ | with_reducible refine i_ret ?_ | with_reducible refine i_ifS ?_ | with_reducible refine i_if ?_
  | with_reducible refine i_for ?_ | with_reducible refine i_iL ?_ | with_reducible refine i_iT ?_ | with_reducible refine i_ckw ?_ | with_reducible refine i_cm ?_ | with_reducible refine And.intro (rfl : V.ref _ = V.ref _) ?_ | with_reducible refine i_rng1 ?_ | with_reducible refine i_bm ?_ | with_reducible refine i_bm0 ?_
  | with_reducible refine i_drop ?_ | with_reducible refine i_next ?_
  | with_reducible refine i_var rfl ?_ | with_reducible refine i_c ?_ | with_reducible refine i_op ?_ | with_reducible refine i_un ?_ | with_reducible refine i_name ?_
  | with_reducible refine i_rI0 ?_ | with_reducible refine i_rU ?_ | with_reducible refine i_rEq rfl ?_ | with_reducible refine i_rNe rfl ?_
  | with_reducible refine i_test ?_ | with_reducible refine i_tB ?_ | with_reducible refine i_and ?_ | with_reducible refine i_or ?_ | with_reducible refine i_not ?_
  | with_reducible refine i_andV ?_ | with_reducible refine i_orV ?_ | with_reducible refine i_notV ?_
  | with_reducible refine i_cons ?_ | with_reducible refine i_nil ?_ | with_reducible refine i_cb ?_ | with_reducible refine i_call ?_ | with_reducible refine i_bl ?_
  | with_reducible refine i_tup ?_ | with_reducible refine i_lst ?_ | with_reducible refine i_par ?_ | with_reducible refine i_gcons ?_ | with_reducible refine i_gnil ?_
  | with_reducible refine And.intro (rfl : V.non = V.non) ?_ | with_reducible refine i_ixT (by assumption) rfl ?_ | with_reducible refine i_ixL (by assumption) rfl ?_ | with_reducible refine i_gtup (by assumption) rfl ?_
  | with_reducible refine i_gsub ?_
  | with_reducible refine Or.inl (Exists.intro _ (And.intro (rfl : [V.int _] = [V.int _]) ?_)) | with_reducible refine Exists.intro _ (And.intro (rfl : [V.int _] = [V.int _]) ?_)
  | with_reducible refine Or.inr (Exists.intro _ (And.intro (rfl : [V.bl _] = [V.bl _]) ?_))
  | with_reducible refine Exists.intro _ (Exists.intro _ (And.intro (rfl : [V.int _, V.int _] = [V.int _, V.int _]) ?_))
  | with_reducible refine Exists.intro _ (Exists.intro _ (And.intro (rfl : [V.ref _] = [V.ref _]) (And.intro (Or.inl (SqL.of (by assumption))) ?_)))
  | with_reducible refine i_rI (show (0 : Int) < _ by assumption) ?_ | with_reducible refine i_rI (show (0 : Int) < _ by decide) ?_
  | with_reducible refine i_rI (pow_ok (Nat.le_of_ble_eq_true rfl) (Nat.le_of_ble_eq_true rfl)) ?_
  | with_reducible refine i_rI (cmulL rfl) ?_))
/-- what the text says of Filter's methods as they are called from outside -/
structure ClsG (K : PySem.W.Frag) (D : Addr) (mc : Value) (pw pm pa pn gw gm ga gn fA fO fV fCl : Addr) : Prop where
  rd : ClX.CRead K D mc
  within : ClX.CMet K D mc "within" pw gw
  missing : ClX.CMet K D mc "missing" pm gm
  always : ClX.CMet K D mc "always" pa ga
  never : ClX.CMet K D mc "never" pn gn
  self : PySem.W.selfFirst K D = true
  andF : PySem.W.findIn K (.ref D) "__and__" = some (some (.ref fA))
  andI : PySem.W.isFn K (.ref fA) = true
  orF : PySem.W.findIn K (.ref D) "__or__" = some (some (.ref fO))
  orI : PySem.W.isFn K (.ref fO) = true
  invF : PySem.W.findIn K (.ref D) "__invert__" = some (some (.ref fV))
  invI : PySem.W.isFn K (.ref fV) = true
  call : StX.CallO K D fCl
theorem i_fU {D : Addr} {H : Hp} {a : Addr} {t : Tr} {sp : Sp} {Q : VK} (h : Fil D H a t) (q : sp [.ref a] H Q E0) : rUno D sp (.ref a) H Q := by
  obtain ⟨dx, v, q', cs, h1, _⟩ := h
  exact ⟨a, dx, _, rfl, h1, q⟩
theorem i_fB {D : Addr} {H : Hp} {a b : Addr} {t u : Tr} {sp : Sp} {Q : VK} (h : Fil D H a t) (h' : Fil D H b u) (q : sp [.ref a, .ref b] H Q E0) : rBin D sp (.ref a) (.ref b) H Q := by
  obtain ⟨dx, v, q', cs, h1, _⟩ := h
  obtain ⟨dy, v', q2, ds, h2, _⟩ := h'
  exact ⟨a, b, dx, dy, _, _, rfl, rfl, h1, h2, q⟩
/-- what is no list and no pen stays -/
def isFix : HO → Bool
  | .tup _ => true
  | .ins _ _ [_, _] => true
  | _ => false
def Fix (H H' : Hp) : Prop := ∀ b o, isFix o = true → H b = some o → H' b = some o
theorem Fix.refl (H : Hp) : Fix H H := fun _ _ _ h => h
theorem Fix.trans {H H1 H2 : Hp} (a : Fix H H1) (b : Fix H1 H2) : Fix H H2 := fun c o p h => b c o p (a c o p h)
theorem Same.fix {H H' : Hp} (e : Same H H') : Fix H H' := fun b o _ h => e b o h
theorem Fix.put {H : Hp} {d : Addr} {xs : List V} {o : HO} (hd : H d = some (.lst xs)) : Fix H (upd H d o) := fun b u hu hb => by
  rw [upd_ne (fun z => by rw [z, hd] at hb; cases hb; cases hu)]
  exact hb
theorem TupS.fix {H H' : Hp} {v : V} {s : Stc} (e : Fix H H') (h : TupS H v s) : TupS H' v s := by
  obtain ⟨a, rfl, h⟩ := h
  exact ⟨a, rfl, e _ _ rfl h⟩
theorem PartsT.fix {H H' : Hp} {t : Addr} {ps : List Stc} (e : Fix H H') (h : PartsT H t ps) : PartsT H' t ps := by
  obtain ⟨vs, h, z⟩ := h
  exact ⟨vs, e _ _ rfl h, Paired.mapP z fun _ _ y => y.fix e⟩
theorem TreeAt.fix {H H' : Hp} (e : Fix H H') {t : Tr} {v : V} (h : TreeAt H t v) : TreeAt H' t v := h.via (fun _ _ z => e _ _ rfl z) fun _ _ z => z.fix e
theorem Fil.fix {D : Addr} {H H' : Hp} {x : Addr} {t : Tr} (e : Fix H H') (h : Fil D H x t) : Fil D H' x t := by
  obtain ⟨dx, v, q, cs, h1, h2, h3, h4⟩ := h
  exact ⟨dx, v, q, cs, e _ _ rfl h1, h2.fix e, e _ _ rfl h3, h4⟩
/-- all but these is as it was -/
def OffS (S : List Addr) (H H' : Hp) : Prop := ∀ b o, b ∉ S → H b = some o → H' b = some o
theorem OffS.refl (S : List Addr) (H : Hp) : OffS S H H := fun _ _ _ h => h
theorem OffS.trans {S : List Addr} {H H1 H2 : Hp} (a : OffS S H H1) (b : OffS S H1 H2) : OffS S H H2 := fun c o n h => b c o n (a c o n h)
theorem OffS.same {S : List Addr} {H H' : Hp} (e : Same H H') : OffS S H H' := fun b o _ h => e b o h
theorem OffS.put {S : List Addr} {H : Hp} {d : Addr} {o : HO} (hd : d ∈ S) : OffS S H (upd H d o) := fun b u hb h => by
  rw [upd_ne (fun z : b = d => hb (by rw [z]; exact hd))]
  exact h
theorem OffS.mono {S T : List Addr} {H H' : Hp} (e : OffS S H H') (h : ∀ a, a ∈ S → a ∈ T) : OffS T H H' := fun b o n z => e b o (fun y => n (h b y)) z
/-- the parts of a sign that are read -/
def DoneAt (D : Addr) (H : Hp) : Fr → List V → Prop
  | .no, us => us = []
  | .anL _, us => us = []
  | .anR l, us => ∃ f, us = [.ref f] ∧ Fil D H f l
  | .ouL _, us => us = []
  | .ouR l, us => ∃ f, us = [.ref f] ∧ Fil D H f l
theorem DoneAt.fix {D : Addr} {H H' : Hp} {fr : Fr} {us : List V} (e : Fix H H') (h : DoneAt D H fr us) : DoneAt D H' fr us := by
  cases fr with
  | no => exact h
  | anL r => exact h
  | ouL r => exact h
  | anR l =>
    obtain ⟨f, a, b⟩ := h
    exact ⟨f, a, b.fix e⟩
  | ouR l =>
    obtain ⟨f, a, b⟩ := h
    exact ⟨f, a, b.fix e⟩
def SIGW : List (Str × V) := [("&", .int 2), ("|", .int 2), ("~", .int 1)]
section
variable {P : Program} {w : World} {K : PySem.W.Frag} {mg : Str → Option Value} {base : Heap} {C CP fI fE fPI hM hN hC hE hR hA hQ hF D fJ : Addr} {md : Value} {pw pm pa pn gw gm ga gn dA dO dV dC : Addr}
abbrev s_joined_by : Stmt := top 36
theorem sc_joined_by : FnScope ["sign", "parts"] ["sign", "parts"] (defScope s_joined_by) := ⟨rfl, rfl, rfl, by decide +kernel, rfl, by decide +kernel, by decide +kernel⟩
def sp_jby (D : Addr) : Sp := fun vs H Q _ => ∃ (fr : Fr) (t : Tr) (pl : Addr) (us : List V) (f : Addr), vs = [.str fr.sgn, .ref pl] ∧ H pl = some (.lst (us ++ [.ref f])) ∧ DoneAt D H fr us ∧ Fil D H f t ∧ fr.next t = none ∧ (fr.put t).cols.length < 64 ∧ ∀ g H', Same H H' → Fil D H' g (fr.put t) → Q (.ref g) H'
theorem ok_jby {f : Addr} {fd : FuncData} (F : Fun K "joined_by" "joined_by" s_joined_by f fd) (CF : ClsG K D md pw pm pa pn gw gm ga gn dA dO dV dC)
    (RF_and : FnR P w K mg base CX0 3 dA (fun vs H Q E => sp_fand D (vs ++ []) H Q E)) (RF_or : FnR P w K mg base CX0 3 dO (fun vs H Q E => sp_for D (vs ++ []) H Q E)) (RF_inv : FnR P w K mg base CX0 3 dV (fun vs H Q E => sp_finv D (vs ++ []) H Q E)) :
    FnOk P w K mg base CX0 4 f fd ["sign", "parts"] (sp_jby D) := by
  refine F.ok sc_joined_by (fun vs H Q E h => ?_) (fun cdv A outer s H vs Q E hr h => ?_)
  · obtain ⟨fr, t, pl, us, g, rfl, _⟩ := h
    rfl
  · obtain ⟨fr, t, pl, us, g, rfl, hl, hd, hf, hn, hz, q⟩ := h
    refine ⟨_, (pss_cons (ps_if (pt_cmpR op_eq (pv 0) pe_str (nomark _))
 (pss_one (ps_ret (pe_un (un_own RF_inv (hr.mono (by decide)) CF.invF CF.invI) (pe_ix ix_list (pv 1) pe_int (fun _ _ => rfl)))))
 pss_nil)
 (pss_one (ps_ret (pe_ifExp (pt_cmpR op_eq (pv 0) pe_str (nomark _)) (pe_op (op_own (op := .BitAnd) RF_and (hr.mono (by decide)) CF.self CF.andF CF.andI) (pe_ix ix_list (pv 1) pe_int (fun _ _ => rfl)) (pe_ix ix_list (pv 1) pe_int (fun _ _ => rfl))) (pe_op (op_own (op := .BitOr) RF_or (hr.mono (by decide)) CF.self CF.orF CF.orI) (pe_ix ix_list (pv 1) pe_int (fun _ _ => rfl)) (pe_ix ix_list (pv 1) pe_int (fun _ _ => rfl))))))), ?_⟩
    cases fr with
    | anL r => cases hn
    | ouL r => cases hn
    | no =>
      subst hd
      walk_at "rd"
      refine s_yes ?_
      walk_at "rd"
      exact i_fU hf ⟨g, t, rfl, hf, q⟩
    | anR l =>
      obtain ⟨f1, rfl, h1⟩ := hd
      have hz' : l.cols.length + t.cols.length < 64 := by
        simp only [Fr.put, Tr.cols, List.length_append] at hz
        exact hz
      walk_at "rd"
      refine s_no rfl ?_
      walk_at "rd"
      refine s_yes ?_
      walk_at "rd"
      exact i_fB h1 hf ⟨f1, g, l, t, rfl, h1, hf, hz', q⟩
    | ouR l =>
      obtain ⟨f1, rfl, h1⟩ := hd
      have hz' : l.cols.length + t.cols.length < 64 := by
        simp only [Fr.put, Tr.cols, List.length_append] at hz
        exact hz
      walk_at "rd"
      refine s_no rfl ?_
      walk_at "rd"
      refine s_no rfl ?_
      walk_at "rd"
      exact i_fB h1 hf ⟨f1, g, l, t, rfl, h1, hf, hz', q⟩
/-- the signs that wait, the innermost first: where each stands, and its list -/
abbrev FrsP (D : Addr) (H : Hp) : List Fr → List (Addr × Addr) → Prop := Paired fun fr p => H p.1 = some (.tup [.str fr.sgn, .ref p.2]) ∧ ∃ us, H p.2 = some (.lst us) ∧ DoneAt D H fr us
structure Frs (D : Addr) (H : Hp) (W : Addr) (c : List Fr) (as : List (Addr × Addr)) : Prop where
  w : H W = some (.lst ((as.map fun p => V.ref p.1).reverse))
  p : FrsP D H c as
  nd : (W :: as.map (·.2)).Nodup
theorem FrsP.via {D : Addr} {H H' : Hp} {c : List Fr} {as : List (Addr × Addr)} (h : FrsP D H c as) (e : Fix H H') (l : ∀ a xs, a ∈ as.map (·.2) → H a = some (.lst xs) → H' a = some (.lst xs)) : FrsP D H' c as := by
  induction h with
  | nil => exact .nil
  | @cons fr p c as r t ih =>
    obtain ⟨h1, us, h2, h3⟩ := r
    exact .cons ⟨e _ _ rfl h1, us, l _ _ (List.mem_cons_self ..) h2, h3.fix e⟩ (ih fun a xs ha => l a xs (List.mem_cons_of_mem _ ha))
theorem Frs.up {D : Addr} {H H' : Hp} {W : Addr} {c : List Fr} {as : List (Addr × Addr)} (h : Frs D H W c as) (e : Same H H') : Frs D H' W c as := ⟨e _ _ h.w, h.p.via (Same.fix e) fun a xs _ z => e _ _ z, h.nd⟩
def Fr.many : Fr → Int
  | .no => 1
  | _ => 2
theorem sig_at (fr : Fr) : atW SIGW fr.sgn = some (.int fr.many) := by
  have a : atW SIGW "~" = some (.int 1) := by decide +kernel
  have b : atW SIGW "&" = some (.int 2) := by decide +kernel
  have c : atW SIGW "|" = some (.int 2) := by decide +kernel
  cases fr with
  | no => exact a
  | anL r => exact b
  | anR r => exact b
  | ouL r => exact c
  | ouR r => exact c
theorem done_len {D : Addr} {H : Hp} {fr : Fr} {us : List V} {x : V} (t : Tr) (h : DoneAt D H fr us) : decide ((((us ++ [x]).length : Nat) : Int) < fr.many) = (fr.next t).isSome := by
  cases fr with
  | no => rw [show us = [] from h]; rfl
  | anL r => rw [show us = [] from h]; rfl
  | ouL r => rw [show us = [] from h]; rfl
  | anR l => obtain ⟨f1, rfl, _⟩ := h; rfl
  | ouR l => obtain ⟨f1, rfl, _⟩ := h; rfl
theorem done_next {D : Addr} {H : Hp} {fr fr' : Fr} {us : List V} {g : Addr} {t r : Tr} (h : DoneAt D H fr us) (e : fr.next t = some (fr', r)) (hg : Fil D H g t) : DoneAt D H fr' (us ++ [.ref g]) := by
  cases fr with
  | no => cases e
  | anR l => cases e
  | ouR l => cases e
  | anL r2 => cases e; rw [show us = [] from h]; exact ⟨g, rfl, hg⟩
  | ouL r2 => cases e; rw [show us = [] from h]; exact ⟨g, rfl, hg⟩
abbrev s_closed : Stmt := top 35
theorem sc_closed : FnScope ["waiting", "made", "sign", "parts"] ["waiting", "made"] (defScope s_closed) := ⟨rfl, rfl, rfl, by decide +kernel, rfl, by decide +kernel, by decide +kernel⟩
def sp_closed (D : Addr) : Sp := fun vs H Q _ => ∃ (W : Addr) (c : List Fr) (as : List (Addr × Addr)) (f : Addr) (t : Tr), vs = [.ref W, .ref f] ∧ Frs D H W c as ∧ Fil D H f t ∧ (plug c t).cols.length < 64 ∧ c.length ≤ 100 ∧
  ∀ v H', OffS (W :: as.map (·.2)) H H' → (match upT c t with
    | (some (c', _), _) => v = .non ∧ ∃ as', Frs D H' W c' as' ∧ ∀ a, a ∈ as'.map (·.2) → a ∈ as.map (·.2)
    | (none, u) => ∃ g, v = .ref g ∧ Fil D H' g u) → Q v H'
theorem ok_closed {f sg fB : Addr} {fd fdB : FuncData} (F : Fun K "closed" "closed" s_closed f fd) (g_SIGNS : mg "SIGNS" = some (.ref sg)) (DS : DW K w sg SIGW)
    (F_joined_by : Fun K "joined_by" "joined_by" s_joined_by fB fdB) (B_joined_by : Binds K fdB ["sign", "parts"] []) (g_joined_by : mg "joined_by" = some (.ref fB)) (G_joined_by : FnOk P w K mg base CX0 4 fB fdB ["sign", "parts"] (sp_jby D)) (z_len : mg "len" = none) :
    FnOk P w K mg base CX0 5 f fd ["waiting", "made"] (sp_closed D) := by
  refine F.ok sc_closed (fun vs H Q E h => ?_) (fun cdv A outer s H vs Q E hr h => ?_)
  · obtain ⟨W, c, as, g, t, rfl, _⟩ := h
    rfl
  · obtain ⟨W, c0, as0, g0, t0, rfl, hF0, hg0, hz0, hc0, q⟩ := h
    refine ⟨_, (pss_cons (ps_while PassesOwn.never (pt_truth (pv 0) (by intro _; rfl))
 (pss_cons (ps_asg (pe_ix ix_list (pv 0) (pe_un un_neg pe_int) (fun _ _ => rfl)) (pg_tup (by rfl) (pgs_cons (pg_name (i := 2) sc_closed.nd rfl (Or.inl rfl)) (pgs_cons (pg_name (i := 3) sc_closed.nd rfl (Or.inl rfl)) pgs_nil))))
 (pss_cons (ps_expr (pe_bm PySem.F.plainAttrs_list PySem.F.slot_list_append PySem.F.type_list_append mt_append (pv 3) (pa_cons (pv 1) pa_nil)))
 (pss_cons (ps_if (pt_cmpR op_lt (pe_callB call_len_seq (by rfl) z_len PySem.boot_len (pa_cons (pv 3) pa_nil)) (pe_wget (pe_glob rfl g_SIGNS (relR _)) (pv 2) (fun _ _ => rfl)) (nomark _))
 (pss_one (ps_ret pe_non))
 pss_nil)
 (pss_cons (ps_expr (pe_bm0 PySem.F.plainAttrs_list PySem.F.slot_list_pop PySem.F.type_list_pop mt_pop (pv 0)))
 (pss_one (ps_set (i := 1) sc_closed.nd rfl (Or.inl rfl) (pe_call G_joined_by (hr.mono (by decide)) rfl g_joined_by F_joined_by.kp B_joined_by .nil pass0 (pa_cons (pv 2) (pa_cons (pv 3) pa_nil))))))))))
 (pss_one (ps_ret (pv 1)))), ?_⟩
    walk_at "rd"
    refine ⟨fun m σ H1 => ∃ c as g t x2 x3, σ = [some (.ref W), some (.ref g), x2, x3] ∧ m = c.length ∧ upT c t = upT c0 t0 ∧ Frs D H1 W c as ∧ Fil D H1 g t ∧ (plug c t).cols.length < 64 ∧ c.length ≤ 100 ∧ (∀ a, a ∈ as.map (·.2) → a ∈ as0.map (·.2)) ∧ OffS (W :: as0.map (·.2)) H H1, ⟨_, c0, as0, g0, t0, none, none, rfl, rfl, rfl, hF0, hg0, hz0, hc0, fun _ z => z, OffS.refl _ _⟩, ?_⟩
    rintro m σ H1 ⟨c, as, g, t, x2, x3, rfl, rfl, hu, hF, hg, hz, hc, hs, of⟩
    walk_at "rd"
    refine ⟨_, .inl ⟨_, SqL.of hF.w, rfl⟩, ?_⟩
    cases c with
    | nil =>
      cases hF.p
      refine iteF ?_
      walk_at "rd"
      refine q _ _ of ?_
      rw [← hu]
      exact ⟨g, rfl, hg⟩
    | cons fr c =>
      obtain ⟨⟨w0, wp, wn⟩, p⟩ : Frs D H1 W (fr :: c) as ∧ True := ⟨hF, trivial⟩
      cases wp with
      | @cons _ p _ as r tl0 =>
        obtain ⟨h1, us, h2, h3⟩ := r
        have ew : ((p :: as).map fun p => V.ref p.1).reverse = (as.map fun p => V.ref p.1).reverse ++ [V.ref p.1] := by rw [List.map_cons, List.reverse_cons]
        rw [ew] at w0
        have lenA := Paired.length tl0
        have mW : W ∈ W :: as0.map (·.2) := List.mem_cons_self ..
        have mP : p.2 ∈ W :: as0.map (·.2) := List.mem_cons_of_mem _ (hs _ (List.mem_cons_self ..))
        have nWp : W ≠ p.2 := fun z => (List.nodup_cons.mp wn).1 (z ▸ List.mem_cons_self ..)
        have nd2 := List.nodup_cons.mp (List.nodup_cons.mp wn).2
        rw [show (!(((p :: as).map fun p => V.ref p.1).reverse).isEmpty) = true from by rw [ew]; simp]
        refine iteT ?_
        refine ⟨_, fun σ' H' h => h, ?_⟩
        walk_at "rd"
        refine i_ixL w0 (v := .ref p.1) (atI_last _ _) ?_
        walk_at "rd"
        refine i_tyL h2 ?_
        walk_at "rd"
        refine i_app h2 ?_ ?_
        · have : us.length ≤ 1 := by
            cases fr with
            | no => rw [show us = [] from h3]; exact Nat.zero_le _
            | anL r => rw [show us = [] from h3]; exact Nat.zero_le _
            | ouL r => rw [show us = [] from h3]; exact Nat.zero_le _
            | anR l => obtain ⟨f1, rfl, _⟩ := h3; exact Nat.le_refl _
            | ouR l => obtain ⟨f1, rfl, _⟩ := h3; exact Nat.le_refl _
          omega
        have fx : Fix H1 (upd H1 p.2 (.lst (us ++ [.ref g]))) := Fix.put h2
        have of2 : OffS (W :: as0.map (·.2)) H1 (upd H1 p.2 (.lst (us ++ [.ref g]))) := OffS.put mP
        have e2 : upd H1 p.2 (.lst (us ++ [.ref g])) p.2 = some (.lst (us ++ [.ref g])) := upd_same
        have eW : upd H1 p.2 (.lst (us ++ [.ref g])) W = some (.lst ((as.map fun p => V.ref p.1).reverse ++ [V.ref p.1])) := by rw [upd_ne nWp]; exact w0
        have pt : FrsP D (upd H1 p.2 (.lst (us ++ [.ref g]))) c as := FrsP.via tl0 fx fun a xs ha hx => by
          rw [upd_ne (fun z : a = p.2 => nd2.1 (show p.2 ∈ as.map (·.2) from by rw [← z]; exact ha))]
          exact hx
        have h1' := fx _ _ rfl h1
        have hg' := hg.fix fx
        have h3' := h3.fix fx
        generalize upd H1 p.2 (.lst (us ++ [.ref g])) = H2 at *
        have of02 := of.trans of2
        walk_at "rd"
        unfold tWGet
        walk_at "rd"
        refine ⟨sg, fr.sgn, SIGW, _, rfl, rfl, DS, sig_at fr, ?_⟩
        walk_at "rd"
        rw [done_len t h3']
        cases e : fr.next t with
        | some y =>
          obtain ⟨fr', r⟩ := y
          obtain ⟨_, _, _, es⟩ := next_put e
          refine iteT ?_
          walk_at "rd"
          refine q _ _ of02 ?_
          rw [← hu]
          have ez : upT (fr :: c) t = (some (fr' :: c, r), t) := by
            show (match fr.next t with | some (g, r) => (some (g :: c, r), t) | none => upT c (fr.put t)) = _
            rw [e]
          rw [ez]
          exact ⟨rfl, p :: as, ⟨by rw [ew]; exact eW, .cons ⟨by rw [es]; exact h1', _, e2, done_next h3' e hg'⟩ pt, wn⟩, hs⟩
        | none =>
          have ez : upT (fr :: c) t = upT c (fr.put t) := by
            show (match fr.next t with | some (g, r) => (some (g :: c, r), t) | none => upT c (fr.put t)) = _
            rw [e]
          refine iteF ?_
          walk_at "rd"
          refine i_tyL eW ?_
          refine i_pop eW ?_
          have fx3 : Fix H2 (upd H2 W (.lst (as.map fun p => V.ref p.1).reverse)) := Fix.put eW
          have of3 : OffS (W :: as0.map (·.2)) H2 (upd H2 W (.lst (as.map fun p => V.ref p.1).reverse)) := OffS.put mW
          have e3 : upd H2 W (.lst (as.map fun p => V.ref p.1).reverse) W = some (.lst (as.map fun p => V.ref p.1).reverse) := upd_same
          have e4 : upd H2 W (.lst (as.map fun p => V.ref p.1).reverse) p.2 = some (.lst (us ++ [.ref g])) := by rw [upd_ne (Ne.symm nWp)]; exact e2
          have pt3 : FrsP D (upd H2 W (.lst (as.map fun p => V.ref p.1).reverse)) c as := FrsP.via pt fx3 fun a xs ha hx => by
            rw [upd_ne (fun z : a = W => (List.nodup_cons.mp wn).1 (by rw [← z]; exact List.mem_cons_of_mem _ ha))]
            exact hx
          have hg3 := hg'.fix fx3
          have h33 := h3'.fix fx3
          generalize upd H2 W (.lst (as.map fun p => V.ref p.1).reverse) = H3 at *
          walk_at "rd"
          refine ⟨fr, t, p.2, us, g, rfl, e4, h33, hg3, e, Nat.lt_of_le_of_lt (plug_cols c _) hz, fun g2 H4 s4 hg4 => ?_⟩
          walk_at "rd"
          refine ⟨_, Nat.lt_succ_self _, c, as, g2, fr.put t, _, _, rfl, rfl, by rw [← ez]; exact hu, ?_, hg4, hz, by simp at hc; omega, fun a ha => hs a (List.mem_cons_of_mem _ ha), (of02.trans of3).trans (OffS.same s4)⟩
          exact Frs.up ⟨e3, pt3, by
            refine List.nodup_cons.mpr ⟨fun z => (List.nodup_cons.mp wn).1 (List.mem_cons_of_mem _ z), nd2.2⟩⟩ s4
end
end Spk

set_option Elab.async false
set_option linter.all false
set_option maxRecDepth 100000
set_option maxHeartbeats 1000000
namespace Spk
open PySem L2 TL
local macro_rules | `(tactic| walk_at "rd") => `(tactic| repeat (first
  | with_reducible refine i_seq ?_ | with_reducible refine i_asg ?_ | with_reducible refine i_ret ?_ | with_reducible refine i_ifS ?_ | with_reducible refine i_if ?_
  | with_reducible refine i_for ?_ | with_reducible refine i_iL ?_ | with_reducible refine i_iT ?_ | with_reducible refine i_ckw ?_ | with_reducible refine i_cm ?_ | with_reducible refine And.intro (rfl : V.ref _ = V.ref _) ?_ | with_reducible refine i_rng1 ?_ | with_reducible refine i_bm ?_ | with_reducible refine i_bm0 ?_
  | with_reducible refine i_drop ?_ | with_reducible refine i_next ?_
  | with_reducible refine i_var rfl ?_ | with_reducible refine i_c ?_ | with_reducible refine i_op ?_ | with_reducible refine i_un ?_ | with_reducible refine i_name ?_
  | with_reducible refine i_rI0 ?_ | with_reducible refine i_rU ?_ | with_reducible refine i_rEq rfl ?_ | with_reducible refine i_rNe rfl ?_
  | with_reducible refine i_test ?_ | with_reducible refine i_tB ?_ | with_reducible refine i_and ?_ | with_reducible refine i_or ?_ | with_reducible refine i_not ?_
  | with_reducible refine i_andV ?_ | with_reducible refine i_orV ?_ | with_reducible refine i_notV ?_
  | with_reducible refine i_cons ?_ | with_reducible refine i_nil ?_ | with_reducible refine i_cb ?_ | with_reducible refine i_call ?_ | with_reducible refine i_bl ?_
  | with_reducible refine i_tup ?_ | with_reducible refine i_lst ?_ | with_reducible refine i_par ?_ | with_reducible refine i_gcons ?_ | with_reducible refine i_gnil ?_
  | with_reducible refine And.intro (rfl : V.non = V.non) ?_ | with_reducible refine i_ixT (by assumption) rfl ?_ | with_reducible refine i_ixL (by assumption) rfl ?_ | with_reducible refine i_gtup (by assumption) rfl ?_
  | with_reducible refine i_gsub ?_
  | with_reducible refine Or.inl (Exists.intro _ (And.intro (rfl : [V.int _] = [V.int _]) ?_)) | with_reducible refine Exists.intro _ (And.intro (rfl : [V.int _] = [V.int _]) ?_)
  | with_reducible refine Or.inr (Exists.intro _ (And.intro (rfl : [V.bl _] = [V.bl _]) ?_))
  | with_reducible refine Exists.intro _ (Exists.intro _ (And.intro (rfl : [V.int _, V.int _] = [V.int _, V.int _]) ?_))
  | with_reducible refine Exists.intro _ (Exists.intro _ (And.intro (rfl : [V.ref _] = [V.ref _]) (And.intro (Or.inl (SqL.of (by assumption))) ?_)))
  | with_reducible refine i_rI (show (0 : Int) < _ by assumption) ?_ | with_reducible refine i_rI (show (0 : Int) < _ by decide) ?_
  | with_reducible refine i_rI (pow_ok (Nat.le_of_ble_eq_true rfl) (Nat.le_of_ble_eq_true rfl)) ?_
  | with_reducible refine i_rI (cmulL rfl) ?_))
theorem get_add {ws : List Str} {k : Nat} {rest suf : List Str} {pre : List Str} (e : ws = pre ++ (rest ++ suf)) (hk : pre.length = k) {j : Nat} {w0 : Str} (h : rest[j]? = some w0) : ws[k + j]? = some w0 := by
  have hj : j < rest.length := (List.getElem?_eq_some_iff.mp h).1
  rw [e, List.getElem?_append_right (by omega), show k + j - pre.length = j from by omega, List.getElem?_append_left hj]
  exact h
section
variable {P : Program} {w : World} {K : PySem.W.Frag} {mg : Str → Option Value} {base : Heap} {C CP fI fE fPI hM hN hC hE hR hA hQ hF D fJ : Addr} {md : Value} {pw pm pa pn gw gm ga gn dA dO dV dC : Addr}
/-- the promise of a method that reads on: what the object is, and where it stands -/
abbrev s_Phrase_condition : Stmt := inClass (top 34) 13
theorem sc_Phrase_condition : FnScope ["self", "word", "last", "column", "numbers"] ["self", "word", "last"] (defScope s_Phrase_condition) := ⟨rfl, rfl, rfl, by decide +kernel, rfl, by decide +kernel, by decide +kernel⟩
def sp_cond (D CP : Addr) : Sp := fun vs H Q _ => ∃ (x : Addr) (ws pre rest suf : List Str) (w0 : Str) (last : Int) (t : Tr), vs = [.ref x, .str w0, .int last] ∧ Phr CP H x ws (pre.length : Nat) ∧ ws.length ≤ 1000 ∧ ws = pre ++ (rest ++ suf) ∧
  leafT t ∧ wordsT t = w0 :: rest ∧ GoodT t ∧ (pre.length : Int) + rest.length ≤ last ∧ ∀ g H', Off x H H' → Phr CP H' x ws ((pre.length + rest.length : Nat) : Int) → Fil D H' g t → Q (.ref g) H'
theorem ok_cond {fd : FuncData} (F : Fun K "condition" "Phrase.condition" s_Phrase_condition hQ fd) (TP : ClsP K mg CP fPI hM hN hC hE hR hA hQ hF) (MP : ClsP K mg CP fPI hM hN hC hE hR hA hQ hF) (T : ClsF K mg D fJ) (CF : ClsG K D md pw pm pa pn gw gm ga gn dA dO dV dC)
    (RP_check : FnR P w K mg base CX0 1 hC (fun vs H Q E => sp_check (vs ++ []) H Q E)) (RP_next_name : FnR P w K mg base CX0 3 hA (fun vs H Q E => sp_pname CP (vs ++ []) H Q E)) (RP_next_ranges : FnR P w K mg base CX0 6 hR (fun vs H Q E => sp_pnext C CP (vs ++ []) H Q E))
    (RF_within : FnR P w K mg base CX0 3 gw (fun vs H Q E => sp_fwithin C D (vs ++ []) H Q E)) (RF_missing : FnR P w K mg base CX0 3 gm (fun vs H Q E => sp_fmissing D (vs ++ []) H Q E)) (RF_always : FnR P w K mg base CX0 3 ga (fun vs H Q E => sp_falways D (vs ++ []) H Q E)) (RF_never : FnR P w K mg base CX0 3 gn (fun vs H Q E => sp_fnever D (vs ++ []) H Q E)) :
    FnOk P w K mg base CX0 7 hQ fd ["self", "word", "last"] (sp_cond D CP) := by
  have g_CF := T.g_CF
  refine F.ok sc_Phrase_condition (fun vs H Q E h => ?_) (fun cdv A outer s H vs Q E hr h => ?_)
  · obtain ⟨x, ws, pre, rest, suf, w0, last, t, rfl, _⟩ := h
    rfl
  · obtain ⟨x, ws, pre, rest, suf, w0, last, t, rfl, ph, hz, ew, hl, et, hg, hla, q⟩ := h
    refine ⟨_, (pss_cons (ps_expr (pe_methR (pv 0) TP.cl MP.check RP_check (hr.mono (by decide)) pass0 (pa_cons (pe_cmpR op_in_seq (pv 1) (pe_tup (pa_cons pe_str (pa_cons pe_str (pa_cons pe_str (pa_cons pe_str pa_nil))))) (by rfl)) pa_nil)))
 (pss_cons (ps_if (pt_cmpR op_eq (pv 1) pe_str (nomark _))
 (pss_one (ps_ret (pe_cmeth0 (pe_glob rfl g_CF (relR _)) CF.rd CF.always RF_always (hr.mono (by decide)) pass0)))
 pss_nil)
 (pss_cons (ps_if (pt_cmpR op_eq (pv 1) pe_str (nomark _))
 (pss_one (ps_ret (pe_cmeth0 (pe_glob rfl g_CF (relR _)) CF.rd CF.never RF_never (hr.mono (by decide)) pass0)))
 pss_nil)
 (pss_cons (ps_set (i := 3) sc_Phrase_condition.nd rfl (Or.inl rfl) (pe_meth0R (pv 0) TP.cl MP.next_name RP_next_name (hr.mono (by decide)) pass0))
 (pss_cons (ps_expr (pe_methR (pv 0) TP.cl MP.check RP_check (hr.mono (by decide)) pass0 (pa_cons (pe_cmpR op_le (pe_fld (pv 0) rfl) (pv 2) (nomark _)) pa_nil)))
 (pss_cons (ps_if (pt_cmpR op_eq (pv 1) pe_str (nomark _))
 (pss_one (ps_ret (ClX.pe_cmeth (pe_glob rfl g_CF (relR _)) CF.rd CF.missing RF_missing (hr.mono (by decide)) pass0 (pa_cons (pv 3) pa_nil))))
 pss_nil)
 (pss_cons (ps_set (i := 4) sc_Phrase_condition.nd rfl (Or.inl rfl) (pe_meth0R (pv 0) TP.cl MP.next_ranges RP_next_ranges (hr.mono (by decide)) pass0))
 (pss_cons (ps_expr (pe_methR (pv 0) TP.cl MP.check RP_check (hr.mono (by decide)) pass0 (pa_cons (pe_cmpR op_le (pe_fld (pv 0) rfl) (pv 2) (nomark _)) pa_nil)))
 (pss_one (ps_ret (ClX.pe_cmeth (pe_glob rfl g_CF (relR _)) CF.rd CF.within RF_within (hr.mono (by decide)) pass0 (pa_cons (pv 3) (pa_cons (pv 4) pa_nil))))))))))))), ?_⟩
    obtain ⟨dx, i, l, hx, hll⟩ := id ph
    walk_at "rd"
    refine i_meth ?_
    walk_at "rd"
    refine ⟨x, dx, _, rfl, hx, rfl, ?_⟩
    walk_at "rd"
    refine ⟨size_of (Nat.le_of_ble_eq_true rfl), fun t1 ht1 => ?_⟩
    obtain ⟨H1, e1, s1, h1⟩ := new_heap (o := .tup [.str "always", .str "never", .str "missing", .str "in"]) ht1
    rw [e1]
    have of1 : Off x H H1 := off_of s1
    have hx1 := s1 _ _ hx
    have hl1 := s1 _ _ hll
    cases t with
    | an l r => exact hl.elim
    | ou l r => exact hl.elim
    | no t => exact hl.elim
    | al =>
      cases et
      refine ⟨t1, _, rfl, .inr (SqT.of h1), rfl, rfl, ?_⟩
      rw [show inV (V.str "always") [V.str "always", V.str "never", V.str "missing", V.str "in"] = true from by decide]
      refine ⟨_, rfl, ?_⟩
      dsimp only
      walk_at "rd"
      refine s_yes ?_
      walk_at "rd"
      exact ⟨rfl, fun g H2 s2 hg2 => q g H2 (Off.trans of1 (off_of s2)) ⟨dx, i, l, s2 _ _ hx1, s2 _ _ hl1⟩ hg2⟩
    | ne =>
      cases et
      refine ⟨t1, _, rfl, .inr (SqT.of h1), rfl, rfl, ?_⟩
      rw [show inV (V.str "never") [V.str "always", V.str "never", V.str "missing", V.str "in"] = true from by decide]
      refine ⟨_, rfl, ?_⟩
      dsimp only
      walk_at "rd"
      refine s_no rfl ?_
      walk_at "rd"
      refine s_yes ?_
      walk_at "rd"
      exact ⟨rfl, fun g H2 s2 hg2 => q g H2 (Off.trans of1 (off_of s2)) ⟨dx, i, l, s2 _ _ hx1, s2 _ _ hl1⟩ hg2⟩
    | mi c =>
      cases et
      refine ⟨t1, _, rfl, .inr (SqT.of h1), rfl, rfl, ?_⟩
      rw [show inV (V.str "missing") [V.str "always", V.str "never", V.str "missing", V.str "in"] = true from by decide]
      refine ⟨_, rfl, ?_⟩
      dsimp only
      walk_at "rd"
      refine s_no rfl ?_
      walk_at "rd"
      refine s_no rfl ?_
      walk_at "rd"
      refine i_meth ?_
      walk_at "rd"
      refine ⟨x, dx, _, rfl, hx1, rfl, ?_⟩
      have w1 := get_add (rest := _) (suf := suf) ew rfl (j := 0) (w0 := c) rfl
      refine ⟨x, ws, pre.length, c, rfl, ⟨dx, i, l, hx1, hl1⟩, hz, w1, hg, fun H2 of2 ph2 => ?_⟩
      obtain ⟨dx2, i2, l2, hx2, hl2⟩ := ph2
      walk_at "rd"
      refine i_meth ?_
      walk_at "rd"
      refine ⟨x, dx2, _, rfl, hx2, rfl, ?_⟩
      walk_at "rd"
      refine ⟨_, rfl, x, CP, dx2, _, _, rfl, hx2, TP.cl, TP.nP, lk_place, ?_⟩
      walk_at "rd"
      simp only [List.length_cons, List.length_nil] at hla
      rw [decide_eq_true (show (pre.length : Int) + 1 ≤ last by omega)]
      refine ⟨_, rfl, ?_⟩
      dsimp only
      walk_at "rd"
      refine s_yes ?_
      walk_at "rd"
      exact ⟨c, rfl, fun g H3 s3 hg3 => q g H3 (Off.trans of1 (Off.trans of2 (off_of s3))) ⟨dx2, i2, l2, s3 _ _ hx2, s3 _ _ hl2⟩ hg3⟩
    | wi c ps =>
      cases et
      refine ⟨t1, _, rfl, .inr (SqT.of h1), rfl, rfl, ?_⟩
      rw [show inV (V.str "in") [V.str "always", V.str "never", V.str "missing", V.str "in"] = true from by decide]
      refine ⟨_, rfl, ?_⟩
      dsimp only
      walk_at "rd"
      refine s_no rfl ?_
      walk_at "rd"
      refine s_no rfl ?_
      walk_at "rd"
      refine i_meth ?_
      walk_at "rd"
      refine ⟨x, dx, _, rfl, hx1, rfl, ?_⟩
      have w1 := get_add (rest := _) (suf := suf) ew rfl (j := 0) (w0 := c) rfl
      refine ⟨x, ws, pre.length, c, rfl, ⟨dx, i, l, hx1, hl1⟩, hz, w1, hg.1, fun H2 of2 ph2 => ?_⟩
      obtain ⟨dx2, i2, l2, hx2, hl2⟩ := ph2
      walk_at "rd"
      refine i_meth ?_
      walk_at "rd"
      refine ⟨x, dx2, _, rfl, hx2, rfl, ?_⟩
      walk_at "rd"
      refine ⟨_, rfl, x, CP, dx2, _, _, rfl, hx2, TP.cl, TP.nP, lk_place, ?_⟩
      walk_at "rd"
      simp only [List.length_cons, List.length_nil] at hla
      rw [decide_eq_true (show (pre.length : Int) + 1 ≤ last by omega)]
      refine ⟨_, rfl, ?_⟩
      dsimp only
      walk_at "rd"
      refine s_no rfl ?_
      walk_at "rd"
      refine i_meth ?_
      walk_at "rd"
      refine ⟨x, dx2, _, rfl, hx2, rfl, ?_⟩
      have w2 := get_add (rest := _) (suf := suf) ew rfl (j := 1) (w0 := partsT ps) rfl
      refine ⟨x, ws, pre.length + 1, ps, rfl, ⟨dx2, i2, l2, hx2, hl2⟩, hz, w2, hg.2.1, hg.2.2.1, Nat.le_trans hg.2.2.2 (by decide), fun r H3 of3 ph3 hr3 => ?_⟩
      obtain ⟨dx3, i3, l3, hx3, hl3⟩ := ph3
      walk_at "rd"
      refine i_meth ?_
      walk_at "rd"
      refine ⟨x, dx3, _, rfl, hx3, rfl, ?_⟩
      walk_at "rd"
      refine ⟨_, rfl, x, CP, dx3, _, _, rfl, hx3, TP.cl, TP.nP, lk_place, ?_⟩
      walk_at "rd"
      rw [decide_eq_true (show ((pre.length + 1 : Nat) : Int) + 1 ≤ last by omega)]
      refine ⟨_, rfl, ?_⟩
      dsimp only
      walk_at "rd"
      exact ⟨c, r, ps, rfl, hr3, fun g H4 s4 hg4 => q g H4 (Off.trans of1 (Off.trans of2 (Off.trans of3 (off_of s4)))) ⟨dx3, i3, l3, s4 _ _ hx3, s4 _ _ hl3⟩ hg4⟩
/-! ### what a reader's step leaves -/
theorem off_fix {CP x : Addr} {H H' : Hp} {dx : Addr} {i k : Int} {l : Addr} (hx : H x = some (.ins CP dx (phf i l k))) (o : Off x H H') : Fix H H' := fun b u hu hb => o b u (fun z => by
  rw [z, hx] at hb
  cases hb
  cases hu) hb
theorem Frs.off {CP x D W : Addr} {H H' : Hp} {c : List Fr} {as : List (Addr × Addr)} (h : Frs D H W c as) {dx : Addr} {i k : Int} {l : Addr} (hx : H x = some (.ins CP dx (phf i l k))) (o : Off x H H') : Frs D H' W c as := by
  have ls : ∀ a xs, H a = some (.lst xs) → H' a = some (.lst xs) := fun a xs ha => o _ _ (fun z => by rw [z, hx] at ha; cases ha) ha
  exact ⟨ls _ _ h.w, h.p.via (off_fix hx o) fun a xs _ z => ls _ _ z, h.nd⟩
theorem DoneAt.refs {D : Addr} {H : Hp} {fr : Fr} {us : List V} (h : DoneAt D H fr us) : ∀ u, u ∈ us → ∃ r, u = V.ref r := by
  cases fr with
  | no => rw [show us = [] from h]; exact fun u hu => absurd hu List.not_mem_nil
  | anL r => rw [show us = [] from h]; exact fun u hu => absurd hu List.not_mem_nil
  | ouL r => rw [show us = [] from h]; exact fun u hu => absurd hu List.not_mem_nil
  | anR l => obtain ⟨f, rfl, _⟩ := h; exact fun u hu => ⟨f, List.mem_singleton.mp hu⟩
  | ouR l => obtain ⟨f, rfl, _⟩ := h; exact fun u hu => ⟨f, List.mem_singleton.mp hu⟩
theorem FrsP.lists {D : Addr} {H : Hp} {c : List Fr} {as : List (Addr × Addr)} (h : FrsP D H c as) : ∀ a, a ∈ as.map (·.2) → ∃ us, H a = some (.lst us) ∧ ∀ u, u ∈ us → ∃ r, u = V.ref r := by
  induction h with
  | nil => exact fun a ha => absurd ha List.not_mem_nil
  | @cons fr p c as r t ih =>
    obtain ⟨_, us, h2, h3⟩ := r
    intro a ha
    rcases List.mem_cons.mp ha with e | ha
    · rw [e]; exact ⟨us, h2, h3.refs⟩
    · exact ih a ha
theorem Frs.lists {D W : Addr} {H : Hp} {c : List Fr} {as : List (Addr × Addr)} (h : Frs D H W c as) : ∀ a, a ∈ W :: as.map (·.2) → ∃ us, H a = some (.lst us) ∧ ∀ u, u ∈ us → ∃ r, u = V.ref r := by
  intro a ha
  rcases List.mem_cons.mp ha with e | ha
  · rw [e]
    refine ⟨_, h.w, fun u hu => ?_⟩
    obtain ⟨p, _, e⟩ := List.mem_map.mp (List.mem_reverse.mp hu)
    exact ⟨_, e.symm⟩
  · exact h.p.lists a ha
theorem phr_offS {CP x : Addr} {H H' : Hp} {ws : List Str} {k : Int} {S : List Addr} (h : Phr CP H x ws k) (hn : ws ≠ []) (hS : ∀ a, a ∈ S → ∃ us, H a = some (.lst us) ∧ ∀ u, u ∈ us → ∃ r, u = V.ref r) (o : OffS S H H') : Phr CP H' x ws k := by
  obtain ⟨dx, i, l, h1, h2⟩ := h
  refine ⟨dx, i, l, o _ _ (fun z => ?_) h1, o _ _ (fun z => ?_) h2⟩
  · obtain ⟨us, e, _⟩ := hS _ z
    rw [h1] at e
    cases e
  · obtain ⟨us, e, f⟩ := hS _ z
    rw [h2] at e
    have e2 := HO.lst.inj (Option.some.inj e)
    cases ws with
    | nil => exact hn rfl
    | cons w0 ws =>
      obtain ⟨r, hr⟩ := f (.str w0) (by rw [← e2]; exact List.mem_cons_self ..)
      cases hr
theorem sig_leaf {t : Tr} {w0 : Str} {rest : List Str} (h : leafT t) (e : wordsT t = w0 :: rest) : (atW SIGW w0).isSome = false := by
  cases t with
  | an l r => exact h.elim
  | ou l r => exact h.elim
  | no t => exact h.elim
  | al => cases e; decide +kernel
  | ne => cases e; decide +kernel
  | mi c => cases e; decide +kernel
  | wi c ps => cases e; decide +kernel
abbrev s_Phrase_next_filter : Stmt := inClass (top 34) 12
theorem sc_Phrase_next_filter : FnScope ["self", "last", "waiting", "made", "word"] ["self"] (defScope s_Phrase_next_filter) := ⟨rfl, rfl, rfl, by decide +kernel, rfl, by decide +kernel, by decide +kernel⟩
def sp_nfilter (D CP : Addr) : Sp := fun vs H Q _ => ∃ (x : Addr) (ws pre suf : List Str) (T : Tr), vs = [.ref x] ∧ Phr CP H x ws (pre.length : Nat) ∧ ws.length ≤ 1000 ∧ ws = pre ++ (wordsT T ++ suf) ∧
  GoodT T ∧ T.cols.length < 64 ∧ sdT T ≤ 100 ∧ (wordsT T).length ≤ 400 ∧ ∀ g H', Off x H H' → Phr CP H' x ws ((pre.length + (wordsT T).length : Nat) : Int) → Fil D H' g T → Q (.ref g) H'
theorem ok_nfilter {sg fC : Addr} {fd fdC : FuncData} {tW tS : Tok} (F : Fun K "next_filter" "Phrase.next_filter" s_Phrase_next_filter hF fd) (TP : ClsP K mg CP fPI hM hN hC hE hR hA hQ hF) (MP : ClsP K mg CP fPI hM hN hC hE hR hA hQ hF)
    (g_SIGNS : mg "SIGNS" = some (.ref sg)) (DS : DW K w sg SIGW) (g_MOST_WORDS : mg "MOST_WORDS" = some (.int 400 tW)) (g_MOST_SIGNS : mg "MOST_SIGNS" = some (.int 100 tS))
    (RP_next_word : FnR P w K mg base CX0 2 hN (fun vs H Q E => sp_word CP (vs ++ []) H Q E)) (RP_check : FnR P w K mg base CX0 1 hC (fun vs H Q E => sp_check (vs ++ []) H Q E)) (RP_condition : FnR P w K mg base CX0 7 hQ (fun vs H Q E => sp_cond D CP (vs ++ []) H Q E))
    (F_closed : Fun K "closed" "closed" s_closed fC fdC) (B_closed : Binds K fdC ["waiting", "made"] []) (g_closed : mg "closed" = some (.ref fC)) (G_closed : FnOk P w K mg base CX0 5 fC fdC ["waiting", "made"] (sp_closed D)) (z_len : mg "len" = none) :
    FnOk P w K mg base CX0 8 hF fd ["self"] (sp_nfilter D CP) := by
  refine F.ok sc_Phrase_next_filter (fun vs H Q E h => ?_) (fun cdv A outer s H vs Q E hr h => ?_)
  · obtain ⟨x, ws, pre, suf, T, rfl, _⟩ := h
    rfl
  · obtain ⟨x, ws, pre, suf, T, rfl, ph, hz, ew, hg, hc, hs, hw, q⟩ := h
    refine ⟨_, (pss_cons (ps_set (i := 1) sc_Phrase_next_filter.nd rfl (Or.inl rfl) (pe_op op_add (pe_fld (pv 0) rfl) (pe_glob (v := .int 400) rfl g_MOST_WORDS ⟨_, rfl⟩)))
 (pss_cons (ps_set (i := 2) sc_Phrase_next_filter.nd rfl (Or.inl rfl) (pe_lst pa_nil))
 (pss_cons (ps_set (i := 3) sc_Phrase_next_filter.nd rfl (Or.inl rfl) pe_non)
 (pss_cons (ps_while PassesOwn.never (pt_cmpR op_isN (pv 3) pe_non (nomark _))
 (pss_cons (ps_set (i := 4) sc_Phrase_next_filter.nd rfl (Or.inl rfl) (pe_meth0R (pv 0) TP.cl MP.next_word RP_next_word (hr.mono (by decide)) pass0))
 (pss_cons (ps_expr (pe_methR (pv 0) TP.cl MP.check RP_check (hr.mono (by decide)) pass0 (pa_cons (pe_cmpR op_le (pe_fld (pv 0) rfl) (pv 1) (nomark _)) pa_nil)))
 (pss_one (ps_if (pt_cmp (pc_win (pv 4) (pe_glob rfl g_SIGNS (relR _))))
 (pss_cons (ps_expr (pe_methR (pv 0) TP.cl MP.check RP_check (hr.mono (by decide)) pass0 (pa_cons (pe_cmpR op_lt (pe_callB call_len_seq (by rfl) z_len PySem.boot_len (pa_cons (pv 2) pa_nil)) (pe_glob (v := .int 100) rfl g_MOST_SIGNS ⟨_, rfl⟩) (nomark _)) pa_nil)))
 (pss_one (ps_expr (pe_bm PySem.F.plainAttrs_list PySem.F.slot_list_append PySem.F.type_list_append mt_append (pv 2) (pa_cons (pe_tup (pa_cons (pv 4) (pa_cons (pe_lst pa_nil) pa_nil))) pa_nil)))))
 (pss_one (ps_set (i := 3) sc_Phrase_next_filter.nd rfl (Or.inl rfl) (pe_call G_closed (hr.mono (by decide)) rfl g_closed F_closed.kp B_closed .nil pass0 (pa_cons (pv 2) (pa_cons (pe_methR (pv 0) TP.cl MP.condition RP_condition (hr.mono (by decide)) pass0 (pa_cons (pv 4) (pa_cons (pv 1) pa_nil))) pa_nil))))))))))
 (pss_one (ps_ret (pv 3))))))), ?_⟩
    obtain ⟨dx, i, l, hx, hl⟩ := id ph
    walk_at "rd"
    refine ⟨_, rfl, x, CP, dx, _, _, rfl, hx, TP.cl, TP.nP, lk_place, ?_⟩
    walk_at "rd"
    refine ⟨Nat.zero_le _, fun W hW => ?_⟩
    obtain ⟨H1, e1, s1, h1⟩ := new_heap (o := .lst []) hW
    rw [e1]
    walk_at "rd"
    refine ⟨fun m σ H2 => (∃ (c : List Fr) (t : Tr) (as : List (Addr × Addr)) (pre2 : List Str) (x4 : Option V), σ = [some (.ref x), some (.int ((pre.length : Int) + 400)), some (.ref W), some .non, x4] ∧ plug c t = T ∧ Frs D H2 W c as ∧
        Phr CP H2 x ws (pre2.length : Nat) ∧ ws = pre2 ++ (wordsT t ++ (pendW c ++ suf)) ∧ Off x H H2 ∧ (∀ a, a ∈ W :: as.map (·.2) → H a = none) ∧ m = (wordsT t).length + (pendW c).length + 1) ∨
      (∃ (g : Addr) (x4 : Option V), σ = [some (.ref x), some (.int ((pre.length : Int) + 400)), some (.ref W), some (.ref g), x4] ∧ Off x H H2 ∧ Phr CP H2 x ws ((pre.length + (wordsT T).length : Nat) : Int) ∧ Fil D H2 g T ∧ m = 0), ?_, ?_⟩
    · refine ⟨_, .inl ⟨[], T, [], pre, none, rfl, rfl, ⟨h1, .nil, by simp⟩, ⟨dx, i, l, s1 _ _ hx, s1 _ _ hl⟩, ew, off_of s1, ?_, rfl⟩⟩
      intro a ha
      rw [List.map_nil, List.mem_singleton] at ha
      subst ha
      exact hW
    · rintro m σ H2 (⟨c, t, as, pre2, x4, rfl, hT, hF, ph2, ew2, of2, nn, rfl⟩ | ⟨g, x4, rfl, of2, ph2, hg2, rfl⟩)
      · walk_at "rd"
        refine iteT ⟨_, fun σ' H' h => h, ?_⟩
        have nws : ws ≠ [] := fun z => by
          have e := congrArg List.length ew2
          have := words_pos t
          rw [z, List.length_append, List.length_append] at e
          simp only [List.length_nil] at e
          omega
        have lenE : pre.length + (wordsT T).length = pre2.length + ((wordsT t).length + (pendW c).length) := by
          have e := congrArg List.length (ew.symm.trans ew2)
          simp only [List.length_append] at e
          omega
        have gt : GoodT t := plug_good (c := c) (by rw [hT]; exact hg)
        have lenA := Paired.length hF.p
        have sd := plug_sd c t
        rw [hT] at sd
        obtain ⟨w0, rest, et⟩ : ∃ w0 rest, wordsT t = w0 :: rest := by
          cases e : wordsT t with
          | nil => exact absurd (words_pos t) (by rw [e]; exact Nat.lt_irrefl _)
          | cons a b => exact ⟨a, b, rfl⟩
        have lt1 : (wordsT t).length = rest.length + 1 := by rw [et]; rfl
        walk_at "rd"
        obtain ⟨dx2, i2, l2, hx2, hl2⟩ := id ph2
        refine i_meth ?_
        walk_at "rd"
        refine ⟨x, dx2, _, rfl, hx2, rfl, ?_⟩
        walk_at "rd"
        refine ⟨x, ws, pre2.length, w0, rfl, ph2, hz, drop_get (suf := rest ++ (pendW c ++ suf)) (by rw [ew2, et]; rfl), fun H3 of3 ph3 => ?_⟩
        have hF3 := hF.off hx2 of3
        obtain ⟨dx3, i3, l3, hx3, hl3⟩ := id ph3
        walk_at "rd"
        refine i_meth ?_
        walk_at "rd"
        refine ⟨x, dx3, _, rfl, hx3, rfl, ?_⟩
        walk_at "rd"
        refine ⟨_, rfl, x, CP, dx3, _, _, rfl, hx3, TP.cl, TP.nP, lk_place, ?_⟩
        walk_at "rd"
        rw [decide_eq_true (show (pre2.length : Int) + 1 ≤ (pre.length : Int) + 400 by omega)]
        refine ⟨_, rfl, ?_⟩
        dsimp only
        walk_at "rd"
        unfold tWIn
        walk_at "rd"
        refine ⟨sg, w0, SIGW, rfl, rfl, DS, ?_⟩
        by_cases hl : leafT t
        · rw [sig_leaf hl et]
          refine ⟨false, rfl, iteF ?_⟩
          walk_at "rd"
          refine i_meth ?_
          walk_at "rd"
          refine ⟨x, dx3, _, rfl, hx3, rfl, ?_⟩
          walk_at "rd"
          have el : ((pre2 ++ [w0]).length : Int) = (pre2.length : Int) + 1 := by rw [List.length_append]; rfl
          have es : ws = (pre2 ++ [w0]) ++ (rest ++ (pendW c ++ suf)) := by rw [ew2, et]; simp
          refine ⟨x, ws, pre2 ++ [w0], rest, pendW c ++ suf, w0, _, t, rfl, by rw [el]; exact ph3, hz, es, hl, et, gt, by omega, fun g H4 of4 ph4 hg4 => ?_⟩
          have hF4 := hF3.off hx3 of4
          have ct : (plug c t).cols.length < 64 := by rw [hT]; exact hc
          walk_at "rd"
          refine ⟨W, c, as, g, t, rfl, hF4, hg4, ct, by omega, fun v H5 of5 hm => ?_⟩
          have ph5 := phr_offS ph4 nws hF4.lists of5
          have of05 : Off x H H5 := fun b o hb z => of5 b o (fun y => by rw [nn b y] at z; cases z) (of4 b o hb (of3 b o hb (of2 b o hb z)))
          cases eu : upT c t with
          | mk o u =>
            rw [eu] at hm
            cases o with
            | some y =>
              obtain ⟨c', r⟩ := y
              obtain ⟨rfl, as', hF5, hs5⟩ := hm
              obtain ⟨u1, u2, u3⟩ := upT_some eu
              have wp := words_pos r
              have lp : (pendW c).length = (wordsT r).length + (pendW c').length := by rw [u2, List.length_append]
              walk_at "rd"
              refine ⟨_, ?_, .inl ⟨c', r, as', pre2 ++ wordsT t, _, rfl, u1.trans hT, hF5, ?_, ?_, of05, fun a ha => ?_, rfl⟩⟩
              · omega
              · have e3 : (((pre2 ++ [w0]).length + rest.length : Nat) : Int) = ((pre2 ++ wordsT t).length : Nat) := by rw [List.length_append, List.length_append, lt1]; simp only [List.length_cons, List.length_nil]; omega
                rw [← e3]
                exact ph5
              · rw [ew2, u2]
                simp
              · rcases List.mem_cons.mp ha with e | ha
                · rw [e]; exact nn _ (List.mem_cons_self ..)
                · exact nn _ (List.mem_cons_of_mem _ (hs5 a ha))
            | none =>
              obtain ⟨g2, rfl, hg2⟩ := hm
              obtain ⟨u1, u2⟩ := upT_none eu
              rw [u1, hT] at hg2
              rw [u2, List.length_nil] at lenE
              walk_at "rd"
              refine ⟨_, Nat.succ_pos _, .inr ⟨g2, _, rfl, of05, ?_, hg2, rfl⟩⟩
              have e3 : (((pre2 ++ [w0]).length + rest.length : Nat) : Int) = ((pre.length + (wordsT T).length : Nat) : Int) := by
                have e4 : (pre2 ++ [w0]).length = pre2.length + 1 := by rw [List.length_append]; rfl
                rw [e4]
                omega
              rw [← e3]
              exact ph5
        · obtain ⟨fr, t', hsg, hdone, hput, hwords, hsome, hsd⟩ : ∃ (fr : Fr) (t' : Tr), fr.sgn = w0 ∧ (∀ H, DoneAt D H fr []) ∧ fr.put t' = t ∧ wordsT t' ++ fr.rest = rest ∧ (atW SIGW w0).isSome = true ∧ 1 ≤ sdT t := by
            have sa : (atW SIGW "&").isSome = true := by decide +kernel
            have sb : (atW SIGW "|").isSome = true := by decide +kernel
            have sc : (atW SIGW "~").isSome = true := by decide +kernel
            cases t with
            | an l r => cases et; exact ⟨.anL r, l, rfl, fun _ => rfl, rfl, rfl, sa, Nat.succ_pos _⟩
            | ou l r => cases et; exact ⟨.ouL r, l, rfl, fun _ => rfl, rfl, rfl, sb, Nat.succ_pos _⟩
            | no t => cases et; exact ⟨.no, t, rfl, fun _ => rfl, rfl, List.append_nil _, sc, Nat.succ_pos _⟩
            | al => exact absurd trivial hl
            | ne => exact absurd trivial hl
            | mi c => exact absurd trivial hl
            | wi c ps => exact absurd trivial hl
          rw [hsome]
          have hW3 := hF3.w
          have lenW : (((as.map fun p => V.ref p.1).reverse).length : Int) = (c.length : Int) := by rw [List.length_reverse, List.length_map, ← lenA]
          refine ⟨true, rfl, iteT ?_⟩
          walk_at "rd"
          refine i_meth ?_
          walk_at "rd"
          refine ⟨x, dx3, _, rfl, hx3, rfl, ?_⟩
          walk_at "rd"
          rw [lenW, decide_eq_true (show (c.length : Int) < 100 by omega)]
          refine ⟨_, rfl, ?_⟩
          dsimp only
          walk_at "rd"
          refine i_tyL hW3 ?_
          walk_at "rd"
          refine ⟨Nat.zero_le _, fun pl hpl => ?_⟩
          obtain ⟨H4, e4, s4, h4⟩ := new_heap (o := .lst []) hpl
          rw [e4]
          walk_at "rd"
          refine ⟨size_of (Nat.le_of_ble_eq_true rfl), fun a ha => ?_⟩
          obtain ⟨H5, e5, s5, h5⟩ := new_heap (o := .tup [.str w0, .ref pl]) ha
          rw [e5]
          walk_at "rd"
          have s35 : Same H3 H5 := fun b o z => s5 _ _ (s4 _ _ z)
          have hF5 := hF3.up s35
          have hpl5 := s5 _ _ h4
          have nW : pl ≠ W := fun z => by rw [z, hW3] at hpl; cases hpl
          have nP : ∀ b, b ∈ as.map (·.2) → b ≠ pl := fun b hb z => by
            obtain ⟨us, e, _⟩ := hF3.lists b (List.mem_cons_of_mem _ hb)
            rw [z, hpl] at e
            cases e
          have nPW : ∀ b, b ∈ as.map (·.2) → b ≠ W := fun b hb z => (List.nodup_cons.mp hF5.nd).1 (by rw [← z]; exact hb)
          refine i_app hF5.w ?_ ?_
          · rw [List.length_reverse, List.length_map, ← lenA]; omega
          have fx : Fix H5 (upd H5 W (.lst ((as.map fun p => V.ref p.1).reverse ++ [.ref a]))) := Fix.put hF5.w
          have ph5 : Phr CP (upd H5 W (.lst ((as.map fun p => V.ref p.1).reverse ++ [.ref a]))) x ws ((pre2.length : Int) + 1) := phr_offS (ph3.up s35) nws hF5.lists (OffS.put (List.mem_cons_self ..))
          refine ⟨_, ?_, .inl ⟨fr :: c, t', (a, pl) :: as, pre2 ++ [w0], _, rfl, by show plug c (fr.put t') = T; rw [hput]; exact hT, ⟨?_, .cons ⟨?_, [], ?_, hdone _⟩ ?_, ?_⟩, ?_, ?_, ?_, ?_, rfl⟩⟩
          · have e := congrArg List.length hwords
            rw [List.length_append] at e
            show (wordsT t').length + (fr.rest ++ pendW c).length + 1 < _
            rw [List.length_append]
            omega
          · rw [List.map_cons, List.reverse_cons]
            exact upd_same
          · rw [hsg]
            exact fx _ _ rfl h5
          · rw [upd_ne nW]
            exact hpl5
          · exact hF5.p.via fx fun b xs hb hx => by
              rw [upd_ne (nPW b hb)]
              exact hx
          · show (W :: pl :: as.map (·.2)).Nodup
            obtain ⟨n1, n2⟩ := List.nodup_cons.mp hF5.nd
            refine List.nodup_cons.mpr ⟨fun z => ?_, List.nodup_cons.mpr ⟨fun z => nP _ z rfl, n2⟩⟩
            rcases List.mem_cons.mp z with e | z
            · exact nW e.symm
            · exact n1 z
          · have e3 : (((pre2 ++ [w0]).length : Nat) : Int) = (pre2.length : Int) + 1 := by rw [List.length_append]; rfl
            rw [e3]
            exact ph5
          · show ws = (pre2 ++ [w0]) ++ (wordsT t' ++ ((fr.rest ++ pendW c) ++ suf))
            rw [ew2, et, ← hwords]
            simp
          · intro b o hb z
            rw [upd_ne (fun y : b = W => by rw [y, nn W (List.mem_cons_self ..)] at z; cases z)]
            exact s35 _ _ (of3 b o hb (of2 b o hb z))
          · intro b hb
            rcases List.mem_cons.mp hb with e | hb
            · rw [e]; exact nn _ (List.mem_cons_self ..)
            · rcases List.mem_cons.mp hb with e | hb
              · rw [e]
                show H pl = none
                cases z : H pl with
                | none => rfl
                | some o =>
                  by_cases px : pl = x
                  · rw [px, hx3] at hpl; cases hpl
                  · rw [of3 _ _ px (of2 _ _ px z)] at hpl; cases hpl
              · exact nn b (List.mem_cons_of_mem _ hb)
      · walk_at "rd"
        refine iteF ?_
        walk_at "rd"
        exact q g H2 of2 ph2 hg2
end
end Spk

set_option Elab.async false
set_option linter.all false
set_option maxRecDepth 100000
set_option maxHeartbeats 1000000
namespace Spk
open PySem PySem.Spec PyProof.Rows PySem.W L2 HT
/-! ## t[::-1] of a tuple -/
section
variable {prog : Program} {w : World} {A : Around} {E : Value → Shared → Prop} {s : Shared}
theorem adjust_rev (n : Nat) : Builtin.Slice.sliceAdjust none none (-1) (n : Int) = ((n : Int) - 1, -1) := by
  unfold Builtin.Slice.sliceAdjust
  have h1 : ((-1 : Int) < 0) := by decide
  simp only [h1, if_true]
theorem places_rev (n : Nat) : Builtin.Slice.slicePlaces ((n : Int) - 1) (-1) (-1) = n := by
  unfold Builtin.Slice.slicePlaces
  have h1 : ¬ ((-1 : Int) > 0) := by decide
  have h2 : (- (-1 : Int)) = 1 := by decide
  simp only [h1, if_false, h2, Int.ediv_one]
  split <;> omega
theorem sliceApplied_rev {sl : Addr} {vl vu vs : Value} {n : Nat} {Q : Int × Int × Nat → Shared → Prop} (hs : s.heap.IsSliceOf sl vl vu vs) (pl : IsPart vl none) (pu : IsPart vu none) (ps : IsPart vs (some (-1)))
    (h : Q ((n : Int) - 1, -1, n) s) : wpAny (model prog w) A (Builtin.Slice.sliceApplied (.ref sl) (pure (n : Int))) Q E s := by
  obtain ⟨os, hos, hcs, hds⟩ := id hs
  unfold Builtin.Slice.sliceApplied Builtin.Slice.sliceFields
  refine wpAny_bind (wpAny_bind (wpAny_field hos hds (x := vl) rfl (wpAny_bind (wpAny_field hos hds (x := vu) rfl (wpAny_bind (wpAny_field hos hds (x := vs) rfl (wpAny_pure ?_)))))))
  refine wpAny_bind (slicePart_ ps ?_)
  show wpAny _ _ (if ((-1 : Int) == 0) = true then _ else _) _ _ s
  rw [if_neg (by decide)]
  refine wpAny_bind (slicePart_ pl (wpAny_bind (slicePart_ pu (wpAny_bind (wpAny_pure ?_)))))
  show wpAny _ _ (match Builtin.Slice.sliceAdjust none none (-1) (n : Int) with | (lo, hi) => pure (lo, (-1 : Int), Builtin.Slice.slicePlaces lo hi (-1))) _ _ s
  rw [adjust_rev n]
  show wpAny _ _ (pure ((n : Int) - 1, (-1 : Int), Builtin.Slice.slicePlaces ((n : Int) - 1) (-1) (-1))) _ _ s
  rw [places_rev]
  exact wpAny_pure h
theorem fm_congr {α β : Type} {f g : α → Option β} : ∀ {l : List α}, (∀ x, x ∈ l → f x = g x) → l.filterMap f = l.filterMap g
  | [], _ => rfl
  | a :: l, h => by
    have h1 := h a (by simp)
    have h2 := fm_congr (f := f) (g := g) (l := l) fun x hx => h x (by simp [hx])
    simp only [List.filterMap_cons, h1, h2]
theorem pick_rev (xs : Array Value) : ((List.range xs.size).filterMap fun (m : Nat) => xs[(((xs.size : Nat) : Int) - 1 + (m : Int) * (-1)).toNat]?).toArray = xs.toList.reverse.toArray := by
  have e : ((List.range xs.size).filterMap fun (m : Nat) => xs[(((xs.size : Nat) : Int) - 1 + (m : Int) * (-1)).toNat]?) = ((List.range xs.size).map fun k => xs.size - 1 - k).filterMap (xs[·]?) := by
    rw [List.filterMap_map]
    refine fm_congr fun m hm => ?_
    have := List.mem_range.mp hm
    have e2 : (((xs.size : Nat) : Int) - 1 + (m : Int) * (-1)).toNat = xs.size - 1 - m := by omega
    rw [e2]
    rfl
  rw [e, krv_range, List.filterMap_reverse, krv_all]
theorem getItem_tuple_rev {t sl : Addr} {items : Array Value} {vl vu vs : Value} {Q : Value → Shared → Prop} (ht : IsTup s.heap t items) (hs : s.heap.IsSliceOf sl vl vu vs) (pl : IsPart vl none) (pu : IsPart vu none) (ps : IsPart vs (some (-1)))
    (h : Q (.ref s.heap.objs.size) { s with heap := s.heap.push { cls := .type "tuple", data := .seq items.toList.reverse.toArray } })
    (hsz : items.size ≤ sizeLine) : wpAny (model prog w) A (getItem (.ref t) (.ref sl)) Q E s := by
  have htake : sizeOk (.seq items.toList.reverse.toArray) := by
    show items.toList.reverse.toArray.size ≤ sizeLine
    rw [List.size_toArray, List.length_reverse, Array.length_toList]
    exact hsz
  obtain ⟨os, hos, hcs, hds⟩ := id hs
  have hTs : s.TypeIs (.ref sl) "slice" := ⟨os, hos, hcs⟩
  unfold getItem
  try with_reducible refine wpAny_holding ?_
  first | refine wpAny_bind (wpAny_pure ?_) | skip
  refine wpAny_bind (wpAny_sequenceKey ht.typeIs (by decide) ?_)
  refine wpAny_bind (wpAny_callSpecial?_slot (name := Str.ofString "__getitem__") ht.typeIs PyProof.Rows.slot_tuple_getitem
    (wpAny_call_entry PyProof.Rows.slot_tuple_getitem ht.typeIs entry_tuple_getitem ?_ (args_tuple_getitem _ _)))
  show wpAny _ _ (Builtin.Tuple.tupleItemsOf (.ref t) >>= _) _ _ s
  refine wpAny_bind (tupleItemsOf_ ht ?_)
  refine wpAny_bind (wpAny_typeOf hTs ?_)
  rw [if_pos (by decide)]
  refine wpAny_bind (sliceApplied_rev hs pl pu ps ?_)
  have hno : ¬ ((((items.size : Nat) : Int) - 1 == 0 && (-1 : Int) == 1 && items.size == items.size) = true) := by
    intro q
    rw [Bool.and_eq_true, Bool.and_eq_true] at q
    exact absurd q.1.2 (by decide)
  show wpAny _ _ (if (((items.size : Nat) : Int) - 1 == 0 && (-1 : Int) == 1 && items.size == items.size) = true then _ else _) _ _ s
  rw [if_neg hno, pick_rev]
  first
    | exact wpAny_bind (m := Builtin.Tuple.tupleExact _) (wpAny_newObj_type (wpAny_pure ⟨_, rfl, wpAny_pure h⟩) htake)
    | exact wpAny_bind (m := Builtin.Tuple.tupleExact _) (wpAny_newObj_type (wpAny_bind (wpAny_pure (wpAny_pure ⟨_, rfl, wpAny_pure h⟩))) htake)
    | exact wpAny_bind (wpAny_bind (m := Builtin.Tuple.tupleExact _) (wpAny_newObj_type (wpAny_pure (wpAny_pure ⟨_, rfl, wpAny_pure h⟩)) htake))
    | exact wpAny_bind (wpAny_bind (m := Builtin.Tuple.tupleExact _) (wpAny_newObj_type (wpAny_pure ⟨_, rfl, wpAny_pure h⟩) htake))
end
section
variable {X : Cx}
def tRevT (K : PySem.W.Frag) (te : TE) : TE := fun σ H Q => te σ H fun x H1 => ∃ a xs, x = .ref a ∧ SqT K H1 a xs ∧ ∀ p, H1 p = none → Q (.ref p) (upd H1 p (.tup xs.reverse))
theorem pe_revT {e : Expr} {te : TE} {k : Nat} {p1 p2 p3 pos : Pos} (he : PE X e te) : PE X (.Subscript e (.Slice none none (some (.UnaryOp .USub (.Constant (.int 1) k p1) p2)) p3) pos) (tRevT X.K te) := by
  refine ⟨fun pins s σ H Q I h => ?_⟩
  refine Subscript_ (thn (he.run pins s σ H _ I h) fun v s1 ⟨x, H1, I1, r1, q1⟩ => ?_)
  obtain ⟨a, xs, ex, hx, q⟩ := q1
  subst ex
  cases r1
  have hst : PO X (some (.UnaryOp .USub (.Constant (.int 1) k p1) p2)) (tPart (tUn (rU fun i => .int (-i)) (tC (.int 1)))) := po_some (pe_un un_neg pe_int)
  refine wpAny_Slice (thn (po_none.run pins s1 σ H1 (fun o H2 => o = none ∧ H2 = H1) I1 ⟨rfl, rfl⟩) fun vl s2 ⟨l, H2, I2, pl, el, e2⟩ => ?_)
  subst el e2
  refine thn (po_none.run pins s2 σ H2 (fun o H3 => o = none ∧ H3 = H2) I2 ⟨rfl, rfl⟩) fun vu s3 ⟨u, H3, I3, pu, eu, e3⟩ => ?_
  subst eu e3
  refine thn (hst.run pins s3 σ H3 (fun o H4 => o = some (-1) ∧ H4 = H3) I3 ⟨1, rfl, -1, rfl, rfl, rfl⟩) fun vs s4 ⟨o, H4, I4, ps, eo, e4⟩ => ?_
  subst eo e4
  have I5 : Inv X pins σ H4 { s4 with heap := s4.heap.push { cls := .type "slice", data := .fields #[vl, vu, vs] } } := I4.kept (t' := s4.toks) fun b ob q => Heap.get?_push_of_some _ q
  obtain ⟨its, r, ht, hz⟩ := I5.tuple hx
  have hlen := r.length
  show wpAny (model X.prog X.w) X.A (subscriptTail e (.Slice none none (some (.UnaryOp .USub (.Constant (.int 1) k p1) p2)) p3) (.ref a) (.ref s4.heap.objs.size)) (EP X pins σ Q) X.xe { s4 with heap := s4.heap.push { cls := .type "slice", data := .fields #[vl, vu, vs] } }
  refine tail_any (ops := [.ref a, .ref s4.heap.objs.size]) ht.typeIs (PyProof.Rows.slot_tuple_getitem.lookup) ?_ (by with_unfolding_all rfl)
  refine getItem_tuple_rev ht (Heap.IsSliceOf.new _ vl vu vs) pl pu ps ?_ (by rw [List.size_toArray]; omega)
  refine ⟨.ref _, _, I5.laid (t' := s4.toks) (o := .tup xs.reverse) (fun b ob q => Heap.get?_push_of_some _ q) (Nat.le_refl _) ?_, rfl, q _ (I5.hok.fresh (Nat.le_refl _))⟩
  exact ⟨by rw [List.length_reverse]; exact hz, _, r.reverse, IsTup.new _ _⟩
end
end Spk

set_option Elab.async false
set_option linter.all false
set_option maxRecDepth 100000
set_option maxHeartbeats 1000000
namespace Spk
open PySem PySem.Spec PyProof.Rows PySem.W L2 HT
/-! ## t[:0:-1] of a tuple that is not empty -/
section
variable {prog : Program} {w : World} {A : Around} {E : Value → Shared → Prop} {s : Shared}
theorem adjust_rev0 (n : Nat) (hn : 0 < n) : Builtin.Slice.sliceAdjust none (some 0) (-1) (n : Int) = ((n : Int) - 1, 0) := by
  unfold Builtin.Slice.sliceAdjust
  have h1 : ((-1 : Int) < 0) := by decide
  have h2 : ¬ ((0 : Int) < 0) := by decide
  have h3 : ¬ ((n : Int) ≤ 0) := by omega
  simp only [h1, if_true, h2, if_false]
  congr 1
  omega
theorem places_rev0 (n : Nat) (hn : 0 < n) : Builtin.Slice.slicePlaces ((n : Int) - 1) 0 (-1) = n - 1 := by
  unfold Builtin.Slice.slicePlaces
  have h1 : ¬ ((-1 : Int) > 0) := by decide
  have h2 : (- (-1 : Int)) = 1 := by decide
  simp only [h1, if_false, h2, Int.ediv_one]
  split <;> omega
theorem sliceApplied_rev0 {sl : Addr} {vl vu vs : Value} {n : Nat} {Q : Int × Int × Nat → Shared → Prop} (hn : 0 < n) (hs : s.heap.IsSliceOf sl vl vu vs) (pl : IsPart vl none) (pu : IsPart vu (some 0)) (ps : IsPart vs (some (-1)))
    (h : Q ((n : Int) - 1, -1, n - 1) s) : wpAny (model prog w) A (Builtin.Slice.sliceApplied (.ref sl) (pure (n : Int))) Q E s := by
  obtain ⟨os, hos, hcs, hds⟩ := id hs
  unfold Builtin.Slice.sliceApplied Builtin.Slice.sliceFields
  refine wpAny_bind (wpAny_bind (wpAny_field hos hds (x := vl) rfl (wpAny_bind (wpAny_field hos hds (x := vu) rfl (wpAny_bind (wpAny_field hos hds (x := vs) rfl (wpAny_pure ?_)))))))
  refine wpAny_bind (slicePart_ ps ?_)
  show wpAny _ _ (if ((-1 : Int) == 0) = true then _ else _) _ _ s
  rw [if_neg (by decide)]
  refine wpAny_bind (slicePart_ pl (wpAny_bind (slicePart_ pu (wpAny_bind (wpAny_pure ?_)))))
  show wpAny _ _ (match Builtin.Slice.sliceAdjust none (some 0) (-1) (n : Int) with | (lo, hi) => pure (lo, (-1 : Int), Builtin.Slice.slicePlaces lo hi (-1))) _ _ s
  rw [adjust_rev0 n hn]
  show wpAny _ _ (pure ((n : Int) - 1, (-1 : Int), Builtin.Slice.slicePlaces ((n : Int) - 1) 0 (-1))) _ _ s
  rw [places_rev0 n hn]
  exact wpAny_pure h
theorem pick_rev0 (xs : Array Value) : ((List.range (xs.size - 1)).filterMap fun (m : Nat) => xs[(((xs.size : Nat) : Int) - 1 + (m : Int) * (-1)).toNat]?).toArray = (xs.toList.drop 1).reverse.toArray := by
  have e : ∀ n : Nat, n ≤ xs.size - 1 → ((List.range n).filterMap fun (m : Nat) => xs[(((xs.size : Nat) : Int) - 1 + (m : Int) * (-1)).toNat]?) = xs.toList.reverse.take n := by
    intro n
    induction n with
    | zero => exact fun _ => rfl
    | succ n ih =>
      intro hn
      rw [List.range_succ, List.filterMap_append, ih (by omega)]
      have hl : n < xs.toList.reverse.length := by rw [List.length_reverse, Array.length_toList]; omega
      rw [List.take_succ_eq_append_getElem hl]
      congr 1
      have e2 : (((xs.size : Nat) : Int) - 1 + (n : Int) * (-1)).toNat = xs.size - 1 - n := by omega
      have hs : xs.size - 1 - n < xs.size := by omega
      simp only [List.filterMap_cons, e2, List.filterMap_nil]
      rw [Array.getElem?_eq_getElem hs]
      simp only [List.getElem_reverse, Array.length_toList, Array.getElem_toList]
  have h := e (xs.size - 1) (Nat.le_refl _)
  rw [h, List.take_reverse, Array.length_toList]
  by_cases z : xs.size = 0
  · have : xs.toList = [] := List.length_eq_zero_iff.mp (by rw [Array.length_toList]; exact z)
    rw [this, List.drop_nil, List.drop_nil]
  · rw [show xs.size - (xs.size - 1) = 1 from by omega]
theorem getItem_tuple_rev0 {t sl : Addr} {items : Array Value} {vl vu vs : Value} {Q : Value → Shared → Prop} (hn : 0 < items.size) (ht : IsTup s.heap t items) (hs : s.heap.IsSliceOf sl vl vu vs) (pl : IsPart vl none) (pu : IsPart vu (some 0)) (ps : IsPart vs (some (-1)))
    (h : Q (.ref s.heap.objs.size) { s with heap := s.heap.push { cls := .type "tuple", data := .seq (items.toList.drop 1).reverse.toArray } })
    (hsz : items.size ≤ sizeLine) : wpAny (model prog w) A (getItem (.ref t) (.ref sl)) Q E s := by
  have htake : sizeOk (.seq (items.toList.drop 1).reverse.toArray) := by
    show (items.toList.drop 1).reverse.toArray.size ≤ sizeLine
    rw [List.size_toArray, List.length_reverse, List.length_drop, Array.length_toList]
    omega
  obtain ⟨os, hos, hcs, hds⟩ := id hs
  have hTs : s.TypeIs (.ref sl) "slice" := ⟨os, hos, hcs⟩
  unfold getItem
  try with_reducible refine wpAny_holding ?_
  first | refine wpAny_bind (wpAny_pure ?_) | skip
  refine wpAny_bind (wpAny_sequenceKey ht.typeIs (by decide) ?_)
  refine wpAny_bind (wpAny_callSpecial?_slot (name := Str.ofString "__getitem__") ht.typeIs PyProof.Rows.slot_tuple_getitem
    (wpAny_call_entry PyProof.Rows.slot_tuple_getitem ht.typeIs entry_tuple_getitem ?_ (args_tuple_getitem _ _)))
  show wpAny _ _ (Builtin.Tuple.tupleItemsOf (.ref t) >>= _) _ _ s
  refine wpAny_bind (tupleItemsOf_ ht ?_)
  refine wpAny_bind (wpAny_typeOf hTs ?_)
  rw [if_pos (by decide)]
  refine wpAny_bind (sliceApplied_rev0 hn hs pl pu ps ?_)
  have hno : ¬ ((((items.size : Nat) : Int) - 1 == 0 && (-1 : Int) == 1 && items.size - 1 == items.size) = true) := by
    intro q
    rw [Bool.and_eq_true, Bool.and_eq_true] at q
    exact absurd q.1.2 (by decide)
  show wpAny _ _ (if (((items.size : Nat) : Int) - 1 == 0 && (-1 : Int) == 1 && items.size - 1 == items.size) = true then _ else _) _ _ s
  rw [if_neg hno, pick_rev0]
  first
    | exact wpAny_bind (m := Builtin.Tuple.tupleExact _) (wpAny_newObj_type (wpAny_pure ⟨_, rfl, wpAny_pure h⟩) htake)
    | exact wpAny_bind (m := Builtin.Tuple.tupleExact _) (wpAny_newObj_type (wpAny_bind (wpAny_pure (wpAny_pure ⟨_, rfl, wpAny_pure h⟩))) htake)
    | exact wpAny_bind (wpAny_bind (m := Builtin.Tuple.tupleExact _) (wpAny_newObj_type (wpAny_pure (wpAny_pure ⟨_, rfl, wpAny_pure h⟩)) htake))
    | exact wpAny_bind (wpAny_bind (m := Builtin.Tuple.tupleExact _) (wpAny_newObj_type (wpAny_pure ⟨_, rfl, wpAny_pure h⟩) htake))
end
section
variable {X : Cx}
def tRevT0 (K : PySem.W.Frag) (te : TE) : TE := fun σ H Q => te σ H fun x H1 => ∃ a v xs, x = .ref a ∧ SqT K H1 a (v :: xs) ∧ ∀ p, H1 p = none → Q (.ref p) (upd H1 p (.tup xs.reverse))
theorem pe_revT0 {e : Expr} {te : TE} {k k0 : Nat} {p0 p1 p2 p3 pos : Pos} (he : PE X e te) : PE X (.Subscript e (.Slice none (some (.Constant (.int 0) k0 p0)) (some (.UnaryOp .USub (.Constant (.int 1) k p1) p2)) p3) pos) (tRevT0 X.K te) := by
  refine ⟨fun pins s σ H Q I h => ?_⟩
  refine Subscript_ (thn (he.run pins s σ H _ I h) fun v s1 ⟨x, H1, I1, r1, q1⟩ => ?_)
  obtain ⟨a, v0, xs, ex, hx, q⟩ := q1
  subst ex
  cases r1
  have hst : PO X (some (.UnaryOp .USub (.Constant (.int 1) k p1) p2)) (tPart (tUn (rU fun i => .int (-i)) (tC (.int 1)))) := po_some (pe_un un_neg pe_int)
  refine wpAny_Slice (thn (po_none.run pins s1 σ H1 (fun o H2 => o = none ∧ H2 = H1) I1 ⟨rfl, rfl⟩) fun vl s2 ⟨l, H2, I2, pl, el, e2⟩ => ?_)
  subst el e2
  have hs0 : PO X (some (.Constant (.int 0) k0 p0)) (tPart (tC (.int 0))) := po_some pe_int
  refine thn (hs0.run pins s2 σ H2 (fun o H3 => o = some 0 ∧ H3 = H2) I2 ⟨0, rfl, rfl, rfl⟩) fun vu s3 ⟨u, H3, I3, pu, eu, e3⟩ => ?_
  subst eu e3
  refine thn (hst.run pins s3 σ H3 (fun o H4 => o = some (-1) ∧ H4 = H3) I3 ⟨1, rfl, -1, rfl, rfl, rfl⟩) fun vs s4 ⟨o, H4, I4, ps, eo, e4⟩ => ?_
  subst eo e4
  have I5 : Inv X pins σ H4 { s4 with heap := s4.heap.push { cls := .type "slice", data := .fields #[vl, vu, vs] } } := I4.kept (t' := s4.toks) fun b ob q => Heap.get?_push_of_some _ q
  obtain ⟨its, r, ht, hz⟩ := I5.tuple hx
  have hlen := r.length
  show wpAny (model X.prog X.w) X.A (subscriptTail e (.Slice none (some (.Constant (.int 0) k0 p0)) (some (.UnaryOp .USub (.Constant (.int 1) k p1) p2)) p3) (.ref a) (.ref s4.heap.objs.size)) (EP X pins σ Q) X.xe { s4 with heap := s4.heap.push { cls := .type "slice", data := .fields #[vl, vu, vs] } }
  refine tail_any (ops := [.ref a, .ref s4.heap.objs.size]) ht.typeIs (PyProof.Rows.slot_tuple_getitem.lookup) ?_ (by with_unfolding_all rfl)
  have hlen1 : its.length = xs.length + 1 := by rw [← hlen]; rfl
  refine getItem_tuple_rev0 (by rw [List.size_toArray]; omega) ht (Heap.IsSliceOf.new _ vl vu vs) pl pu ps ?_ (by rw [List.size_toArray, hlen1]; exact hz)
  refine ⟨.ref _, _, I5.laid (t' := s4.toks) (o := .tup xs.reverse) (fun b ob q => Heap.get?_push_of_some _ q) (Nat.le_refl _) ?_, rfl, q _ (I5.hok.fresh (Nat.le_refl _))⟩
  cases r with
  | cons r1 r2 => exact ⟨by rw [List.length_reverse]; exact Nat.le_trans (Nat.le_succ _) hz, _, (show Vals xs _ from r2).reverse, IsTup.new _ _⟩
end
end Spk

set_option Elab.async false
set_option linter.all false
set_option maxRecDepth 100000
set_option maxHeartbeats 1000000
namespace Spk
open PySem L2 TL
local macro_rules | `(tactic| walk_at "rd") => `(tactic| repeat (first
  | with_reducible refine i_seq ?_ | with_reducible refine i_asg ?_ | with_reducible refine i_ret ?_ | with_reducible refine i_ifS ?_ | with_reducible refine i_if ?_
  | with_reducible refine i_for ?_ | with_reducible refine i_iL ?_ | with_reducible refine i_iT ?_ | with_reducible refine i_ckw ?_ | with_reducible refine i_cm ?_ | with_reducible refine And.intro (rfl : V.ref _ = V.ref _) ?_ | with_reducible refine i_rng1 ?_ | with_reducible refine i_bm ?_ | with_reducible refine i_bm0 ?_
  | with_reducible refine i_drop ?_ | with_reducible refine i_next ?_
  | with_reducible refine i_var rfl ?_ | with_reducible refine i_c ?_ | with_reducible refine i_op ?_ | with_reducible refine i_un ?_ | with_reducible refine i_name ?_
  | with_reducible refine i_rI0 ?_ | with_reducible refine i_rU ?_ | with_reducible refine i_rEq rfl ?_ | with_reducible refine i_rNe rfl ?_
  | with_reducible refine i_test ?_ | with_reducible refine i_tB ?_ | with_reducible refine i_and ?_ | with_reducible refine i_or ?_ | with_reducible refine i_not ?_
  | with_reducible refine i_andV ?_ | with_reducible refine i_orV ?_ | with_reducible refine i_notV ?_
  | with_reducible refine i_cons ?_ | with_reducible refine i_nil ?_ | with_reducible refine i_cb ?_ | with_reducible refine i_call ?_ | with_reducible refine i_bl ?_
  | with_reducible refine i_tup ?_ | with_reducible refine i_lst ?_ | with_reducible refine i_par ?_ | with_reducible refine i_gcons ?_ | with_reducible refine i_gnil ?_
  | with_reducible refine And.intro (rfl : V.non = V.non) ?_ | with_reducible refine i_ixT (by assumption) rfl ?_ | with_reducible refine i_ixL (by assumption) rfl ?_ | with_reducible refine i_gtup (by assumption) rfl ?_
  | with_reducible refine i_gsub ?_
  | with_reducible refine Or.inl (Exists.intro _ (And.intro (rfl : [V.int _] = [V.int _]) ?_)) | with_reducible refine Exists.intro _ (And.intro (rfl : [V.int _] = [V.int _]) ?_)
  | with_reducible refine Or.inr (Exists.intro _ (And.intro (rfl : [V.bl _] = [V.bl _]) ?_))
  | with_reducible refine Exists.intro _ (Exists.intro _ (And.intro (rfl : [V.int _, V.int _] = [V.int _, V.int _]) ?_))
  | with_reducible refine Exists.intro _ (Exists.intro _ (And.intro (rfl : [V.ref _] = [V.ref _]) (And.intro (Or.inl (SqL.of (by assumption))) ?_)))
  | with_reducible refine i_rI (show (0 : Int) < _ by assumption) ?_ | with_reducible refine i_rI (show (0 : Int) < _ by decide) ?_
  | with_reducible refine i_rI (pow_ok (Nat.le_of_ble_eq_true rfl) (Nat.le_of_ble_eq_true rfl)) ?_
  | with_reducible refine i_rI (cmulL rfl) ?_))
theorem word_len : ∀ {t : Tr}, GoodT t → ∀ x, x ∈ wordsT t → x.length ≤ 175
  | .wi c ps, h, x, hx => by
    simp only [wordsT, List.mem_cons, List.not_mem_nil, or_false] at hx
    rcases hx with rfl | rfl | rfl
    · decide +kernel
    · exact Nat.le_trans h.1.le (by decide)
    · have := partsT_len h.2.2.1
      have := h.2.2.2
      omega
  | .mi c, h, x, hx => by
    simp only [wordsT, List.mem_cons, List.not_mem_nil, or_false] at hx
    rcases hx with rfl | rfl
    · decide +kernel
    · exact Nat.le_trans (show IsName x from h).le (by decide)
  | .al, h, x, hx => by
    simp only [wordsT, List.mem_cons, List.not_mem_nil, or_false] at hx
    subst hx
    decide +kernel
  | .ne, h, x, hx => by
    simp only [wordsT, List.mem_cons, List.not_mem_nil, or_false] at hx
    subst hx
    decide +kernel
  | .an l r, h, x, hx => by
    simp only [wordsT, List.mem_cons, List.mem_append] at hx
    rcases hx with rfl | hx | hx
    · decide +kernel
    · exact word_len h.1 x hx
    · exact word_len h.2 x hx
  | .ou l r, h, x, hx => by
    simp only [wordsT, List.mem_cons, List.mem_append] at hx
    rcases hx with rfl | hx | hx
    · decide +kernel
    · exact word_len h.1 x hx
    · exact word_len h.2 x hx
  | .no t, h, x, hx => by
    simp only [wordsT, List.mem_cons] at hx
    rcases hx with rfl | hx
    · decide +kernel
    · exact word_len (t := t) h x hx
theorem sum_le (B : Nat) : ∀ l : List Str, (∀ x, x ∈ l → x.length ≤ B) → ((l.map (·.length)).sum) ≤ B * l.length
  | [], _ => Nat.zero_le _
  | x :: l, h => by
    have a := h x (List.mem_cons_self ..)
    have b := sum_le B l fun y hy => h y (List.mem_cons_of_mem _ hy)
    simp only [List.map_cons, List.sum_cons, List.length_cons] at b ⊢
    rw [Nat.mul_succ]
    omega
theorem join_len (l : List Str) (B : Nat) (h : ∀ x, x ∈ l → x.length ≤ B) : (Txt.join " " l).length ≤ (B + 1) * l.length := by
  rw [join_eq, len_tl, tl_join]
  have := joinL_len (tl " ") B (l.map tl) (fun p hp => by
    obtain ⟨z, hz, rfl⟩ := List.mem_map.mp hp
    rw [← len_tl]
    exact h z hz)
  rw [List.length_map] at this
  exact this
/-- the line of a tree's words -/
theorem line_of {t : Tr} (h : GoodT t) (hz : (wordsT t).length ≤ 400) : Line (Txt.join " " (wordsT t)) (wordsT t) := by
  refine ⟨rfl, fun z => ?_, words_no h, ?_, by omega⟩
  · have := words_pos t
    rw [z] at this
    exact Nat.lt_irrefl _ this
  · have := join_len (wordsT t) 175 (word_len h)
    omega
def SGD : List (Key × V) := [(Sum.inr "and", .str "&"), (Sum.inr "or", .str "|"), (Sum.inr "not", .str "~")]
/-- the words of trees that wait, the next one first -/
def allW (ts : List Tr) : List Str := ts.flatMap wordsT
theorem allW_len : ∀ ts : List Tr, ts.length ≤ (allW ts).length
  | [] => Nat.le_refl _
  | t :: ts => by
    have a := words_pos t
    have b := allW_len ts
    show ts.length + 1 ≤ (wordsT t ++ allW ts).length
    rw [List.length_append]
    omega
theorem i_ext {H : Hp} {l b : Addr} {xs zs : List V} {Q : VK} (hl : H l = some (.lst xs)) (hb : H b = some (.lst zs)) (hz : xs.length + zs.length ≤ 100000) (q : Q .non (upd H l (.lst (xs ++ zs)))) : rExtend (.ref l) [.ref b] H Q := ⟨l, b, xs, zs, rfl, rfl, hl, hb, size_of hz, q⟩
abbrev TrsP (H : Hp) : List Tr → List V → Prop := Paired fun t v => TreeAt H t v
theorem TrsP.fix {H H' : Hp} {ts : List Tr} {us : List V} (h : TrsP H ts us) (e : Fix H H') : TrsP H' ts us := Paired.mapP h fun _ _ z => z.fix e
theorem tree_ref {H : Hp} {t : Tr} {v : V} (h : TreeAt H t v) : ∃ a, v = .ref a := by
  cases t with
  | wi c ps => obtain ⟨a, p, rfl, _⟩ := h; exact ⟨a, rfl⟩
  | mi c => obtain ⟨a, rfl, _⟩ := h; exact ⟨a, rfl⟩
  | al => obtain ⟨a, rfl, _⟩ := h; exact ⟨a, rfl⟩
  | ne => obtain ⟨a, rfl, _⟩ := h; exact ⟨a, rfl⟩
  | an l r => obtain ⟨a, x, y, rfl, _⟩ := h; exact ⟨a, rfl⟩
  | ou l r => obtain ⟨a, x, y, rfl, _⟩ := h; exact ⟨a, rfl⟩
  | no t => obtain ⟨a, x, rfl, _⟩ := h; exact ⟨a, rfl⟩
/-- the loop's state -/
structure WInv (H : Hp) (v0 : V) (T : Tr) (S F0 W : Addr) (m : Nat) (σ : L2.St) (H4 : Hp) : Prop where
  ex : ∃ (fs : List Str) (ts : List Tr) (us : List V) (x4 x5 : Option V), σ = [some v0, some (.ref S), some (.ref F0), some (.ref W), x4, x5] ∧ m = (allW ts).length ∧ H4 S = some (.dK SGD) ∧ H4 F0 = some (.lst (fs.map V.str)) ∧ H4 W = some (.lst us.reverse) ∧ TrsP H4 ts us ∧ (∀ t, t ∈ ts → GoodT t) ∧ fs ++ allW ts = wordsT T ∧ Same H H4 ∧ us.length ≤ 1000
theorem at_first (v : V) (vs : List V) : atI (v :: vs) 0 = some v := atI_nat (j := 0) rfl
section
variable {P : Program} {w : World} {K : PySem.W.Frag} {mg : Str → Option Value} {base : Heap} {C CP fI fE fPI hM hN hC hE hR hA hQ hF D fJ : Addr} {md : Value} {pw pm pa pn gw gm ga gn dA dO dV dC : Addr}
abbrev s_words_of_tree : Stmt := top 7
theorem sc_words_of_tree : FnScope ["tree", "signs", "found", "waiting", "branch", "word"] ["tree"] (defScope s_words_of_tree) := ⟨rfl, rfl, rfl, by decide +kernel, rfl, by decide +kernel, by decide +kernel⟩
def sp_words : Sp := fun vs H Q _ => ∃ v t, vs = [v] ∧ TreeAt H t v ∧ GoodT t ∧ (wordsT t).length ≤ 400 ∧ ∀ l H', Same H H' → H' l = some (.lst ((wordsT t).map V.str)) → Q (.ref l) H'
theorem ok_words {f fT : Addr} {fd fdT : FuncData} (F : Fun K "words_of_tree" "words_of_tree" s_words_of_tree f fd) (F_text_of_parts : Fun K "text_of_parts" "text_of_parts" s_text_of_parts fT fdT) (B_text_of_parts : Binds K fdT ["parts"] []) (g_text_of_parts : mg "text_of_parts" = some (.ref fT)) (G_text_of_parts : FnOk P w K mg base CX0 3 fT fdT ["parts"] sp_tparts)
    (z_list : mg "list" = none) : FnOk P w K mg base CX0 4 f fd ["tree"] sp_words := by
  refine F.ok sc_words_of_tree (fun vs H Q E h => ?_) (fun cdv A outer s H vs Q E hr h => ?_)
  · obtain ⟨v, t, rfl, _⟩ := h
    rfl
  · obtain ⟨v0, T, rfl, hT, hG, hz, q⟩ := h
    refine ⟨_, (pss_cons (ps_set (i := 1) sc_words_of_tree.nd rfl (Or.inl rfl) (pe_disp (pps_cons pe_str pe_str (pps_cons pe_str pe_str (pps_cons pe_str pe_str pps_nil))) (by rfl) (by rfl) (fun z => by cases z) (by decide)))
 (pss_cons (ps_set (i := 2) sc_words_of_tree.nd rfl (Or.inl rfl) (pe_lst pa_nil))
 (pss_cons (ps_set (i := 3) sc_words_of_tree.nd rfl (Or.inl rfl) (pe_lst (pa_cons (pv 0) pa_nil)))
 (pss_cons (ps_while PassesOwn.never (pt_truth (pv 3) (by intro _; rfl))
 (pss_cons (ps_set (i := 4) sc_words_of_tree.nd rfl (Or.inl rfl) (pe_bm0 PySem.F.plainAttrs_list PySem.F.slot_list_pop PySem.F.type_list_pop mt_pop (pv 3)))
 (pss_cons (ps_set (i := 5) sc_words_of_tree.nd rfl (Or.inl rfl) (pe_ix ix_tup (pv 4) pe_int (fun _ _ => rfl)))
 (pss_one (ps_if (pt_cmp (pc_din (Nat.lt_of_le_of_lt (Nat.add_le_add_left (by decide : 1 ≤ 64) _) hr.units) (pv 5) (pv 1)))
 (pss_cons (ps_expr (pe_bm PySem.F.plainAttrs_list PySem.F.slot_list_append PySem.F.type_list_append mt_append (pv 2) (pa_cons (pe_dget (Nat.lt_of_le_of_lt (Nat.add_le_add_left (by decide : 1 ≤ 64) _) hr.units) (pv 1) (pv 5) (fun _ _ => rfl)) pa_nil)))
 (pss_one (ps_expr (pe_bm PySem.F.plainAttrs_list PySem.F.slot_list_extend PySem.F.type_list_extend mt_extend (pv 3) (pa_cons (pe_callTy call_list_of (by rfl) z_list (by decide +kernel) (pa_cons (pe_revT0 (pv 4)) pa_nil)) pa_nil)))))
 (pss_one (ps_if (pt_cmpR op_eq (pv 5) pe_str (nomark _))
 (pss_one (ps_expr (pe_bm PySem.F.plainAttrs_list PySem.F.slot_list_extend PySem.F.type_list_extend mt_extend (pv 2) (pa_cons (pe_lst (pa_cons pe_str (pa_cons (pe_ix ix_tup (pv 4) pe_int (fun _ _ => rfl)) (pa_cons (pe_call G_text_of_parts (hr.mono (by decide)) rfl g_text_of_parts F_text_of_parts.kp B_text_of_parts .nil pass0 (pa_cons (pe_ix ix_tup (pv 4) pe_int (fun _ _ => rfl)) pa_nil)) pa_nil)))) pa_nil))))
 (pss_one (ps_expr (pe_bm PySem.F.plainAttrs_list PySem.F.slot_list_extend PySem.F.type_list_extend mt_extend (pv 2) (pa_cons (pe_callTy call_list_of (by rfl) z_list (by decide +kernel) (pa_cons (pv 4) pa_nil)) pa_nil)))))))))))
 (pss_one (ps_ret (pv 2))))))), ?_⟩
    walk_at "rd"
    unfold tDisp
    intro S hS
    obtain ⟨H0, e0, s0, h0⟩ := new_heap (o := .dK []) hS
    rw [e0]
    unfold tPairs
    walk_at "rd"
    unfold tPairs
    walk_at "rd"
    unfold tPairs
    walk_at "rd"
    unfold tPairs
    refine ⟨h0, SGD, rfl, (by show 3 ≤ 15; decide), ?_⟩
    rw [show mergeK [] SGD = SGD from rfl]
    have sS : Same H (upd H0 S (.dK SGD)) := Same.mut s0 hS
    have h1 : upd H0 S (.dK SGD) S = some (.dK SGD) := upd_same
    generalize upd H0 S (.dK SGD) = H1 at sS h1
    walk_at "rd"
    refine ⟨Nat.zero_le _, fun F0 hF0 => ?_⟩
    obtain ⟨H2, e2, s2, h2⟩ := new_heap (o := .lst []) hF0
    rw [e2]
    walk_at "rd"
    refine ⟨size_of (Nat.le_of_ble_eq_true rfl), fun W hW => ?_⟩
    obtain ⟨H3, e3, s3, h3⟩ := new_heap (o := .lst [v0]) hW
    rw [e3]
    have s23 : Same H1 H3 := fun b o z => s3 _ _ (s2 _ _ z)
    have s03 : Same H H3 := fun b o z => s23 _ _ (sS _ _ z)
    have nF : H F0 = none := none_of sS hF0
    have nW : H W = none := none_of (fun b o z => s2 _ _ (sS _ _ z)) hW
    have nFW : F0 ≠ W := fun z => by rw [z] at h2; rw [h2] at hW; cases hW
    walk_at "rd"
    refine ⟨WInv H v0 T S F0 W, ⟨_, ⟨[], [T], [v0], none, none, rfl, rfl, s23 _ _ h1, s3 _ _ h2, h3, .cons (hT.up s03) .nil, fun t ht => ?_, ?_, s03, by show 1 ≤ 1000; decide⟩⟩, ?_⟩
    · rw [List.mem_singleton.mp ht]; exact hG
    · simp [allW]
    rintro m σ H4 ⟨fs, ts, us, x4, x5, rfl, rfl, hs4, hf4, hw4, pt, gt, ew, s4, hu⟩
    walk_at "rd"
    refine ⟨_, .inl ⟨_, SqL.of hw4, rfl⟩, ?_⟩
    cases pt with
    | nil =>
      refine iteF ?_
      walk_at "rd"
      have : fs = wordsT T := by rw [← ew]; simp [allW]
      rw [this] at hf4
      exact q F0 H4 s4 hf4
    | @cons t u ts us r pt =>
      rw [show (!((u :: us).reverse).isEmpty) = true from by simp]
      refine iteT ⟨_, fun σ' H' h => h, ?_⟩
      rw [List.reverse_cons] at hw4
      have ew' : fs ++ (wordsT t ++ allW ts) = wordsT T := by rw [← ew]; simp [allW]
      have lenE := congrArg List.length ew'
      simp only [List.length_append] at lenE
      have wp := words_pos t
      have gt0 := gt t (List.mem_cons_self ..)
      walk_at "rd"
      refine i_tyL hw4 ?_
      refine i_pop hw4 ?_
      have fx5 : Fix H4 (upd H4 W (.lst us.reverse)) := Fix.put hw4
      have s5 : Same H (upd H4 W (.lst us.reverse)) := Same.mut s4 nW
      have hw5 : upd H4 W (.lst us.reverse) W = some (.lst us.reverse) := upd_same
      have hf5 : upd H4 W (.lst us.reverse) F0 = some (.lst (fs.map V.str)) := by rw [upd_ne nFW]; exact hf4
      have hs5 : upd H4 W (.lst us.reverse) S = some (.dK SGD) := by rw [upd_ne (fun z => by rw [z] at hs4; rw [hs4] at hw4; cases hw4)]; exact hs4
      have r5 := TreeAt.fix fx5 r
      have pt5 := TrsP.fix pt fx5
      generalize upd H4 W (.lst us.reverse) = H5 at *
      by_cases hl : leafT t
      · obtain ⟨a, tag, xs, rfl, ha, hv⟩ : ∃ (a : Addr) (tag : Str) (xs : List V), u = .ref a ∧ H5 a = some (.tup (.str tag :: xs)) ∧ valV SGD (Sum.inr tag) = none := by
          cases t with
          | an l r => exact hl.elim
          | ou l r => exact hl.elim
          | no t => exact hl.elim
          | al => obtain ⟨a, rfl, h⟩ := r5; exact ⟨a, _, _, rfl, h, by decide +kernel⟩
          | ne => obtain ⟨a, rfl, h⟩ := r5; exact ⟨a, _, _, rfl, h, by decide +kernel⟩
          | mi c => obtain ⟨a, rfl, h⟩ := r5; exact ⟨a, _, _, rfl, h, by decide +kernel⟩
          | wi c ps => obtain ⟨a, p, rfl, h, _⟩ := r5; exact ⟨a, _, _, rfl, h, by decide +kernel⟩
        have dg : DGet H5 S (.str tag) none := by
          have z := DGet.k (k := Sum.inr tag) hs5
          rw [hv] at z
          exact z
        have step : ∀ (H6 : Hp) (b : Addr) (x5 : Option V), Same H5 H6 → H6 b = some (.lst ((wordsT t).map V.str)) → rExtend (.ref F0) [.ref b] H6 fun _ H7 => ∃ m', m' < (allW (t :: ts)).length ∧ WInv H v0 T S F0 W m' [some v0, some (.ref S), some (.ref F0), some (.ref W), some (.ref a), x5] H7 := by
          intro H6 b x5 s6 hb
          have hf6 := s6 _ _ hf5
          have hs6 := s6 _ _ hs5
          have hw6 := s6 _ _ hw5
          refine i_ext hf6 hb (by rw [List.length_map, List.length_map]; omega) ?_
          have fx : Fix H6 (upd H6 F0 (.lst (fs.map V.str ++ (wordsT t).map V.str))) := Fix.put hf6
          refine ⟨_, ?_, ⟨fs ++ wordsT t, ts, us, _, _, rfl, rfl, ?_, ?_, ?_, (TrsP.fix pt5 (Same.fix s6)).fix fx, fun t' ht' => gt t' (List.mem_cons_of_mem _ ht'), by rw [List.append_assoc]; exact ew', Same.mut (fun b o z => s6 _ _ (s5 _ _ z)) nF, by simp at hu; omega⟩⟩
          · show (allW ts).length < (wordsT t ++ allW ts).length
            rw [List.length_append]
            omega
          · rw [upd_ne (fun z => by rw [z, hf6] at hs6; cases hs6)]
            exact hs6
          · rw [List.map_append]
            exact upd_same
          · rw [upd_ne (Ne.symm nFW)]
            exact hw6
        walk_at "rd"
        refine i_ixT ha (at_first _ _) ?_
        walk_at "rd"
        unfold tDIn
        walk_at "rd"
        refine ⟨S, none, rfl, dg, false, rfl, iteF ?_⟩
        cases t with
        | an l r => exact hl.elim
        | ou l r => exact hl.elim
        | no t => exact hl.elim
        | al =>
          obtain ⟨a', e, h⟩ := r5
          cases e
          cases ha.symm.trans h
          walk_at "rd"
          refine s_no rfl ?_
          walk_at "rd"
          refine i_tyL hf5 ?_
          walk_at "rd"
          refine ⟨a, _, rfl, .inr (SqT.of ha), fun b hb => ?_⟩
          obtain ⟨H6, e6, s6, h6⟩ := new_heap (o := .lst [.str "always"]) hb
          rw [e6]
          exact step H6 b _ s6 h6
        | ne =>
          obtain ⟨a', e, h⟩ := r5
          cases e
          cases ha.symm.trans h
          walk_at "rd"
          refine s_no rfl ?_
          walk_at "rd"
          refine i_tyL hf5 ?_
          walk_at "rd"
          refine ⟨a, _, rfl, .inr (SqT.of ha), fun b hb => ?_⟩
          obtain ⟨H6, e6, s6, h6⟩ := new_heap (o := .lst [.str "never"]) hb
          rw [e6]
          exact step H6 b _ s6 h6
        | mi c =>
          obtain ⟨a', e, h⟩ := r5
          cases e
          cases ha.symm.trans h
          walk_at "rd"
          refine s_no rfl ?_
          walk_at "rd"
          refine i_tyL hf5 ?_
          walk_at "rd"
          refine ⟨a, _, rfl, .inr (SqT.of ha), fun b hb => ?_⟩
          obtain ⟨H6, e6, s6, h6⟩ := new_heap (o := .lst [.str "missing", .str c]) hb
          rw [e6]
          exact step H6 b _ s6 h6
        | wi c ps =>
          obtain ⟨a', p, e, h, hp, hc⟩ := r5
          cases e
          cases ha.symm.trans h
          walk_at "rd"
          refine s_yes ?_
          walk_at "rd"
          refine i_tyL hf5 ?_
          walk_at "rd"
          refine ⟨p, ps, rfl, hp, gt0.2.2.1, Nat.le_trans gt0.2.2.2 (by decide), fun H6 s6 => ?_⟩
          walk_at "rd"
          refine ⟨size_of (Nat.le_of_ble_eq_true rfl), fun b hb => ?_⟩
          obtain ⟨H7, e7, s7, h7⟩ := new_heap (o := .lst [.str "in", .str c, .str (partsT ps)]) hb
          rw [e7]
          walk_at "rd"
          exact step H7 b _ (fun b o z => s7 _ _ (s6 _ _ z)) h7
      · obtain ⟨a, tag, sg, xs, kids, rfl, ha, hv, kp, ek, kg, kl, kt⟩ : ∃ (a : Addr) (tag sg : Str) (xs : List V) (kids : List Tr), u = .ref a ∧ H5 a = some (.tup (.str tag :: xs)) ∧ valV SGD (Sum.inr tag) = some (.str sg) ∧ TrsP H5 kids xs ∧ wordsT t = sg :: allW kids ∧ (∀ k, k ∈ kids → GoodT k) ∧ xs.length ≤ 2 ∧ kids.length = xs.length := by
          have v1 : valV SGD (Sum.inr "and") = some (.str "&") := by decide +kernel
          have v2 : valV SGD (Sum.inr "or") = some (.str "|") := by decide +kernel
          have v3 : valV SGD (Sum.inr "not") = some (.str "~") := by decide +kernel
          cases t with
          | al => exact absurd trivial hl
          | ne => exact absurd trivial hl
          | mi c => exact absurd trivial hl
          | wi c ps => exact absurd trivial hl
          | an l rt =>
            obtain ⟨a, x, y, rfl, h, tx, ty⟩ := r5
            exact ⟨a, _, _, [x, y], [l, rt], rfl, h, v1, .cons tx (.cons ty .nil), by simp [wordsT, allW], fun k hk => by
              rcases List.mem_cons.mp hk with e | hk
              · rw [e]; exact gt0.1
              · rw [List.mem_singleton.mp hk]; exact gt0.2, Nat.le_refl _, rfl⟩
          | ou l rt =>
            obtain ⟨a, x, y, rfl, h, tx, ty⟩ := r5
            exact ⟨a, _, _, [x, y], [l, rt], rfl, h, v2, .cons tx (.cons ty .nil), by simp [wordsT, allW], fun k hk => by
              rcases List.mem_cons.mp hk with e | hk
              · rw [e]; exact gt0.1
              · rw [List.mem_singleton.mp hk]; exact gt0.2, Nat.le_refl _, rfl⟩
          | no t =>
            obtain ⟨a, x, rfl, h, tx⟩ := r5
            exact ⟨a, _, _, [x], [t], rfl, h, v3, .cons tx .nil, by simp [wordsT, allW], fun k hk => by
              rw [List.mem_singleton.mp hk]; exact gt0, by show 1 ≤ 2; decide, rfl⟩
        have dg : DGet H5 S (.str tag) (some (.str sg)) := by
          have z := DGet.k (k := Sum.inr tag) hs5
          rw [hv] at z
          exact z
        walk_at "rd"
        refine i_ixT ha (at_first _ _) ?_
        walk_at "rd"
        unfold tDIn
        walk_at "rd"
        refine ⟨S, _, rfl, dg, true, rfl, iteT ?_⟩
        walk_at "rd"
        refine i_tyL hf5 ?_
        walk_at "rd"
        unfold tDGet
        walk_at "rd"
        refine ⟨S, _, rfl, dg, ?_⟩
        walk_at "rd"
        refine i_app hf5 (by rw [List.length_map]; omega) ?_
        have fx6 : Fix H5 (upd H5 F0 (.lst (fs.map V.str ++ [.str sg]))) := Fix.put hf5
        have s6 : Same H (upd H5 F0 (.lst (fs.map V.str ++ [.str sg]))) := Same.mut s5 nF
        have hf6 : upd H5 F0 (.lst (fs.map V.str ++ [.str sg])) F0 = some (.lst (fs.map V.str ++ [.str sg])) := upd_same
        have hw6 : upd H5 F0 (.lst (fs.map V.str ++ [.str sg])) W = some (.lst us.reverse) := by rw [upd_ne (Ne.symm nFW)]; exact hw5
        have hs6 : upd H5 F0 (.lst (fs.map V.str ++ [.str sg])) S = some (.dK SGD) := by rw [upd_ne (fun z => by rw [z, hf5] at hs5; cases hs5)]; exact hs5
        have ha6 := fx6 _ _ rfl ha
        have kp6 := TrsP.fix kp fx6
        have pt6 := TrsP.fix pt5 fx6
        generalize upd H5 F0 (.lst (fs.map V.str ++ [.str sg])) = H6 at *
        walk_at "rd"
        refine i_tyL hw6 ?_
        walk_at "rd"
        unfold tRevT0
        walk_at "rd"
        refine ⟨a, .str tag, xs, rfl, SqT.of ha6, fun p hp => ?_⟩
        obtain ⟨H7, e7, s7, h7⟩ := new_heap (o := .tup xs.reverse) hp
        rw [e7]
        walk_at "rd"
        refine ⟨p, _, rfl, .inr (SqT.of h7), fun p2 hp2 => ?_⟩
        obtain ⟨H8, e8, s8, h8⟩ := new_heap (o := .lst xs.reverse) hp2
        rw [e8]
        have s68 : Same H6 H8 := fun b o z => s8 _ _ (s7 _ _ z)
        have hw8 := s68 _ _ hw6
        have hf8 := s68 _ _ hf6
        have hs8 := s68 _ _ hs6
        walk_at "rd"
        have ul : us.length ≤ 1000 := by simp at hu; omega
        refine i_ext hw8 h8 (by rw [List.length_reverse, List.length_reverse]; omega) ?_
        have fx9 : Fix H8 (upd H8 W (.lst (us.reverse ++ xs.reverse))) := Fix.put hw8
        have lk := congrArg List.length ek
        rw [List.length_cons] at lk
        have appP : ∀ {ks : List Tr} {xs : List V} {ts : List Tr} {us : List V} {H : Hp}, TrsP H ks xs → TrsP H ts us → TrsP H (ks ++ ts) (xs ++ us) := fun a b => by
          induction a with
          | nil => exact b
          | cons r t ih => exact .cons r ih
        have allA : allW (kids ++ ts) = allW kids ++ allW ts := by simp [allW]
        refine ⟨_, ?_, ⟨fs ++ [sg], kids ++ ts, xs ++ us, _, _, rfl, rfl, ?_, ?_, ?_, appP ((kp6.fix (Same.fix s68)).fix fx9) ((pt6.fix (Same.fix s68)).fix fx9), ?_, ?_, Same.mut (fun b o z => s68 _ _ (s6 _ _ z)) nW, ?_⟩⟩
        · show (allW (kids ++ ts)).length < (wordsT t ++ allW ts).length
          rw [allA, ek, List.length_append, List.length_append, List.length_cons]
          omega
        · rw [upd_ne (fun z => by rw [z, hw8] at hs8; cases hs8)]
          exact hs8
        · rw [upd_ne nFW, List.map_append]
          exact hf8
        · rw [List.reverse_append]
          exact upd_same
        · intro k hk
          rcases List.mem_append.mp hk with hk | hk
          · exact kg k hk
          · exact gt k (List.mem_cons_of_mem _ hk)
        · rw [allA, ← ew', ek]
          simp
        · have pl := Paired.length pt
          have al := allW_len ts
          rw [List.length_append]
          omega
abbrev s_show_filter : Stmt := top 6
theorem sc_show_filter : FnScope ["where"] ["where"] (defScope s_show_filter) := ⟨rfl, rfl, rfl, by decide +kernel, rfl, by decide +kernel, by decide +kernel⟩
def sp_fshow (D : Addr) : Sp := fun vs H Q _ => ∃ x t, vs = [.ref x] ∧ Fil D H x t ∧ GoodT t ∧ (wordsT t).length ≤ 400 ∧ ∀ H', Same H H' → Q (.str (Txt.join " " (wordsT t))) H'
theorem ok_fshow {f fT : Addr} {fd fdT : FuncData} (F : Fun K "show_filter" "show_filter" s_show_filter f fd) (T : ClsF K mg D fJ) (F_words_of_tree : Fun K "words_of_tree" "words_of_tree" s_words_of_tree fT fdT) (B_words_of_tree : Binds K fdT ["tree"] []) (g_words_of_tree : mg "words_of_tree" = some (.ref fT)) (G_words_of_tree : FnOk P w K mg base CX0 4 fT fdT ["tree"] sp_words) :
    FnOk P w K mg base CX0 5 f fd ["where"] (sp_fshow D) := by
  refine F.ok sc_show_filter (fun vs H Q E h => ?_) (fun cdv A outer s H vs Q E hr h => ?_)
  · obtain ⟨x, t, rfl, _⟩ := h
    rfl
  · obtain ⟨x, t, rfl, ⟨dx, v, p, cs, hx, ht, _⟩, hg, hz, q⟩ := h
    refine ⟨_, (pss_one (ps_ret (pe_join pe_str (pe_call G_words_of_tree (hr.mono (by decide)) rfl g_words_of_tree F_words_of_tree.kp B_words_of_tree .nil pass0 (pa_cons (pe_fld (pv 0) rfl) pa_nil))))), ?_⟩
    walk_at "rd"
    refine i_m1 ?_
    walk_at "rd"
    refine ⟨⟨_, rfl⟩, ?_⟩
    walk_at "rd"
    refine ⟨_, rfl, x, D, dx, _, _, rfl, hx, T.cl, T.nT, lk_tree, ?_⟩
    walk_at "rd"
    refine ⟨v, t, rfl, ht, hg, hz, fun l H1 s1 h1 => ?_⟩
    refine ⟨_, l, wordsT t, rfl, rfl, .inl (SqL.of h1), ?_, q H1 s1⟩
    have a := sum_le 175 (wordsT t) (word_len hg)
    have b : ((" " : Str)).length = 1 := rfl
    rw [b]
    have c : (wordsT t).length * 1 = (wordsT t).length := Nat.mul_one _
    omega
abbrev s_read_filter : Stmt := top 41
theorem sc_read_filter : FnScope ["text", "phrases", "found"] ["text"] (defScope s_read_filter) := ⟨rfl, rfl, rfl, by decide +kernel, rfl, by decide +kernel, by decide +kernel⟩
def sp_fread (D : Addr) : Sp := fun vs H Q _ => ∃ t, vs = [.str (Txt.join " " (wordsT t))] ∧ GoodT t ∧ t.cols.length < 64 ∧ sdT t ≤ 100 ∧ (wordsT t).length ≤ 400 ∧ ∀ g H', Same H H' → Fil D H' g t → Q (.ref g) H'
theorem ok_fread {f f1 f2 : Addr} {fd fd1 fd2 : FuncData} (F : Fun K "read_filter" "read_filter" s_read_filter f fd) (TP : ClsP K mg CP fPI hM hN hC hE hR hA hQ hF) (MP : ClsP K mg CP fPI hM hN hC hE hR hA hQ hF)
    (F_phrases_of : Fun K "phrases_of" "phrases_of" s_phrases_of f1 fd1) (B_phrases_of : Binds K fd1 ["text"] []) (g_phrases_of : mg "phrases_of" = some (.ref f1)) (G_phrases_of : FnOk P w K mg base CX0 4 f1 fd1 ["text"] (sp_pof CP))
    (F_end_of_line : Fun K "end_of_line" "end_of_line" s_end_of_line f2 fd2) (B_end_of_line : Binds K fd2 ["phrases"] []) (g_end_of_line : mg "end_of_line" = some (.ref f2)) (G_end_of_line : FnOk P w K mg base CX0 3 f2 fd2 ["phrases"] (sp_eol CP))
    (RP_next_filter : FnR P w K mg base CX0 8 hF (fun vs H Q E => sp_nfilter D CP (vs ++ []) H Q E)) : FnOk P w K mg base CX0 9 f fd ["text"] (sp_fread D) := by
  refine F.ok sc_read_filter (fun vs H Q E h => ?_) (fun cdv A outer s H vs Q E hr h => ?_)
  · obtain ⟨t, rfl, _⟩ := h
    rfl
  · obtain ⟨t, rfl, hg, hc, hs, hz, q⟩ := h
    refine ⟨_, (pss_cons (ps_set (i := 1) sc_read_filter.nd rfl (Or.inl rfl) (pe_call G_phrases_of (hr.mono (by decide)) rfl g_phrases_of F_phrases_of.kp B_phrases_of .nil pass0 (pa_cons (pv 0) pa_nil)))
 (pss_cons (ps_set (i := 2) sc_read_filter.nd rfl (Or.inl rfl) (pe_meth0R (pe_ix ix_list (pv 1) pe_int (fun _ _ => rfl)) TP.cl MP.next_filter RP_next_filter (hr.mono (by decide)) pass0))
 (pss_cons (ps_expr (pe_call G_end_of_line (hr.mono (by decide)) rfl g_end_of_line F_end_of_line.kp B_end_of_line .nil pass0 (pa_cons (pv 1) pa_nil)))
 (pss_one (ps_ret (pv 2)))))), ?_⟩
    walk_at "rd"
    have ln := line_of hg hz
    refine ⟨_, wordsT t, rfl, ln, fun p x H1 s1 hp hx ph => ?_⟩
    walk_at "rd"
    refine i_meth ?_
    walk_at "rd"
    obtain ⟨dx, i, l, hx1, hl1⟩ := ph
    refine ⟨x, dx, _, rfl, hx1, rfl, ?_⟩
    walk_at "rd"
    refine ⟨x, wordsT t, [], [], t, rfl, ⟨dx, i, l, hx1, hl1⟩, by omega, by simp, hg, hc, hs, hz, fun g H2 of2 ph2 hg2 => ?_⟩
    walk_at "rd"
    have np : p ≠ x := fun z => by rw [z, hx1] at hp; cases hp
    refine ⟨p, x, wordsT t, rfl, of2 _ _ np hp, ?_, by omega, ?_⟩
    · have e : ((([] : List Str).length + (wordsT t).length : Nat) : Int) = ((wordsT t).length : Int) := by simp
      rw [e] at ph2
      exact ph2
    · walk_at "rd"
      exact q g H2 (same_off hx s1 of2) hg2
end
end Spk

set_option Elab.async false
set_option linter.all false
set_option maxRecDepth 100000
set_option maxHeartbeats 1000000
namespace Spk
open PySem L2 TL
local macro_rules | `(tactic| walk_at "rd") => `(tactic| repeat (first
  | with_reducible refine i_seq ?_ | with_reducible refine i_asg ?_ | with_reducible refine i_ret ?_ | with_reducible refine i_ifS ?_ | with_reducible refine i_if ?_
  | with_reducible refine i_for ?_ | with_reducible refine i_iL ?_ | with_reducible refine i_iT ?_ | with_reducible refine i_ckw ?_ | with_reducible refine i_cm ?_ | with_reducible refine And.intro (rfl : V.ref _ = V.ref _) ?_ | with_reducible refine i_rng1 ?_ | with_reducible refine i_bm ?_ | with_reducible refine i_bm0 ?_
  | with_reducible refine i_drop ?_ | with_reducible refine i_next ?_
  | with_reducible refine i_var rfl ?_ | with_reducible refine i_c ?_ | with_reducible refine i_op ?_ | with_reducible refine i_un ?_ | with_reducible refine i_name ?_
  | with_reducible refine i_rI0 ?_ | with_reducible refine i_rU ?_ | with_reducible refine i_rEq rfl ?_ | with_reducible refine i_rNe rfl ?_
  | with_reducible refine i_test ?_ | with_reducible refine i_tB ?_ | with_reducible refine i_and ?_ | with_reducible refine i_or ?_ | with_reducible refine i_not ?_
  | with_reducible refine i_andV ?_ | with_reducible refine i_orV ?_ | with_reducible refine i_notV ?_
  | with_reducible refine i_cons ?_ | with_reducible refine i_nil ?_ | with_reducible refine i_cb ?_ | with_reducible refine i_call ?_ | with_reducible refine i_bl ?_
  | with_reducible refine i_tup ?_ | with_reducible refine i_lst ?_ | with_reducible refine i_par ?_ | with_reducible refine i_gcons ?_ | with_reducible refine i_gnil ?_
  | with_reducible refine And.intro (rfl : V.non = V.non) ?_ | with_reducible refine i_ixT (by assumption) rfl ?_ | with_reducible refine i_ixL (by assumption) rfl ?_ | with_reducible refine i_gtup (by assumption) rfl ?_
  | with_reducible refine i_gsub ?_
  | with_reducible refine Or.inl (Exists.intro _ (And.intro (rfl : [V.int _] = [V.int _]) ?_)) | with_reducible refine Exists.intro _ (And.intro (rfl : [V.int _] = [V.int _]) ?_)
  | with_reducible refine Or.inr (Exists.intro _ (And.intro (rfl : [V.bl _] = [V.bl _]) ?_))
  | with_reducible refine Exists.intro _ (Exists.intro _ (And.intro (rfl : [V.int _, V.int _] = [V.int _, V.int _]) ?_))
  | with_reducible refine Exists.intro _ (Exists.intro _ (And.intro (rfl : [V.ref _] = [V.ref _]) (And.intro (Or.inl (SqL.of (by assumption))) ?_)))
  | with_reducible refine i_rI (show (0 : Int) < _ by assumption) ?_ | with_reducible refine i_rI (show (0 : Int) < _ by decide) ?_
  | with_reducible refine i_rI (pow_ok (Nat.le_of_ble_eq_true rfl) (Nat.le_of_ble_eq_true rfl)) ?_
  | with_reducible refine i_rI (cmulL rfl) ?_))
/-! ### names -/
def isNameB (c : Str) : Bool := decide (1 ≤ c.length) && (decide (c.length ≤ 8) && c.cps.toList.all fun s => decide (97 ≤ s) && decide (s ≤ 122))
theorem isName_of {c : Str} (h : isNameB c = true) : IsName c := by
  unfold isNameB at h
  rw [Bool.and_eq_true, Bool.and_eq_true] at h
  refine ⟨of_decide_eq_true h.1, of_decide_eq_true h.2.1, fun s hs => ?_⟩
  have := List.all_eq_true.mp h.2.2 s hs
  rw [Bool.and_eq_true] at this
  exact ⟨of_decide_eq_true this.1, of_decide_eq_true this.2⟩
def WDS : List Str := ["in", "table", "key", "site", "home", "feed", "own", "none", "put", "once", "fixed", "unique", "never", "always", "missing", "rest", "wait", "stamped", "make", "insert", "falls", "copy"]
theorem wds_names : ∀ c, c ∈ WDS → IsName c := fun c hc => isName_of (List.all_eq_true.mp (show WDS.all isNameB = true by decide +kernel) c hc)
theorem at_strs {cs : List Str} {d : Int} (h0 : 0 ≤ d) (h1 : d < cs.length) : ∃ c, c ∈ cs ∧ atI (cs.map V.str) d = some (.str c) := by
  obtain ⟨k, rfl⟩ : ∃ k : Nat, d = (k : Int) := ⟨d.toNat, by omega⟩
  have hk : k < cs.length := by omega
  refine ⟨cs[k], List.getElem_mem hk, ?_⟩
  refine atI_nat ?_
  rw [List.getElem?_map, List.getElem?_eq_getElem hk] <;> rfl
def ABC : Str := "abcdefghijklmnopqrstuvwxyz"
theorem abc_all : ∀ k : Nat, k < 26 → ABC.cps.toList[k]? = some (97 + k) := by
  have h : (List.range 26).all (fun k => ABC.cps.toList[k]? == some (97 + k)) = true := by decide +kernel
  intro k hk
  exact eq_of_beq (List.all_eq_true.mp h k (List.mem_range.mpr hk))
theorem abc_at {d : Int} (h0 : 0 ≤ d) (h1 : d < 26) : atI ABC.cps.toList d = some (97 + d.toNat) := by
  obtain ⟨k, rfl⟩ : ∃ k : Nat, d = (k : Int) := ⟨d.toNat, by omega⟩
  exact atI_nat (abc_all k (by omega))
/-- letters one behind another -/
structure Low (c : Str) (n : Nat) : Prop where
  len : c.length = n
  az : ∀ s, s ∈ tl c → 97 ≤ s ∧ s ≤ 122
theorem Low.name {c : Str} {n : Nat} (h : Low c n) (h1 : 1 ≤ n) (h2 : n ≤ 8) : IsName c := ⟨by rw [h.len]; exact h1, by rw [h.len]; exact h2, h.az⟩
theorem Low.snoc {c : Str} {n k : Nat} (h : Low c n) (hk : k < 26) : Low (c ++ Str.mk #[97 + k]) (n + 1) := by
  refine ⟨?_, fun s hs => ?_⟩
  · rw [len_tl, tl_append, List.length_append, ← len_tl, h.len]
    rfl
  · rw [tl_append] at hs
    rcases List.mem_append.mp hs with hs | hs
    · exact h.az s hs
    · have : s = 97 + k := List.mem_singleton.mp hs
      omega
section
variable {P : Program} {w : World} {K : PySem.W.Frag} {mg : Str → Option Value} {base : Heap}
abbrev s_name : Stmt := top 48
theorem sc_name : FnScope ["_law_pen_here", "_law_words_here", "_law_name_here", "_law_k"] ["_law_pen_here"] (defScope s_name) := ⟨rfl, rfl, rfl, by decide +kernel, rfl, by decide +kernel, by decide +kernel⟩
def sp_lname : Sp := fun vs H Q _ => ∃ p L n, vs = [.ref p] ∧ Pen H p L n ∧ n ≤ 9900 ∧ ∀ c H', IsName c → Keep H H' → Pen H' p L (n + 10) → Q (.str c) H'
theorem ok_lname {f fD : Addr} {fd fdD : FuncData} (F : Fun K "_law_name" "_law_name" s_name f fd) (F_draw : Fun K "_law_draw" "_law_draw" s_draw fD fdD) (B_draw : Binds K fdD ["_law_pen_here", "_law_many"] []) (g_draw : mg "_law_draw" = some (.ref fD))
    (G_draw : FnOk P w K mg base CX0 1 fD fdD ["_law_pen_here", "_law_many"] sp_draw) (z_len : mg "len" = none) (z_range : mg "range" = none) : FnOk P w K mg base CX0 2 f fd ["_law_pen_here"] sp_lname := by
  refine F.ok sc_name (fun vs H Q E h => ?_) (fun cdv A outer s H vs Q E hr h => ?_)
  · obtain ⟨p, L, n, rfl, _⟩ := h
    rfl
  · obtain ⟨p, L, n, rfl, hp, hn, q⟩ := h
    refine ⟨_, (pss_cons (ps_set (i := 1) sc_name.nd rfl (Or.inl rfl) (pe_lst (pa_cons pe_str (pa_cons pe_str (pa_cons pe_str (pa_cons pe_str (pa_cons pe_str (pa_cons pe_str (pa_cons pe_str (pa_cons pe_str (pa_cons pe_str (pa_cons pe_str (pa_cons pe_str (pa_cons pe_str (pa_cons pe_str pa_nil)))))))))))))))
 (pss_cons (ps_set (i := 1) sc_name.nd rfl (Or.inl rfl) (pe_op op_cat (pv 1) (pe_lst (pa_cons pe_str (pa_cons pe_str (pa_cons pe_str (pa_cons pe_str (pa_cons pe_str (pa_cons pe_str (pa_cons pe_str (pa_cons pe_str (pa_cons pe_str pa_nil))))))))))))
 (pss_cons (ps_if (pt_cmpR op_eq (pe_call G_draw (hr.mono (by decide)) rfl g_draw F_draw.kp B_draw .nil pass0 (pa_cons (pv 0) (pa_cons pe_int pa_nil))) pe_int (nomark _))
 (pss_one (ps_ret (pe_ix ix_list (pv 1) (pe_call G_draw (hr.mono (by decide)) rfl g_draw F_draw.kp B_draw .nil pass0 (pa_cons (pv 0) (pa_cons (pe_callB call_len_seq (by rfl) z_len PySem.boot_len (pa_cons (pv 1) pa_nil)) pa_nil))) (fun _ _ => rfl))))
 pss_nil)
 (pss_cons (ps_set (i := 2) sc_name.nd rfl (Or.inl rfl) pe_str)
 (pss_cons (ps_for PassesOwn.never rfl (pi_range1 (by rfl) z_range (pa_cons (pe_ix ix_list (pe_lst (pa_cons pe_int (pa_cons pe_int (pa_cons pe_int (pa_cons pe_int (pa_cons pe_int pa_nil)))))) (pe_call G_draw (hr.mono (by decide)) rfl g_draw F_draw.kp B_draw .nil pass0 (pa_cons (pv 0) (pa_cons pe_int pa_nil))) (fun _ _ => rfl)) pa_nil)) (pg_name (i := 3) sc_name.nd rfl (Or.inl rfl))
 (pss_one (ps_set (i := 2) sc_name.nd rfl (Or.inl rfl) (pe_op op_add_str (pv 2) (pe_ix ix_str pe_str (pe_call G_draw (hr.mono (by decide)) rfl g_draw F_draw.kp B_draw .nil pass0 (pa_cons (pv 0) (pa_cons pe_int pa_nil))) (fun _ _ => rfl))))))
 (pss_one (ps_ret (pv 2)))))))), ?_⟩
    walk_at "rd"
    refine ⟨size_of (Nat.le_of_ble_eq_true rfl), fun a ha => ?_⟩
    obtain ⟨H1, e1, s1, h1⟩ := new_heap (o := .lst [.str "in", .str "table", .str "key", .str "site", .str "home", .str "feed", .str "own", .str "none", .str "put", .str "once", .str "fixed", .str "unique", .str "never"]) ha
    rw [e1]
    walk_at "rd"
    refine ⟨size_of (Nat.le_of_ble_eq_true rfl), fun b hb => ?_⟩
    obtain ⟨H2, e2, s2, h2⟩ := new_heap (o := .lst [.str "always", .str "missing", .str "rest", .str "wait", .str "stamped", .str "make", .str "insert", .str "falls", .str "copy"]) hb
    rw [e2]
    walk_at "rd"
    refine ⟨a, b, _, _, rfl, rfl, s2 _ _ h1, h2, size_of (Nat.le_of_ble_eq_true rfl), fun c hc => ?_⟩
    obtain ⟨H3, e3, s3, h3⟩ := new_heap (o := .lst (WDS.map V.str)) hc
    show tSeq _ _ _ _ (upd H2 c (.lst (WDS.map V.str)))
    rw [e3]
    have s03 : Same H H3 := fun b o z => s3 _ _ (s2 _ _ (s1 _ _ z))
    walk_at "rd"
    refine ⟨p, L, n, 3, rfl, hp.up s03, by omega, by decide, by decide, fun d H4 d0 d1 k4 p4 => ?_⟩
    walk_at "rd"
    have h4 := k4 _ _ rfl h3
    have k04 := (Same.keep s03).trans k4
    refine ite_d (fun _ => ?_) (fun _ => ?_)
    · walk_at "rd"
      rw [List.length_map]
      refine ⟨p, L, _, _, rfl, p4, by omega, by decide, by decide, fun d2 H5 g0 g1 k5 p5 => ?_⟩
      obtain ⟨w0, hw, ew⟩ := at_strs (cs := WDS) g0 g1
      refine i_ixL (k5 _ _ rfl h4) ew ?_
      exact q w0 H5 (wds_names _ hw) (k04.trans k5) (p5.mono (by omega))
    · walk_at "rd"
      refine ⟨size_of (Nat.le_of_ble_eq_true rfl), fun l hl => ?_⟩
      obtain ⟨H5, e5, s5, h5⟩ := new_heap (o := .lst [.int 1, .int 1, .int 2, .int 3, .int 8]) hl
      rw [e5]
      walk_at "rd"
      refine ⟨p, L, _, 5, rfl, p4.up s5, by omega, by decide, by decide, fun d2 H6 g0 g1 k6 p6 => ?_⟩
      walk_at "rd"
      obtain ⟨m, hm, m1, m8⟩ : ∃ m : Nat, atI [V.int 1, V.int 1, V.int 2, V.int 3, V.int 8] d2 = some (.int (m : Nat)) ∧ 1 ≤ m ∧ m ≤ 8 := by
        obtain e | e | e | e | e : d2 = 0 ∨ d2 = 1 ∨ d2 = 2 ∨ d2 = 3 ∨ d2 = 4 := by omega
        · rw [e]; exact ⟨1, rfl, by decide, by decide⟩
        · rw [e]; exact ⟨1, rfl, by decide, by decide⟩
        · rw [e]; exact ⟨2, rfl, by decide, by decide⟩
        · rw [e]; exact ⟨3, rfl, by decide, by decide⟩
        · rw [e]; exact ⟨8, rfl, by decide, by decide⟩
      refine i_ixL (k6 _ _ rfl h5) hm ?_
      have k06 := (k04.trans (Same.keep s5)).trans k6
      walk_at "rd"
      refine ⟨by omega, by omega, for_range (lo := 0) (n := m) (fun i σ H' => ∃ z x3, σ = [some (.ref p), some (.ref c), some (.str z), x3] ∧ Low z i ∧ Keep H6 H' ∧ Pen H' p L (n + 2 + i)) ⟨_, none, rfl, ⟨rfl, fun s hs => absurd hs List.not_mem_nil⟩, Keep.refl _, p6.mono (by omega)⟩ ?_ ?_⟩
      · rintro i σ H7 hi ⟨z, x3, rfl, lz, k7, p7⟩
        walk_at "rd"
        refine ⟨p, L, _, 26, rfl, p7, by omega, by decide, by decide, fun d3 H8 u0 u1 k8 p8 => ?_⟩
        walk_at "rd"
        refine ⟨_, _, _, rfl, rfl, size_of (Nat.le_of_ble_eq_true rfl), abc_at u0 u1, ?_⟩
        refine ⟨_, _, rfl, rfl, size_of (by rw [lz.len]; show i + 1 ≤ _; omega), ?_⟩
        walk_at "rd"
        exact ⟨_, _, rfl, lz.snoc (by omega), k7.trans k8, p8⟩
      · rintro σ H7 ⟨z, x3, rfl, lz, k7, p7⟩
        walk_at "rd"
        exact q z H7 (lz.name m1 m8) (k06.trans k7) (p7.mono (by omega))
/-! ### names, each another -/
def candT (t : Nat) : Str := Str.ofString "x" ++ Str.mk #[97 + t] ++ Str.mk #[97]
theorem cand_low {t : Nat} (h : t < 26) : IsName (candT t) := by
  have a : Low (Str.ofString "x") 1 := ⟨rfl, fun s hs => by rw [show tl (Str.ofString "x") = [120] from rfl] at hs; have := List.mem_singleton.mp hs; omega⟩
  exact ((a.snoc h).snoc (k := 0) (by decide)).name (by decide) (by decide)
theorem cand_inj {s t : Nat} (h : candT s = candT t) : s = t := by
  have e := congrArg tl h
  simp only [candT, tl_append] at e
  have e2 : [120, 97 + s, 97] = [120, 97 + t, 97] := e
  simp at e2
  exact e2
theorem pigeon : ∀ {xs ys : List Str}, xs.Nodup → (∀ x, x ∈ xs → x ∈ ys) → xs.length ≤ ys.length
  | [], _, _, _ => Nat.zero_le _
  | x :: xs, ys, nd, h => by
    obtain ⟨n1, n2⟩ := List.nodup_cons.mp nd
    have hx := h x (List.mem_cons_self ..)
    have := pigeon (xs := xs) (ys := ys.erase x) n2 fun y hy => (List.mem_erase_of_ne (fun z => n1 (by rw [← z]; exact hy))).mpr (h y (List.mem_cons_of_mem _ hy))
    rw [List.length_erase_of_mem hx] at this
    have := List.length_pos_of_mem hx
    rw [List.length_cons]
    omega
theorem cands_le {ys : List Str} {t : Nat} (h : ∀ s, s < t → candT s ∈ ys) : t ≤ ys.length := by
  have nd : ((List.range t).map candT).Nodup := List.pairwise_map.mpr (List.Pairwise.imp (fun {a b} hne z => hne (cand_inj z)) List.nodup_range)
  have := pigeon (ys := ys) nd fun x hx => by
    obtain ⟨s, hs, rfl⟩ := List.mem_map.mp hx
    exact h s (List.mem_range.mp hs)
  simpa using this
theorem inV_strs (c : Str) (cs : List Str) : inV (.str c) (cs.map V.str) = decide (c ∈ cs) := by
  unfold inV
  rw [List.any_map]
  rw [Bool.eq_iff_iff]
  simp only [List.any_eq_true, decide_eq_true_eq, Function.comp]
  constructor
  · rintro ⟨x, hx, e⟩
    have : x = c := by simpa [eqV] using e
    rw [← this]
    exact hx
  · intro h
    exact ⟨c, h, by simp [eqV]⟩
theorem flat_strs (cs : List Str) : (cs.map V.str).all flatV = true := by
  rw [List.all_map]
  exact List.all_eq_true.mpr fun _ _ => rfl
abbrev s_names : Stmt := top 49
theorem sc_names : FnScope ["_law_pen_here", "_law_many", "_law_some", "_law_letters", "_law_names_here", "_law_k", "_law_name_here", "_law_tries"] ["_law_pen_here", "_law_many", "_law_some"] (defScope s_names) := ⟨rfl, rfl, rfl, by decide +kernel, rfl, by decide +kernel, by decide +kernel⟩
def sp_lnames : Sp := fun vs H Q _ => ∃ p L n m l, ∃ k : Nat, vs = [.ref p, .int m, .ref l] ∧ m = (k : Int) ∧ 1 ≤ k ∧ k ≤ 4 ∧ H l = some (.lst []) ∧ Pen H p L n ∧ n ≤ 9800 ∧ ∀ (cs : List Str) (q : Addr) (H' : Hp), (∀ c, c ∈ cs → IsName c) → cs.length = k → Keep H H' → Pen H' p L (n + 40) → H' q = some (.lst (cs.map V.str)) → Q (.ref q) H'
theorem ok_lnames {f fD : Addr} {fd fdD : FuncData} (F : Fun K "_law_names" "_law_names" s_names f fd) (F_name : Fun K "_law_name" "_law_name" s_name fD fdD) (B_name : Binds K fdD ["_law_pen_here"] []) (g_name : mg "_law_name" = some (.ref fD))
    (G_name : FnOk P w K mg base CX0 2 fD fdD ["_law_pen_here"] sp_lname) (z_int : mg "int" = none) (z_range : mg "range" = none) : FnOk P w K mg base CX0 3 f fd ["_law_pen_here", "_law_many", "_law_some"] sp_lnames := by
  refine F.ok sc_names (fun vs H Q E h => ?_) (fun cdv A outer s H vs Q E hr h => ?_)
  · obtain ⟨p, L, n, m, l, k, rfl, _⟩ := h
    rfl
  · obtain ⟨p, L, n, m, l, k, rfl, rfl, k1, k4, hl, hp, hn, q⟩ := h
    refine ⟨_, (pss_cons (ps_set (i := 3) sc_names.nd rfl (Or.inl rfl) pe_str)
 (pss_cons (ps_set (i := 4) sc_names.nd rfl (Or.inl rfl) (pe_lst pa_nil))
 (pss_cons (ps_for PassesOwn.never rfl (pi_range1 (by rfl) z_range (pa_cons (pv 1) pa_nil)) (pg_name (i := 5) sc_names.nd rfl (Or.inl rfl))
 (pss_cons (ps_set (i := 6) sc_names.nd rfl (Or.inl rfl) (pe_call G_name (hr.mono (by decide)) rfl g_name F_name.kp B_name .nil pass0 (pa_cons (pv 0) pa_nil)))
 (pss_cons (ps_set (i := 7) sc_names.nd rfl (Or.inl rfl) pe_int)
 (pss_cons (ps_while PassesOwn.never (PW.pt (pw_or (pt_cmpR op_in_seq (pv 6) (pv 4) (by rfl)) (pw_or1 (pt_cmpR op_in_seq (pv 6) (pv 2) (by rfl)))))
 (pss_cons (ps_set (i := 6) sc_names.nd rfl (Or.inl rfl) (pe_op op_add_str (pe_op op_add_str pe_str (pe_ix ix_str (pv 3) (pe_op op_mod (pe_callTy call_int1 (by rfl) z_int (by decide +kernel) (pa_cons (pv 7) pa_nil)) pe_int) (fun _ _ => rfl))) (pe_ix ix_str (pv 3) (pe_op op_mod (pe_op op_fdivW (pe_callTy call_int1 (by rfl) z_int (by decide +kernel) (pa_cons (pv 7) pa_nil)) pe_int) pe_int) (fun _ _ => rfl))))
 (pss_one (ps_set (i := 7) sc_names.nd rfl (Or.inl rfl) (pe_op op_add (pv 7) pe_int)))))
 (pss_one (ps_expr (pe_bm PySem.F.plainAttrs_list PySem.F.slot_list_append PySem.F.type_list_append mt_append (pv 4) (pa_cons (pv 6) pa_nil))))))))
 (pss_one (ps_ret (pv 4)))))), ?_⟩
    walk_at "rd"
    refine ⟨Nat.zero_le _, fun r hr => ?_⟩
    obtain ⟨H1, e1, s1, h1⟩ := new_heap (o := .lst []) hr
    rw [e1]
    walk_at "rd"
    refine ⟨by omega, by omega, for_range (lo := 0) (n := k) (fun i σ H' => ∃ cs x5 x6 x7, σ = [some (.ref p), some (.int (k : Int)), some (.ref l), some (.str ABC), some (.ref r), x5, x6, x7] ∧ (∀ c, c ∈ cs → IsName c) ∧ cs.length = i ∧ Keep H H' ∧ Pen H' p L (n + 10 * i) ∧ H' r = some (.lst (cs.map V.str))) ⟨[], none, none, none, rfl, fun c hc => absurd hc List.not_mem_nil, rfl, Same.keep s1, hp.up s1, h1⟩ ?_ ?_⟩
    · rintro i σ H2 hi ⟨cs, x5, x6, x7, rfl, nc, lc, k2, p2, h2⟩
      have nr : H r = none := hr
      walk_at "rd"
      refine ⟨p, L, _, rfl, p2, by omega, fun c H3 hc k3 p3 => ?_⟩
      have h3 := k3 _ _ rfl h2
      have hl3 := (k2.trans k3) _ _ rfl hl
      walk_at "rd"
      refine ⟨fun m σ H4 => ∃ (c : Str) (t : Nat), σ = [some (.ref p), some (.int (k : Int)), some (.ref l), some (.str ABC), some (.ref r), some (.int (0 + (i : Int))), some (.str c), some (.int (t : Int))] ∧ H4 = H3 ∧ IsName c ∧ m + t = 5 ∧ (∀ s, s + 1 < t → candT s ∈ cs) ∧ (1 ≤ t → c = candT (t - 1)), ⟨5, c, 0, rfl, rfl, hc, rfl, fun s hs => absurd hs (Nat.not_lt_zero _), fun z => absurd z (by decide)⟩, ?_⟩
      rintro m σ H4 ⟨c, t, rfl, rfl, hc, et, hs, hcand⟩
      walk_at "rd"
      refine ⟨r, _, rfl, .inl (SqL.of h3), rfl, flat_strs cs, ?_⟩
      rw [inV_strs]
      have t4 : t ≤ 4 := by
        by_cases z : t = 0
        · omega
        · have := cands_le (ys := cs) (t := t - 1) fun s h => hs s (by omega)
          omega
      by_cases hm : c ∈ cs
      · rw [show (if false = true then !decide (c ∈ cs) else decide (c ∈ cs)) = true from by rw [if_neg (by decide)]; exact decide_eq_true hm]
        have t3 : t ≤ 3 := by
          by_cases z : t = 0
          · omega
          · have := cands_le (ys := cs) (t := t) fun s h => by
              by_cases e : s + 1 = t
              · have := hcand (by omega)
                rw [show s = t - 1 from by omega, ← this]
                exact hm
              · exact hs s (by omega)
            omega
        refine ⟨true, rfl, iteT (iteT ⟨_, fun σ' H' h => h, ?_⟩)⟩
        walk_at "rd"
        have tm : (t : Int) % 26 = t := Int.emod_eq_of_lt (by omega) (by omega)
        have td : ((t : Int) / 26) % 26 = 0 := by omega
        rw [tm]
        refine ⟨_, _, _, rfl, rfl, size_of (Nat.le_of_ble_eq_true rfl), abc_at (by omega) (by omega), ?_⟩
        refine ⟨_, _, rfl, rfl, size_of (Nat.le_of_ble_eq_true rfl), ?_⟩
        walk_at "rd"
        refine i_rI (wide_div (b := 8) (by decide) (by decide) (by decide) (by decide)) ?_
        walk_at "rd"
        rw [td]
        refine ⟨_, _, _, rfl, rfl, size_of (Nat.le_of_ble_eq_true rfl), abc_at (by decide) (by decide), ?_⟩
        refine ⟨_, _, rfl, rfl, size_of (Nat.le_of_ble_eq_true rfl), ?_⟩
        walk_at "rd"
        refine ⟨4 - t, by omega, candT t, t + 1, rfl, rfl, cand_low (by omega), by omega, fun s h => ?_, fun _ => rfl⟩
        by_cases e : s + 1 = t
        · have := hcand (by omega)
          rw [show s = t - 1 from by omega, ← this]
          exact hm
        · exact hs s (by omega)
      · rw [show (if false = true then !decide (c ∈ cs) else decide (c ∈ cs)) = false from by rw [if_neg (by decide)]; exact decide_eq_false hm]
        refine ⟨false, rfl, iteF ?_⟩
        walk_at "rd"
        refine ⟨l, _, rfl, .inl (SqL.of hl3), rfl, rfl, ?_⟩
        refine ⟨false, rfl, iteF ?_⟩
        walk_at "rd"
        refine i_tyL h3 ?_
        walk_at "rd"
        refine i_app h3 (by rw [List.length_map]; omega) ?_
        refine ⟨cs ++ [c], _, _, _, rfl, fun x hx => ?_, by rw [List.length_append, lc]; rfl, Keep.mut (k2.trans k3) nr, (p3.mut h3 (hp.ne nr)).mono (by omega), ?_⟩
        · rcases List.mem_append.mp hx with hx | hx
          · exact nc x hx
          · rw [List.mem_singleton.mp hx]; exact hc
        · rw [List.map_append]
          exact upd_same
    · rintro σ H2 ⟨cs, x5, x6, x7, rfl, nc, lc, k2, p2, h2⟩
      walk_at "rd"
      exact q cs r H2 nc lc k2 (p2.mono (by omega)) h2
end
end Spk

set_option Elab.async false
set_option linter.all false
set_option maxRecDepth 100000
set_option maxHeartbeats 2000000
namespace Spk
open PySem L2 TL
local macro_rules | `(tactic| walk_at "rd") => `(tactic| repeat (first
  | with_reducible refine i_seq ?_ | with_reducible refine i_asg ?_ | with_reducible refine i_ret ?_ | with_reducible refine i_ifS ?_ | with_reducible refine i_if ?_
  | with_reducible refine i_for ?_ | with_reducible refine i_iL ?_ | with_reducible refine i_iT ?_ | with_reducible refine i_ckw ?_ | with_reducible refine i_cm ?_ | with_reducible refine And.intro (rfl : V.ref _ = V.ref _) ?_ | with_reducible refine i_rng1 ?_ | with_reducible refine i_bm ?_ | with_reducible refine i_bm0 ?_
  | with_reducible refine i_drop ?_ | with_reducible refine i_next ?_
  | with_reducible refine i_var rfl ?_ | with_reducible refine i_c ?_ | with_reducible refine i_op ?_ | with_reducible refine i_un ?_ | with_reducible refine i_name ?_
  | with_reducible refine i_rI0 ?_ | with_reducible refine i_rU ?_ | with_reducible refine i_rEq rfl ?_ | with_reducible refine i_rNe rfl ?_
  | with_reducible refine i_test ?_ | with_reducible refine i_tB ?_ | with_reducible refine i_and ?_ | with_reducible refine i_or ?_ | with_reducible refine i_not ?_
  | with_reducible refine i_andV ?_ | with_reducible refine i_orV ?_ | with_reducible refine i_notV ?_
  | with_reducible refine i_cons ?_ | with_reducible refine i_nil ?_ | with_reducible refine i_cb ?_ | with_reducible refine i_call ?_ | with_reducible refine i_bl ?_
  | with_reducible refine i_tup ?_ | with_reducible refine i_lst ?_ | with_reducible refine i_par ?_ | with_reducible refine i_gcons ?_ | with_reducible refine i_gnil ?_
  | with_reducible refine And.intro (rfl : V.non = V.non) ?_ | with_reducible refine i_ixT (by assumption) rfl ?_ | with_reducible refine i_ixL (by assumption) rfl ?_ | with_reducible refine i_gtup (by assumption) rfl ?_
  | with_reducible refine i_gsub ?_
  | with_reducible refine Or.inl (Exists.intro _ (And.intro (rfl : [V.int _] = [V.int _]) ?_)) | with_reducible refine Exists.intro _ (And.intro (rfl : [V.int _] = [V.int _]) ?_)
  | with_reducible refine Or.inr (Exists.intro _ (And.intro (rfl : [V.bl _] = [V.bl _]) ?_))
  | with_reducible refine Exists.intro _ (Exists.intro _ (And.intro (rfl : [V.int _, V.int _] = [V.int _, V.int _]) ?_))
  | with_reducible refine Exists.intro _ (Exists.intro _ (And.intro (rfl : [V.ref _] = [V.ref _]) (And.intro (Or.inl (SqL.of (by assumption))) ?_)))
  | with_reducible refine i_rI (show (0 : Int) < _ by assumption) ?_ | with_reducible refine i_rI (show (0 : Int) < _ by decide) ?_
  | with_reducible refine i_rI (pow_ok (Nat.le_of_ble_eq_true rfl) (Nat.le_of_ble_eq_true rfl)) ?_
  | with_reducible refine i_rI (cmulL rfl) ?_))
/-! ### trees drawn -/
def Tr.nots : Tr → Nat
  | .an l r => nots l + nots r
  | .ou l r => nots l + nots r
  | .no t => nots t + 1
  | _ => 0
theorem many_pos : ∀ t : Tr, 1 ≤ t.many
  | .wi _ _ => Nat.le_refl _
  | .mi _ => Nat.le_refl _
  | .al => Nat.le_refl _
  | .ne => Nat.le_refl _
  | .an l r => by have := many_pos l; simp only [Tr.many]; omega
  | .ou l r => by have := many_pos l; simp only [Tr.many]; omega
  | .no t => by have := many_pos t; simp only [Tr.many]; omega
theorem words_many : ∀ t : Tr, (wordsT t).length + 1 ≤ 4 * t.many + t.nots
  | .wi _ _ => Nat.le_refl _
  | .mi _ => by show 3 ≤ 4; decide
  | .al => by show 2 ≤ 4; decide
  | .ne => by show 2 ≤ 4; decide
  | .an l r => by have := words_many l; have := words_many r; simp only [Tr.many, Tr.nots, wordsT, List.length_cons, List.length_append]; omega
  | .ou l r => by have := words_many l; have := words_many r; simp only [Tr.many, Tr.nots, wordsT, List.length_cons, List.length_append]; omega
  | .no t => by have := words_many t; simp only [Tr.many, Tr.nots, wordsT, List.length_cons]; omega
theorem cols_many : ∀ t : Tr, t.cols.length ≤ t.many
  | .wi _ _ => Nat.le_refl _
  | .mi _ => Nat.le_refl _
  | .al => Nat.zero_le _
  | .ne => Nat.zero_le _
  | .an l r => by have := cols_many l; have := cols_many r; simp only [Tr.many, Tr.cols, List.length_append]; omega
  | .ou l r => by have := cols_many l; have := cols_many r; simp only [Tr.many, Tr.cols, List.length_append]; omega
  | .no t => cols_many t
theorem sd_deep : ∀ t : Tr, sdT t + 1 ≤ t.deep
  | .wi _ _ => Nat.le_refl _
  | .mi _ => Nat.le_refl _
  | .al => Nat.le_refl _
  | .ne => Nat.le_refl _
  | .an l r => by have := sd_deep l; have := sd_deep r; simp only [Tr.deep, sdT]; omega
  | .ou l r => by have := sd_deep l; have := sd_deep r; simp only [Tr.deep, sdT]; omega
  | .no t => by have := sd_deep t; simp only [Tr.deep, sdT]; omega
theorem deep_many : ∀ t : Tr, t.deep ≤ t.many + t.nots
  | .wi _ _ => Nat.le_refl _
  | .mi _ => Nat.le_refl _
  | .al => Nat.le_refl _
  | .ne => Nat.le_refl _
  | .an l r => by have := deep_many l; have := deep_many r; have := many_pos l; have := many_pos r; simp only [Tr.deep, Tr.many, Tr.nots]; omega
  | .ou l r => by have := deep_many l; have := deep_many r; have := many_pos l; have := many_pos r; simp only [Tr.deep, Tr.many, Tr.nots]; omega
  | .no t => by have := deep_many t; simp only [Tr.deep, Tr.many, Tr.nots]; omega
/-- all its columns are of these -/
def Of (cs : List Str) (t : Tr) : Prop := ∀ c, c ∈ t.cols → c ∈ cs
/-- a tree that can be told, read and shown -/
structure FitT (t : Tr) : Prop where
  good : GoodT t
  deep : t.deep ≤ 22
  words : (wordsT t).length ≤ 400
  cols : t.cols.length < 64
  sd : sdT t ≤ 100
  many : t.many ≤ 60
  nots : t.nots ≤ 6
theorem name_ok {c : Str} (h : IsName c) : PyData.strOk c = true := by
  unfold PyData.strOk
  rw [Array.all_eq_true']
  intro s hs
  have := h.az s (Array.mem_def.mp hs)
  rw [decide_eq_true_eq]
  omega
section
variable {P : Program} {w : World} {K : PySem.W.Frag} {mg : Str → Option Value} {base : Heap}
abbrev s_leaf : Stmt := top 54
theorem sc_leaf : FnScope ["_law_pen_here", "_law_columns", "_law_pick", "_law_column"] ["_law_pen_here", "_law_columns"] (defScope s_leaf) := ⟨rfl, rfl, rfl, by decide +kernel, rfl, by decide +kernel, by decide +kernel⟩
def sp_leaf : Sp := fun vs H Q _ => ∃ p L n l cs, vs = [.ref p, .ref l] ∧ Pen H p L n ∧ n ≤ 8900 ∧ H l = some (.lst (cs.map V.str)) ∧ 1 ≤ cs.length ∧ cs.length ≤ 10 ∧ (∀ c, c ∈ cs → IsName c) ∧
  ∀ v H' t, Keep H H' → Pen H' p L (n + 53) → TreeAt H' t v → t.many = 1 → t.deep = 1 → t.nots = 0 → GoodT t → Of cs t → Q v H'
theorem ok_leaf {f fD fR : Addr} {fd fdD fdR : FuncData} (F : Fun K "_law_leaf" "_law_leaf" s_leaf f fd) (F_draw : Fun K "_law_draw" "_law_draw" s_draw fD fdD) (B_draw : Binds K fdD ["_law_pen_here", "_law_many"] []) (g_draw : mg "_law_draw" = some (.ref fD))
    (G_draw : FnOk P w K mg base CX0 1 fD fdD ["_law_pen_here", "_law_many"] sp_draw) (F_Lparts : Fun K "_law_parts" "_law_parts" s_Lparts fR fdR) (B_Lparts : Binds K fdR ["_law_pen_here", "_law_most"] []) (g_Lparts : mg "_law_parts" = some (.ref fR))
    (G_Lparts : FnOk P w K mg base CX0 3 fR fdR ["_law_pen_here", "_law_most"] sp_parts) (z_len : mg "len" = none) : FnOk P w K mg base CX0 4 f fd ["_law_pen_here", "_law_columns"] sp_leaf := by
  refine F.ok sc_leaf (fun vs H Q E h => ?_) (fun cdv A outer s H vs Q E hr h => ?_)
  · obtain ⟨p, L, n, l, cs, rfl, _⟩ := h
    rfl
  · obtain ⟨p, L, n, l, cs, rfl, hp, hn, hl, z1, z2, nm, k⟩ := h
    refine ⟨_, (pss_cons (ps_set (i := 2) sc_leaf.nd rfl (Or.inl rfl) (pe_call G_draw (hr.mono (by decide)) rfl g_draw F_draw.kp B_draw .nil pass0 (pa_cons (pv 0) (pa_cons pe_int pa_nil))))
 (pss_cons (ps_if (PW.pt (pw_or (pt_cmpR (op_eqD hr.units) (pv 1) (pe_lst pa_nil) (nomark _)) (pw_or1 (pt_cmpR op_lt (pv 2) pe_int (nomark _)))))
 (pss_one (ps_ret (pe_ifExp (pt_cmpR op_eq (pv 2) pe_int (nomark _)) (pe_tup (pa_cons pe_str pa_nil)) (pe_tup (pa_cons pe_str pa_nil)))))
 pss_nil)
 (pss_cons (ps_set (i := 3) sc_leaf.nd rfl (Or.inl rfl) (pe_ix ix_list (pv 1) (pe_call G_draw (hr.mono (by decide)) rfl g_draw F_draw.kp B_draw .nil pass0 (pa_cons (pv 0) (pa_cons (pe_callB call_len_seq (by rfl) z_len PySem.boot_len (pa_cons (pv 1) pa_nil)) pa_nil))) (fun _ _ => rfl)))
 (pss_cons (ps_if (pt_cmpR op_eq (pv 2) pe_int (nomark _))
 (pss_one (ps_ret (pe_tup (pa_cons pe_str (pa_cons (pv 3) pa_nil)))))
 pss_nil)
 (pss_one (ps_ret (pe_tup (pa_cons pe_str (pa_cons (pv 3) (pa_cons (pe_call G_Lparts (hr.mono (by decide)) rfl g_Lparts F_Lparts.kp B_Lparts .nil pass0 (pa_cons (pv 0) (pa_cons (pe_ix ix_list (pe_lst (pa_cons pe_int (pa_cons pe_int (pa_cons pe_int (pa_cons pe_int pa_nil))))) (pe_call G_draw (hr.mono (by decide)) rfl g_draw F_draw.kp B_draw .nil pass0 (pa_cons (pv 0) (pa_cons pe_int pa_nil))) (fun _ _ => rfl)) pa_nil))) pa_nil)))))))))), ?_⟩
    have tx : TxsOk cs := fun c hc => name_ok (nm c hc)
    walk_at "rd"
    refine ⟨p, L, n, 8, rfl, hp, by omega, by decide, by decide, fun d1 H1 g0 g1 k1 p1 => ?_⟩
    walk_at "rd"
    refine ⟨Nat.zero_le _, fun e0 he0 => ?_⟩
    obtain ⟨H2, e2, s2, h2⟩ := new_heap (o := .lst []) he0
    rw [e2]
    have hl2 := s2 _ _ (k1 _ _ rfl hl)
    have k2 := k1.trans (Same.keep s2)
    refine ⟨.list (cs.map PyData.str), .list (([] : List Str).map PyData.str), .lst (SqL.of hl2) (dps_strs cs), .lst (SqL.of h2) .nil, shaped_strsL tx, shaped_strsL (fun c hc => absurd hc List.not_mem_nil), ?_⟩
    rw [show PyData.eqv (.list (cs.map PyData.str)) (.list (([] : List Str).map PyData.str)) = false from by
      cases cs with
      | nil => exact absurd z1 (by decide)
      | cons c cs => rfl]
    refine ⟨false, rfl, iteF ?_⟩
    walk_at "rd"
    have one : ∀ {t : Tr} {c : Str}, c ∈ cs → t.cols = [c] → Of cs t := fun hc e b hb => by
      rw [e] at hb
      rw [List.mem_singleton.mp hb]
      exact hc
    refine ite_d (fun _ => ?_) (fun _ => ?_)
    · walk_at "rd"
      refine ite_d (fun _ => ?_) (fun _ => ?_)
      · walk_at "rd"
        refine ⟨size_of (Nat.le_of_ble_eq_true rfl), fun a ha => ?_⟩
        obtain ⟨H3, e3, s3, h3⟩ := new_heap (o := .tup [.str "always"]) ha
        rw [e3]
        exact k (.ref a) H3 .al (k2.trans (Same.keep s3)) (((p1.up s2).up s3).mono (by omega)) ⟨a, rfl, h3⟩ rfl rfl rfl trivial (fun c hc => by cases hc)
      · walk_at "rd"
        refine ⟨size_of (Nat.le_of_ble_eq_true rfl), fun a ha => ?_⟩
        obtain ⟨H3, e3, s3, h3⟩ := new_heap (o := .tup [.str "never"]) ha
        rw [e3]
        exact k (.ref a) H3 .ne (k2.trans (Same.keep s3)) (((p1.up s2).up s3).mono (by omega)) ⟨a, rfl, h3⟩ rfl rfl rfl trivial (fun c hc => by cases hc)
    · walk_at "rd"
      rw [List.length_map]
      refine ⟨p, L, _, _, rfl, p1.up s2, by omega, by omega, by omega, fun d3 H3 g3 g4 k3 p3 => ?_⟩
      obtain ⟨c, hc, ec⟩ := at_strs g3 g4
      refine i_ixL (k3 _ _ rfl hl2) ec ?_
      have k03 := k2.trans k3
      walk_at "rd"
      refine ite_d (fun _ => ?_) (fun _ => ?_)
      · walk_at "rd"
        refine ⟨size_of (Nat.le_of_ble_eq_true rfl), fun a ha => ?_⟩
        obtain ⟨H4, e4, s4, h4⟩ := new_heap (o := .tup [.str "missing", .str c]) ha
        rw [e4]
        exact k (.ref a) H4 (.mi c) (k03.trans (Same.keep s4)) ((p3.up s4).mono (by omega)) ⟨a, rfl, h4⟩ rfl rfl rfl (nm c hc) (one hc rfl)
      · walk_at "rd"
        refine ⟨size_of (Nat.le_of_ble_eq_true rfl), fun m hm => ?_⟩
        obtain ⟨H4, e4, s4, h4⟩ := new_heap (o := .lst [.int 1, .int 1, .int 2, .int 4]) hm
        rw [e4]
        walk_at "rd"
        refine ⟨p, L, _, 4, rfl, p3.up s4, by omega, by decide, by decide, fun d5 H5 u0 u1 k5 p5 => ?_⟩
        obtain ⟨j, hj, j0, j6⟩ : ∃ j : Int, atI [V.int 1, V.int 1, V.int 2, V.int 4] d5 = some (.int j) ∧ 0 ≤ j ∧ j ≤ 6 := by
          obtain e | e | e | e : d5 = 0 ∨ d5 = 1 ∨ d5 = 2 ∨ d5 = 3 := by omega
          · rw [e]; exact ⟨1, rfl, by decide, by decide⟩
          · rw [e]; exact ⟨1, rfl, by decide, by decide⟩
          · rw [e]; exact ⟨2, rfl, by decide, by decide⟩
          · rw [e]; exact ⟨4, rfl, by decide, by decide⟩
        refine i_ixL (k5 _ _ rfl h4) hj ?_
        walk_at "rd"
        refine ⟨p, L, _, j, rfl, p5, by omega, j0, j6, fun t us ps H6 k6 p6 h6 tu ca fw lz => ?_⟩
        walk_at "rd"
        refine ⟨size_of (Nat.le_of_ble_eq_true rfl), fun a ha => ?_⟩
        obtain ⟨H7, e7, s7, h7⟩ := new_heap (o := .tup [.str "within", .str c, .ref t]) ha
        rw [e7]
        exact k (.ref a) H7 (.wi c ps) ((((k03.trans (Same.keep s4)).trans k5).trans k6).trans (Same.keep s7)) ((p6.up s7).mono (by omega)) ⟨a, t, rfl, h7, ⟨us, s7 _ _ h6, tu.up s7⟩, ca⟩ rfl rfl rfl ⟨nm c hc, ca, fw, lz⟩ (one hc rfl)
end
end Spk

set_option Elab.async false
set_option linter.all false
set_option maxRecDepth 100000
set_option maxHeartbeats 2000000
namespace Spk
open PySem L2 TL
local macro_rules | `(tactic| walk_at "rd") => `(tactic| repeat (first
  | with_reducible refine i_seq ?_ | with_reducible refine i_asg ?_ | with_reducible refine i_ret ?_ | with_reducible refine i_ifS ?_ | with_reducible refine i_if ?_
  | with_reducible refine i_for ?_ | with_reducible refine i_iL ?_ | with_reducible refine i_iT ?_ | with_reducible refine i_ckw ?_ | with_reducible refine i_cm ?_ | with_reducible refine And.intro (rfl : V.ref _ = V.ref _) ?_ | with_reducible refine i_rng1 ?_ | with_reducible refine i_bm ?_ | with_reducible refine i_bm0 ?_
  | with_reducible refine i_drop ?_ | with_reducible refine i_next ?_
  | with_reducible refine i_var rfl ?_ | with_reducible refine i_c ?_ | with_reducible refine i_op ?_ | with_reducible refine i_un ?_ | with_reducible refine i_name ?_
  | with_reducible refine i_rI0 ?_ | with_reducible refine i_rU ?_ | with_reducible refine i_rEq rfl ?_ | with_reducible refine i_rNe rfl ?_
  | with_reducible refine i_test ?_ | with_reducible refine i_tB ?_ | with_reducible refine i_and ?_ | with_reducible refine i_or ?_ | with_reducible refine i_not ?_
  | with_reducible refine i_andV ?_ | with_reducible refine i_orV ?_ | with_reducible refine i_notV ?_
  | with_reducible refine i_cons ?_ | with_reducible refine i_nil ?_ | with_reducible refine i_cb ?_ | with_reducible refine i_call ?_ | with_reducible refine i_bl ?_
  | with_reducible refine i_tup ?_ | with_reducible refine i_lst ?_ | with_reducible refine i_par ?_ | with_reducible refine i_gcons ?_ | with_reducible refine i_gnil ?_
  | with_reducible refine And.intro (rfl : V.non = V.non) ?_ | with_reducible refine i_ixT (by assumption) rfl ?_ | with_reducible refine i_ixL (by assumption) rfl ?_ | with_reducible refine i_gtup (by assumption) rfl ?_
  | with_reducible refine i_gsub ?_
  | with_reducible refine Or.inl (Exists.intro _ (And.intro (rfl : [V.int _] = [V.int _]) ?_)) | with_reducible refine Exists.intro _ (And.intro (rfl : [V.int _] = [V.int _]) ?_)
  | with_reducible refine Or.inr (Exists.intro _ (And.intro (rfl : [V.bl _] = [V.bl _]) ?_))
  | with_reducible refine Exists.intro _ (Exists.intro _ (And.intro (rfl : [V.int _, V.int _] = [V.int _, V.int _]) ?_))
  | with_reducible refine Exists.intro _ (Exists.intro _ (And.intro (rfl : [V.ref _] = [V.ref _]) (And.intro (Or.inl (SqL.of (by assumption))) ?_)))
  | with_reducible refine i_rI (show (0 : Int) < _ by assumption) ?_ | with_reducible refine i_rI (show (0 : Int) < _ by decide) ?_
  | with_reducible refine i_rI (pow_ok (Nat.le_of_ble_eq_true rfl) (Nat.le_of_ble_eq_true rfl)) ?_
  | with_reducible refine i_rI (cmulL rfl) ?_))
/-! ### trees joined in a drawn order -/
def totM (ts : List Tr) : Nat := (ts.map Tr.many).sum
def totN (ts : List Tr) : Nat := (ts.map Tr.nots).sum
theorem totM_len : ∀ ts : List Tr, ts.length ≤ totM ts
  | [] => Nat.le_refl _
  | t :: ts => by
    have a := many_pos t
    have b := totM_len ts
    show ts.length + 1 ≤ t.many + totM ts
    omega
theorem totM_app (a b : List Tr) : totM (a ++ b) = totM a + totM b := by simp [totM]
theorem totN_app (a b : List Tr) : totN (a ++ b) = totN a + totN b := by simp [totN]
/-- a list of trees over these columns -/
structure TrsOk (cs : List Str) (ts : List Tr) : Prop where
  good : ∀ t, t ∈ ts → GoodT t
  of : ∀ t, t ∈ ts → Of cs t
theorem of_two {cs : List Str} {l r : Tr} (a : Of cs l) (b : Of cs r) : ∀ c, c ∈ l.cols ++ r.cols → c ∈ cs := fun c hc => by
  rcases List.mem_append.mp hc with hc | hc
  · exact a c hc
  · exact b c hc
theorem TrsP.app {H : Hp} : ∀ {ts : List Tr} {us : List V} {ts' : List Tr} {us' : List V}, TrsP H ts us → TrsP H ts' us' → TrsP H (ts ++ ts') (us ++ us')
  | _, _, _, _, .nil, b => b
  | _, _, _, _, .cons r t, b => .cons r (TrsP.app t b)
theorem trs_take {H : Hp} : ∀ {ts : List Tr} {us : List V} (k : Nat), TrsP H ts us → TrsP H (ts.take k) (us.take k)
  | _, _, 0, _ => by simp only [List.take_zero]; exact .nil
  | _, _, k + 1, .nil => .nil
  | _, _, k + 1, .cons r t => .cons r (trs_take k t)
theorem trs_drop {H : Hp} : ∀ {ts : List Tr} {us : List V} (k : Nat), TrsP H ts us → TrsP H (ts.drop k) (us.drop k)
  | _, _, 0, h => h
  | _, _, k + 1, .nil => .nil
  | _, _, k + 1, .cons r t => trs_drop k t
theorem trs_get {H : Hp} : ∀ {ts : List Tr} {us : List V} {k : Nat} (_ : TrsP H ts us) (hk : k < ts.length), ∃ v, us[k]? = some v ∧ TreeAt H ts[k] v
  | _, _, 0, .cons r t, hk => ⟨_, rfl, r⟩
  | _, _, k + 1, .cons r t, hk => trs_get t (Nat.lt_of_succ_lt_succ hk)
theorem trs_set {H : Hp} {t : Tr} {v : V} (h : TreeAt H t v) : ∀ {ts : List Tr} {us : List V} (k : Nat), TrsP H ts us → TrsP H (ts.set k t) (us.set k v)
  | _, _, 0, .nil => .nil
  | _, _, 0, .cons r t => .cons h t
  | _, _, k + 1, .nil => .nil
  | _, _, k + 1, .cons r t => .cons r (trs_set h k t)
theorem TrsP.keep {H H' : Hp} {ts : List Tr} {us : List V} (h : TrsP H ts us) (e : Keep H H') : TrsP H' ts us := Paired.mapP h fun _ _ z => z.keep e
theorem split_at {ts : List Tr} {k : Nat} (h : k + 1 < ts.length) : ts = ts.take k ++ (ts[k] :: ts[k + 1] :: ts.drop (k + 2)) := by
  have e1 : ts.drop k = ts[k] :: ts.drop (k + 1) := List.drop_eq_getElem_cons (by omega)
  have e2 : ts.drop (k + 1) = ts[k + 1] :: ts.drop (k + 2) := List.drop_eq_getElem_cons h
  rw [← e2, ← e1, List.take_append_drop]
theorem split_one {ts : List Tr} {k : Nat} (h : k < ts.length) : ts = ts.take k ++ (ts[k] :: ts.drop (k + 1)) := by
  rw [← List.drop_eq_getElem_cons h, List.take_append_drop]
theorem set_one {ts : List Tr} {k : Nat} (h : k < ts.length) (t : Tr) : ts.set k t = ts.take k ++ (t :: ts.drop (k + 1)) := by
  rw [List.set_eq_take_append_cons_drop, if_pos h]
/-- what may be written: nothing that is kept stands there -/
def NP (H : Hp) (d : Addr) : Prop := ∀ o, H d = some o → penny o = true
theorem NP.of {H : Hp} {d : Addr} (h : H d = none) : NP H d := fun o e => by rw [h] at e; cases e
theorem Keep.np {H H' : Hp} {d : Addr} (k : Keep H H') (h : H' d = none) : NP H d := fun o e => by
  cases z : penny o with
  | true => rfl
  | false => rw [k _ _ z e] at h; cases h
theorem Keep.mutN {H0 H : Hp} {d : Addr} {o : HO} (e : Keep H0 H) (h : NP H0 d) : Keep H0 (upd H d o) := fun b u hu hb => by
  rw [upd_ne (fun z => by rw [z] at hb; rw [h _ hb] at hu; cases hu)]
  exact e b u hu hb
theorem cut_take (us : List V) (j : Nat) : cutV us none (some (j : Int)) = us.take j := by
  unfold cutV
  rw [HT.sIx_none, HT.sIx_nat, List.drop_zero, Nat.sub_zero, ← List.take_eq_take_min]
theorem cut_drop (us : List V) (j : Nat) : cutV us (some (j : Int)) none = us.drop j := by
  unfold cutV
  rw [HT.sIx_none, HT.sIx_nat]
  by_cases h : j ≤ us.length
  · rw [Nat.min_eq_left h, List.take_of_length_le (by rw [List.length_drop]; exact Nat.le_refl _)]
  · rw [Nat.min_eq_right (by omega), List.drop_of_length_le (Nat.le_refl _), List.drop_of_length_le (by omega), List.take_nil]
theorem ixN_nat {n j : Nat} (h : j < n) : ixN n (j : Int) = some j := by
  unfold ixN
  rw [if_pos (Int.natCast_nonneg _), if_pos (by omega)]
  rfl
section
variable {P : Program} {w : World} {K : PySem.W.Frag} {mg : Str → Option Value} {base : Heap}
abbrev s_tree : Stmt := top 55
theorem sc_tree : FnScope ["_law_pen_here", "_law_columns", "_law_many", "_law_trees", "_law_bars", "_law_at", "_law_word", "_law_k"] ["_law_pen_here", "_law_columns", "_law_many"] (defScope s_tree) := ⟨rfl, rfl, rfl, by decide +kernel, rfl, by decide +kernel, by decide +kernel⟩
def sp_ltree : Sp := fun vs H Q _ => ∃ p L n l cs, ∃ m : Nat, vs = [.ref p, .ref l, .int (m : Int)] ∧ 1 ≤ m ∧ m ≤ 12 ∧ Pen H p L n ∧ n ≤ 8100 ∧ H l = some (.lst (cs.map V.str)) ∧ 1 ≤ cs.length ∧ cs.length ≤ 10 ∧ (∀ c, c ∈ cs → IsName c) ∧
  ∀ v H' t, Keep H H' → Pen H' p L (n + 710) → TreeAt H' t v → FitT t → Of cs t → Q v H'
theorem fit_of {t : Tr} (g : GoodT t) (m : t.many ≤ 12) (n : t.nots ≤ 6) : FitT t := by
  have a := words_many t
  have b := cols_many t
  have c := sd_deep t
  have d := deep_many t
  exact ⟨g, by omega, by omega, by omega, by omega, by omega, n⟩
structure GInv (H0 : Hp) (p L l : Addr) (n1 : Nat) (m : Nat) (cs : List Str) (k : Nat) (σ : L2.St) (H : Hp) : Prop where
  ex : ∃ (q : Addr) (us : List V) (ts : List Tr) (b : Nat) (x5 x6 x7 : Option V), σ = [some (.ref p), some (.ref l), some (.int (m : Int)), some (.ref q), some (.int (b : Int)), x5, x6, x7] ∧ k = us.length + b ∧ k ≤ 18 ∧ Keep H0 H ∧ NP H0 q ∧ L ≠ q ∧ Pen H p L (n1 + 4 * (18 - k)) ∧ H q = some (.lst us) ∧ TrsP H ts us ∧ TrsOk cs ts ∧
    1 ≤ ts.length ∧ totM ts = m ∧ b ≤ 6 ∧ totN ts + b = 6
theorem ok_ltree {f fD fR : Addr} {fd fdD fdR : FuncData} (F : Fun K "_law_tree" "_law_tree" s_tree f fd) (F_draw : Fun K "_law_draw" "_law_draw" s_draw fD fdD) (B_draw : Binds K fdD ["_law_pen_here", "_law_many"] []) (g_draw : mg "_law_draw" = some (.ref fD))
    (G_draw : FnOk P w K mg base CX0 1 fD fdD ["_law_pen_here", "_law_many"] sp_draw) (F_leaf : Fun K "_law_leaf" "_law_leaf" s_leaf fR fdR) (B_leaf : Binds K fdR ["_law_pen_here", "_law_columns"] []) (g_leaf : mg "_law_leaf" = some (.ref fR))
    (G_leaf : FnOk P w K mg base CX0 4 fR fdR ["_law_pen_here", "_law_columns"] sp_leaf) (z_len : mg "len" = none) (z_int : mg "int" = none) (z_range : mg "range" = none) : FnOk P w K mg base CX0 5 f fd ["_law_pen_here", "_law_columns", "_law_many"] sp_ltree := by
  refine F.ok sc_tree (fun vs H Q E h => ?_) (fun cdv A outer s H vs Q E hr h => ?_)
  · obtain ⟨p, L, n, l, cs, m, rfl, _⟩ := h
    rfl
  · obtain ⟨p, L, n, l, cs, m, rfl, m1, m12, hp, hn, hl, z1, z2, nm, k⟩ := h
    refine ⟨_, (pss_cons (ps_setLc (i := 3) (own := [("_law_k", 7)]) (g := gName 7) (tt := tYes) rfl sc_tree.nd rfl rfl (sw_true rfl rfl rfl (by decide +kernel)) (pi_range1 (by rfl) z_range (pa_cons (pv 2) pa_nil)) (blkOk_by (own := [("_law_k", 7)]) (N := ["_law_pen_here", "_law_columns", "_law_many", "_law_trees", "_law_bars", "_law_at", "_law_word", "_law_k"]) (sc := defScope s_tree) (by decide +kernel)) (fun _ _ _ _ _ => pg_name (i := 7) sc_tree.nd rfl (Or.inl rfl)) (fun _ _ _ _ _ => pts_nil) (fun _ _ _ _ _ => (pe_call G_leaf (hr.mono (by decide)) rfl g_leaf F_leaf.kp B_leaf .nil pass0 (pa_cons (pv 0) (pa_cons (pv 1) pa_nil)))))
 (pss_cons (ps_set (i := 4) sc_tree.nd rfl (Or.inl rfl) pe_int)
 (pss_cons (ps_while PassesOwn.never (PW.pt (pw_or (pt_cmpR op_gt (pe_callB call_len_seq (by rfl) z_len PySem.boot_len (pa_cons (pv 3) pa_nil)) pe_int (nomark _)) (pw_or1 (PW.pt (pw_and (pt_cmpR op_gt (pv 4) pe_int (nomark _)) (pw_and1 (pt_cmpR op_eq (pe_call G_draw (hr.mono (by decide)) rfl g_draw F_draw.kp B_draw .nil pass0 (pa_cons (pv 0) (pa_cons pe_int pa_nil))) pe_int (nomark _))))))))
 (pss_cons (ps_set (i := 5) sc_tree.nd rfl (Or.inl rfl) (pe_call G_draw (hr.mono (by decide)) rfl g_draw F_draw.kp B_draw .nil pass0 (pa_cons (pv 0) (pa_cons (pe_callB call_len_seq (by rfl) z_len PySem.boot_len (pa_cons (pv 3) pa_nil)) pa_nil))))
 (pss_one (ps_if (PW.pt (pw_or (pt_cmpR op_eq (pe_callB call_len_seq (by rfl) z_len PySem.boot_len (pa_cons (pv 3) pa_nil)) pe_int (nomark _)) (pw_or1 (PW.pt (pw_and (pt_cmpR op_gt (pv 4) pe_int (nomark _)) (pw_and1 (pt_cmpR op_eq (pe_call G_draw (hr.mono (by decide)) rfl g_draw F_draw.kp B_draw .nil pass0 (pa_cons (pv 0) (pa_cons pe_int pa_nil))) pe_int (nomark _))))))))
 (pss_cons (ps_asg (pe_tup (pa_cons pe_str (pa_cons (pe_ix ix_list (pv 3) (pv 5) (fun _ _ => rfl)) pa_nil))) (pg_sub (pv 3) (pv 5) set_list))
 (pss_one (ps_set (i := 4) sc_tree.nd rfl (Or.inl rfl) (pe_op op_sub (pv 4) pe_int))))
 (pss_cons (ps_set (i := 5) sc_tree.nd rfl (Or.inl rfl) (pe_op op_mod (pe_callTy call_int1 (by rfl) z_int (by decide +kernel) (pa_cons (pv 5) pa_nil)) (pe_op op_sub (pe_callB call_len_seq (by rfl) z_len PySem.boot_len (pa_cons (pv 3) pa_nil)) pe_int)))
 (pss_cons (ps_set (i := 6) sc_tree.nd rfl (Or.inl rfl) (pe_ix ix_list (pe_lst (pa_cons pe_str (pa_cons pe_str pa_nil))) (pe_call G_draw (hr.mono (by decide)) rfl g_draw F_draw.kp B_draw .nil pass0 (pa_cons (pv 0) (pa_cons pe_int pa_nil))) (fun _ _ => rfl)))
 (pss_one (ps_set (i := 3) sc_tree.nd rfl (Or.inl rfl) (pe_op op_cat (pe_op op_cat (pe_slice sl_list (pv 3) po_none (po_some (pv 5))) (pe_lst (pa_cons (pe_tup (pa_cons (pv 6) (pa_cons (pe_ix ix_list (pv 3) (pv 5) (fun _ _ => rfl)) (pa_cons (pe_ix ix_list (pv 3) (pe_op op_add (pv 5) pe_int) (fun _ _ => rfl)) pa_nil)))) pa_nil))) (pe_slice sl_list (pv 3) (po_some (pe_op op_add (pv 5) pe_int)) po_none))))))))))
 (pss_one (ps_ret (pe_ix ix_list (pv 3) pe_int (fun _ _ => rfl))))))), ?_⟩
    walk_at "rd"
    unfold tLc
    walk_at "rd"
    refine ⟨by omega, by omega, fun D hD => ?_⟩
    obtain ⟨H1, e1, s1, h1⟩ := new_heap (o := .lst []) hD
    have pD := hp.ne hD
    refine lc_range (lo := 0) (n := m) (fun j H' => ∃ us ts, Keep H H' ∧ Pen H' p L (n + 53 * j) ∧ H' D = some (.lst us) ∧ TrsP H' ts us ∧ TrsOk cs ts ∧ ts.length = j ∧ totM ts = j ∧ totN ts = 0) ⟨[], [], by rw [e1]; exact Same.keep s1, by rw [e1]; exact hp.up s1, by rw [e1]; exact h1, .nil, ⟨fun t h => absurd h List.not_mem_nil, fun t h => absurd h List.not_mem_nil⟩, rfl, rfl, rfl⟩ ?_ ?_
    · rintro j H2 hj ⟨us, ts, k2, p2, h2, pt, ok, lt, tm, tn⟩
      walk_at "rd"
      refine ⟨rfl, i_yes (iteT ?_)⟩
      walk_at "rd"
      refine ⟨p, L, _, l, cs, rfl, p2, by omega, k2 _ _ rfl hl, z1, z2, nm, fun v H3 t k3 p3 tt c1 _ c3 gt ot => ?_⟩
      have h3 := k3 _ _ rfl h2
      have lu := Paired.length pt
      have fx : Fix H3 (upd H3 D (.lst (us ++ [v]))) := Fix.put h3
      refine ⟨_, h3, size_lt (by omega), us ++ [v], ts ++ [t], Keep.mut (k2.trans k3) hD, (p3.mut h3 pD).mono (by omega), upd_same, ((TrsP.keep pt k3).fix fx).app (.cons (tt.fix fx) .nil), ⟨fun x hx => ?_, fun x hx => ?_⟩, by rw [List.length_append, lt]; rfl, ?_, ?_⟩
      · rcases List.mem_append.mp hx with hx | hx
        · exact ok.good x hx
        · rw [List.mem_singleton.mp hx]; exact gt
      · rcases List.mem_append.mp hx with hx | hx
        · exact ok.of x hx
        · rw [List.mem_singleton.mp hx]; exact ot
      · rw [totM_app, tm]; show j + (t.many + 0) = j + 1; omega
      · rw [totN_app, tn]; show 0 + (t.nots + 0) = 0; omega
    · rintro H2 ⟨us, ts, k2, p2, h2, pt, ok, lt, tm, tn⟩
      walk_at "rd"
      have lu := Paired.length pt
      refine ⟨GInv H p L l (n + 53 * m) m cs, ⟨us.length + 6, ⟨D, us, ts, 6, _, _, _, rfl, rfl, by omega, k2, NP.of hD, pD, p2.mono (by omega), h2, pt, ok, by omega, by omega, by decide, by omega⟩⟩, ?_⟩
      rintro i σ H3 ⟨q, us, ts, b, x5, x6, x7, rfl, rfl, h18, k3, nq, Lq, p3, h3, pt, ok, l1, tm, b6, tn⟩
      have lu := Paired.length pt
      have lm := totM_len ts
      walk_at "rd"
      -- the end
      have fin : ∀ H4, Keep H3 H4 → ts.length = 1 → Pen H4 p L (n + 53 * m + 4 * (18 - (us.length + b)) + 1) → ∃ v, atI us 0 = some v ∧ H4 q = some (.lst us) ∧ Q v H4 := by
        intro H4 k4 e1 p4
        match ts, us, pt, e1 with
        | [t], [v], .cons r .nil, _ =>
          refine ⟨v, rfl, k4 _ _ rfl h3, ?_⟩
          have tm' : t.many = m := by simpa [totM] using tm
          have tn' : t.nots + b = 6 := by simpa [totN] using tn
          exact k v H4 t (k3.trans k4) (p4.mono (by omega)) (r.keep k4) (fit_of (ok.good t (List.mem_cons_self ..)) (by omega) (by omega)) (ok.of t (List.mem_cons_self ..))
      refine ite_d (fun hA => ?_) (fun hA => ?_)
      · refine iteT ⟨_, fun σ' H' h => h, ?_⟩
        have k4 := Keep.refl H3
        have p4 := p3.mono (m := n + 53 * m + 4 * (18 - (us.length + b)) + 1) (by omega)
        have hb : 2 ≤ us.length ∨ 1 ≤ b := .inl (by omega)
        walk_at "rd"
        refine ⟨p, L, _, _, rfl, p4, by omega, by omega, by omega, fun d H5 d0 d1 k5 p5 => ?_⟩
        have k45 := k4.trans k5
        have h5 := k45 _ _ rfl h3
        walk_at "rd"
        refine ite_d (fun hL => ?_) (fun hL => ?_)
        · have hL1 : us.length = 1 := by have := V.int.inj hL; omega
          refine iteT ?_
          walk_at "rd"
          obtain ⟨b', rfl⟩ : ∃ b', b = b' + 1 := ⟨b - 1, by omega⟩
          obtain ⟨j, hj, rfl⟩ : ∃ j : Nat, j < us.length ∧ d = (j : Int) := ⟨d.toNat, by omega, by omega⟩
          obtain ⟨v, ev, tv⟩ := trs_get (TrsP.keep pt k45) (k := j) (by omega)
          refine i_ixL h5 (atI_nat ev) ?_
          walk_at "rd"
          refine ⟨size_of (Nat.le_of_ble_eq_true rfl), fun a ha => ?_⟩
          obtain ⟨H7, e7, s7, h7⟩ := new_heap (o := .tup [.str "not", v]) ha
          rw [e7]
          have h7q := s7 _ _ h5
          walk_at "rd"
          refine i_setL h7q (ixN_nat hj) ?_
          walk_at "rd"
          rw [show (((b' + 1 : Nat) : Int) - 1) = (b' : Int) from by omega]
          have fx : Fix H7 (upd H7 q (.lst (us.set j (.ref a)))) := Fix.put h7q
          have hjt : j < ts.length := by omega
          have tv7 : TreeAt (upd H7 q (.lst (us.set j (.ref a)))) (.no ts[j]) (.ref a) := ⟨a, v, rfl, fx _ _ rfl h7, (tv.up s7).fix fx⟩
          have eM : totM (ts.set j (.no ts[j])) = totM ts ∧ totN (ts.set j (.no ts[j])) = totN ts + 1 := by
            have e := split_one hjt
            have e2 := set_one hjt (.no ts[j])
            rw [e2]
            constructor
            · conv => rhs; rw [e]
              rw [totM_app, totM_app]
              rfl
            · conv => rhs; rw [e]
              rw [totN_app, totN_app]
              show totN (ts.take j) + (ts[j].nots + 1 + totN (ts.drop (j + 1))) = totN (ts.take j) + (ts[j].nots + totN (ts.drop (j + 1))) + 1
              omega
          refine ⟨us.length + b', by omega, ⟨q, us.set j (.ref a), ts.set j (.no ts[j]), b', _, _, _, rfl, by rw [List.length_set], by omega, Keep.mutN (k3.trans (k45.trans (Same.keep s7))) nq, nq, Lq, ((p5.up s7).mut h7q Lq).mono (by omega), upd_same, trs_set tv7 j (((TrsP.keep pt k45).keep (Same.keep s7)).fix fx), ⟨fun x hxx => ?_, fun x hxx => ?_⟩, by rw [List.length_set]; exact l1, by rw [eM.1]; exact tm, by omega, by rw [eM.2]; omega⟩⟩
          · rcases List.mem_or_eq_of_mem_set hxx with h | h
            · exact ok.good x h
            · rw [h]; exact (show GoodT ts[j] from ok.good _ (List.getElem_mem hjt))
          · rcases List.mem_or_eq_of_mem_set hxx with h | h
            · exact ok.of x h
            · rw [h]; exact (show Of cs ts[j] from ok.of _ (List.getElem_mem hjt))
        · have hL2 : 2 ≤ us.length := by
            have : ¬ us.length = 1 := fun z => hL (by rw [z]; rfl)
            omega
          walk_at "rd"
          refine ite_d (fun hb0 => ?_) (fun hb0 => ?_)
          · walk_at "rd"
            refine ⟨p, L, _, 4, rfl, p5, by omega, by decide, by decide, fun d6 H6 _ _ k6 p6 => ?_⟩
            have k46 := k45.trans k6
            have h6 := k46 _ _ rfl h3
            walk_at "rd"
            refine ite_d (fun _ => ?_) (fun _ => ?_)
            · walk_at "rd"
              obtain ⟨b', rfl⟩ : ∃ b', b = b' + 1 := ⟨b - 1, by omega⟩
              obtain ⟨j, hj, rfl⟩ : ∃ j : Nat, j < us.length ∧ d = (j : Int) := ⟨d.toNat, by omega, by omega⟩
              obtain ⟨v, ev, tv⟩ := trs_get (TrsP.keep pt k46) (k := j) (by omega)
              refine i_ixL h6 (atI_nat ev) ?_
              walk_at "rd"
              refine ⟨size_of (Nat.le_of_ble_eq_true rfl), fun a ha => ?_⟩
              obtain ⟨H7, e7, s7, h7⟩ := new_heap (o := .tup [.str "not", v]) ha
              rw [e7]
              have h7q := s7 _ _ h6
              walk_at "rd"
              refine i_setL h7q (ixN_nat hj) ?_
              walk_at "rd"
              rw [show (((b' + 1 : Nat) : Int) - 1) = (b' : Int) from by omega]
              have fx : Fix H7 (upd H7 q (.lst (us.set j (.ref a)))) := Fix.put h7q
              have hjt : j < ts.length := by omega
              have tv7 : TreeAt (upd H7 q (.lst (us.set j (.ref a)))) (.no ts[j]) (.ref a) := ⟨a, v, rfl, fx _ _ rfl h7, (tv.up s7).fix fx⟩
              have eM : totM (ts.set j (.no ts[j])) = totM ts ∧ totN (ts.set j (.no ts[j])) = totN ts + 1 := by
                have e := split_one hjt
                have e2 := set_one hjt (.no ts[j])
                rw [e2]
                constructor
                · conv => rhs; rw [e]
                  rw [totM_app, totM_app]
                  rfl
                · conv => rhs; rw [e]
                  rw [totN_app, totN_app]
                  show totN (ts.take j) + (ts[j].nots + 1 + totN (ts.drop (j + 1))) = totN (ts.take j) + (ts[j].nots + totN (ts.drop (j + 1))) + 1
                  omega
              refine ⟨us.length + b', by omega, ⟨q, us.set j (.ref a), ts.set j (.no ts[j]), b', _, _, _, rfl, by rw [List.length_set], by omega, Keep.mutN (k3.trans (k46.trans (Same.keep s7))) nq, nq, Lq, ((p6.up s7).mut h7q Lq).mono (by omega), upd_same, trs_set tv7 j (((TrsP.keep pt k46).keep (Same.keep s7)).fix fx), ⟨fun x hxx => ?_, fun x hxx => ?_⟩, by rw [List.length_set]; exact l1, by rw [eM.1]; exact tm, by omega, by rw [eM.2]; omega⟩⟩
              · rcases List.mem_or_eq_of_mem_set hxx with h | h
                · exact ok.good x h
                · rw [h]; exact (show GoodT ts[j] from ok.good _ (List.getElem_mem hjt))
              · rcases List.mem_or_eq_of_mem_set hxx with h | h
                · exact ok.of x h
                · rw [h]; exact (show Of cs ts[j] from ok.of _ (List.getElem_mem hjt))
            · walk_at "rd"
              refine i_rI (show (0 : Int) < (us.length : Int) - 1 by omega) ?_
              walk_at "rd"
              have m0 := Int.emod_nonneg d (b := (us.length : Int) - 1) (by omega)
              have m1 := Int.emod_lt_of_pos d (b := (us.length : Int) - 1) (by omega)
              generalize d % ((us.length : Int) - 1) = e0 at *
              obtain ⟨j, rfl⟩ : ∃ j : Nat, e0 = (j : Int) := ⟨e0.toNat, by omega⟩
              refine ⟨size_of (Nat.le_of_ble_eq_true rfl), fun a ha => ?_⟩
              obtain ⟨H7, e7, s7, h7⟩ := new_heap (o := .lst [.str "and", .str "or"]) ha
              rw [e7]
              walk_at "rd"
              refine ⟨p, L, _, 2, rfl, p6.up s7, by omega, by decide, by decide, fun d8 H8 u0 u1 k8 p8 => ?_⟩
              obtain ⟨wd, ew, hwd⟩ : ∃ wd : Str, atI [V.str "and", V.str "or"] d8 = some (.str wd) ∧ (wd = "and" ∨ wd = "or") := by
                obtain e | e : d8 = 0 ∨ d8 = 1 := by omega
                · rw [e]; exact ⟨"and", rfl, .inl rfl⟩
                · rw [e]; exact ⟨"or", rfl, .inr rfl⟩
              refine i_ixL (k8 _ _ rfl h7) ew ?_
              have k8' := (k46.trans (Same.keep s7)).trans k8
              have h8 := k8 _ _ rfl (s7 _ _ h6)
              have pt8 := TrsP.keep pt k8'
              walk_at "rd"
              refine i_sl ?_
              walk_at "rd"
              refine i_noPart (i_part ?_)
              walk_at "rd"
              refine ⟨_, rfl, q, us, rfl, SqL.of h8, fun p9 hp9 => ?_⟩
              rw [cut_take]
              obtain ⟨H9, e9, s9, h9⟩ := new_heap (o := .lst (us.take j)) hp9
              rw [e9]
              have hj0 : j < ts.length := by omega
              have hj1 : j + 1 < ts.length := by omega
              obtain ⟨v1, ev1, tv1⟩ := trs_get (pt8.keep (Same.keep s9)) (k := j) hj0
              obtain ⟨v2, ev2, tv2⟩ := trs_get (pt8.keep (Same.keep s9)) (k := j + 1) hj1
              have h9q := s9 _ _ h8
              walk_at "rd"
              refine i_ixL h9q (atI_nat ev1) ?_
              walk_at "rd"
              refine i_ixL h9q (v := v2) (by rw [show (j : Int) + 1 = ((j + 1 : Nat) : Int) from by omega]; exact atI_nat ev2) ?_
              walk_at "rd"
              refine ⟨size_of (Nat.le_of_ble_eq_true rfl), fun c hc => ?_⟩
              obtain ⟨H10, e10, s10, h10⟩ := new_heap (o := .tup [.str wd, v1, v2]) hc
              rw [e10]
              walk_at "rd"
              refine ⟨size_of (Nat.le_of_ble_eq_true rfl), fun c2 hc2 => ?_⟩
              obtain ⟨H11, e11, s11, h11⟩ := new_heap (o := .lst [.ref c]) hc2
              rw [e11]
              have lt : us.length ≤ 1000 := by omega
              refine ⟨p9, c2, _, _, rfl, rfl, s11 _ _ (s10 _ _ h9), h11, size_of (by rw [List.length_take]; show min j us.length + 1 ≤ _; omega), fun c3 hc3 => ?_⟩
              obtain ⟨H12, e12, s12, h12⟩ := new_heap (o := .lst (us.take j ++ [.ref c])) hc3
              rw [e12]
              have s912 : Same H9 H12 := fun b o z => s12 _ _ (s11 _ _ (s10 _ _ z))
              walk_at "rd"
              refine i_sl ?_
              walk_at "rd"
              refine i_part ?_
              walk_at "rd"
              refine ⟨_, rfl, i_noPart ?_⟩
              refine ⟨q, us, rfl, SqL.of (s912 _ _ h9q), fun p13 hp13 => ?_⟩
              rw [show (j : Int) + 2 = ((j + 2 : Nat) : Int) from by omega, cut_drop]
              obtain ⟨H13, e13, s13, h13⟩ := new_heap (o := .lst (us.drop (j + 2))) hp13
              rw [e13]
              refine ⟨c3, p13, _, _, rfl, rfl, s13 _ _ h12, h13, size_of (by rw [List.length_append, List.length_take, List.length_drop]; show min j us.length + 1 + _ ≤ _; omega), fun c4 hc4 => ?_⟩
              obtain ⟨H14, e14, s14, h14⟩ := new_heap (o := .lst (us.take j ++ [.ref c] ++ us.drop (j + 2))) hc4
              rw [e14]
              have s1014 : Same H10 H14 := fun b o z => s14 _ _ (s13 _ _ (s12 _ _ (s11 _ _ z)))
              have s914 : Same H9 H14 := fun b o z => s1014 _ _ (s10 _ _ z)
              have k13 := k8'.trans (fun b o w z => s13 _ _ (s912 _ _ (s9 _ _ z)))
              have k14 := k8'.trans (fun b o w z => s914 _ _ (s9 _ _ z))
              have p13' : Pen H13 p L _ := p8.up (fun b o z => s13 _ _ (s912 _ _ (s9 _ _ z)))
              have e := split_at hj1
              obtain ⟨nt, tn3, gn, on, mn, nn⟩ : ∃ nt : Tr, TreeAt H14 nt (.ref c) ∧ GoodT nt ∧ Of cs nt ∧ nt.many = ts[j].many + ts[j + 1].many ∧ nt.nots = ts[j].nots + ts[j + 1].nots := by
                have g1 := ok.good _ (List.getElem_mem hj0)
                have g2 := ok.good _ (List.getElem_mem hj1)
                have o1 := ok.of _ (List.getElem_mem hj0)
                have o2 := ok.of _ (List.getElem_mem hj1)
                rcases hwd with rfl | rfl
                · exact ⟨.an ts[j] ts[j + 1], ⟨c, v1, v2, rfl, s1014 _ _ h10, tv1.up s914, tv2.up s914⟩, ⟨g1, g2⟩, of_two o1 o2, rfl, rfl⟩
                · exact ⟨.ou ts[j] ts[j + 1], ⟨c, v1, v2, rfl, s1014 _ _ h10, tv1.up s914, tv2.up s914⟩, ⟨g1, g2⟩, of_two o1 o2, rfl, rfl⟩
              have pt14 := TrsP.keep pt k14
              have eM : totM ts = totM (ts.take j) + (nt.many + totM (ts.drop (j + 2))) := by
                conv => lhs; rw [e]
                rw [totM_app, mn]
                show totM (ts.take j) + (ts[j].many + (ts[j + 1].many + totM (ts.drop (j + 2)))) = _
                omega
              have eN : totN ts = totN (ts.take j) + (nt.nots + totN (ts.drop (j + 2))) := by
                conv => lhs; rw [e]
                rw [totN_app, nn]
                show totN (ts.take j) + (ts[j].nots + (ts[j + 1].nots + totN (ts.drop (j + 2)))) = _
                omega
              have ln : (us.take j ++ [V.ref c] ++ us.drop (j + 2)).length + 1 = us.length := by
                rw [List.length_append, List.length_append, List.length_take, List.length_drop]
                show min j us.length + 1 + _ + 1 = _
                omega
              refine ⟨_, ?_, ⟨c4, _, ts.take j ++ [nt] ++ ts.drop (j + 2), b, _, _, _, rfl, rfl, by omega, k3.trans k14, Keep.np (k3.trans k13) hc4, p13'.ne hc4, (p13'.up s14).mono (by omega), h14, ((trs_take j pt14).app (.cons tn3 .nil)).app (trs_drop (j + 2) pt14), ⟨fun x hxx => ?_, fun x hxx => ?_⟩, by rw [List.length_append, List.length_append]; show 1 ≤ _ + 1 + _; omega, ?_, b6, ?_⟩⟩
              · omega
              · rcases List.mem_append.mp hxx with h | h
                · rcases List.mem_append.mp h with h | h
                  · exact ok.good x (List.mem_of_mem_take h)
                  · rw [List.mem_singleton.mp h]; exact gn
                · exact ok.good x (List.mem_of_mem_drop h)
              · rcases List.mem_append.mp hxx with h | h
                · rcases List.mem_append.mp h with h | h
                  · exact ok.of x (List.mem_of_mem_take h)
                  · rw [List.mem_singleton.mp h]; exact on
                · exact ok.of x (List.mem_of_mem_drop h)
              · rw [totM_app, totM_app]
                show totM (ts.take j) + (nt.many + 0) + totM (ts.drop (j + 2)) = m
                omega
              · rw [totN_app, totN_app]
                show totN (ts.take j) + (nt.nots + 0) + totN (ts.drop (j + 2)) + b = 6
                omega
          · refine iteF ?_
            walk_at "rd"
            refine i_rI (show (0 : Int) < (us.length : Int) - 1 by omega) ?_
            walk_at "rd"
            have m0 := Int.emod_nonneg d (b := (us.length : Int) - 1) (by omega)
            have m1 := Int.emod_lt_of_pos d (b := (us.length : Int) - 1) (by omega)
            generalize d % ((us.length : Int) - 1) = e0 at *
            obtain ⟨j, rfl⟩ : ∃ j : Nat, e0 = (j : Int) := ⟨e0.toNat, by omega⟩
            refine ⟨size_of (Nat.le_of_ble_eq_true rfl), fun a ha => ?_⟩
            obtain ⟨H7, e7, s7, h7⟩ := new_heap (o := .lst [.str "and", .str "or"]) ha
            rw [e7]
            walk_at "rd"
            refine ⟨p, L, _, 2, rfl, p5.up s7, by omega, by decide, by decide, fun d8 H8 u0 u1 k8 p8 => ?_⟩
            obtain ⟨wd, ew, hwd⟩ : ∃ wd : Str, atI [V.str "and", V.str "or"] d8 = some (.str wd) ∧ (wd = "and" ∨ wd = "or") := by
              obtain e | e : d8 = 0 ∨ d8 = 1 := by omega
              · rw [e]; exact ⟨"and", rfl, .inl rfl⟩
              · rw [e]; exact ⟨"or", rfl, .inr rfl⟩
            refine i_ixL (k8 _ _ rfl h7) ew ?_
            have k8' := (k45.trans (Same.keep s7)).trans k8
            have h8 := k8 _ _ rfl (s7 _ _ h5)
            have pt8 := TrsP.keep pt k8'
            walk_at "rd"
            refine i_sl ?_
            walk_at "rd"
            refine i_noPart (i_part ?_)
            walk_at "rd"
            refine ⟨_, rfl, q, us, rfl, SqL.of h8, fun p9 hp9 => ?_⟩
            rw [cut_take]
            obtain ⟨H9, e9, s9, h9⟩ := new_heap (o := .lst (us.take j)) hp9
            rw [e9]
            have hj0 : j < ts.length := by omega
            have hj1 : j + 1 < ts.length := by omega
            obtain ⟨v1, ev1, tv1⟩ := trs_get (pt8.keep (Same.keep s9)) (k := j) hj0
            obtain ⟨v2, ev2, tv2⟩ := trs_get (pt8.keep (Same.keep s9)) (k := j + 1) hj1
            have h9q := s9 _ _ h8
            walk_at "rd"
            refine i_ixL h9q (atI_nat ev1) ?_
            walk_at "rd"
            refine i_ixL h9q (v := v2) (by rw [show (j : Int) + 1 = ((j + 1 : Nat) : Int) from by omega]; exact atI_nat ev2) ?_
            walk_at "rd"
            refine ⟨size_of (Nat.le_of_ble_eq_true rfl), fun c hc => ?_⟩
            obtain ⟨H10, e10, s10, h10⟩ := new_heap (o := .tup [.str wd, v1, v2]) hc
            rw [e10]
            walk_at "rd"
            refine ⟨size_of (Nat.le_of_ble_eq_true rfl), fun c2 hc2 => ?_⟩
            obtain ⟨H11, e11, s11, h11⟩ := new_heap (o := .lst [.ref c]) hc2
            rw [e11]
            have lt : us.length ≤ 1000 := by omega
            refine ⟨p9, c2, _, _, rfl, rfl, s11 _ _ (s10 _ _ h9), h11, size_of (by rw [List.length_take]; show min j us.length + 1 ≤ _; omega), fun c3 hc3 => ?_⟩
            obtain ⟨H12, e12, s12, h12⟩ := new_heap (o := .lst (us.take j ++ [.ref c])) hc3
            rw [e12]
            have s912 : Same H9 H12 := fun b o z => s12 _ _ (s11 _ _ (s10 _ _ z))
            walk_at "rd"
            refine i_sl ?_
            walk_at "rd"
            refine i_part ?_
            walk_at "rd"
            refine ⟨_, rfl, i_noPart ?_⟩
            refine ⟨q, us, rfl, SqL.of (s912 _ _ h9q), fun p13 hp13 => ?_⟩
            rw [show (j : Int) + 2 = ((j + 2 : Nat) : Int) from by omega, cut_drop]
            obtain ⟨H13, e13, s13, h13⟩ := new_heap (o := .lst (us.drop (j + 2))) hp13
            rw [e13]
            refine ⟨c3, p13, _, _, rfl, rfl, s13 _ _ h12, h13, size_of (by rw [List.length_append, List.length_take, List.length_drop]; show min j us.length + 1 + _ ≤ _; omega), fun c4 hc4 => ?_⟩
            obtain ⟨H14, e14, s14, h14⟩ := new_heap (o := .lst (us.take j ++ [.ref c] ++ us.drop (j + 2))) hc4
            rw [e14]
            have s1014 : Same H10 H14 := fun b o z => s14 _ _ (s13 _ _ (s12 _ _ (s11 _ _ z)))
            have s914 : Same H9 H14 := fun b o z => s1014 _ _ (s10 _ _ z)
            have k13 := k8'.trans (fun b o w z => s13 _ _ (s912 _ _ (s9 _ _ z)))
            have k14 := k8'.trans (fun b o w z => s914 _ _ (s9 _ _ z))
            have p13' : Pen H13 p L _ := p8.up (fun b o z => s13 _ _ (s912 _ _ (s9 _ _ z)))
            have e := split_at hj1
            obtain ⟨nt, tn3, gn, on, mn, nn⟩ : ∃ nt : Tr, TreeAt H14 nt (.ref c) ∧ GoodT nt ∧ Of cs nt ∧ nt.many = ts[j].many + ts[j + 1].many ∧ nt.nots = ts[j].nots + ts[j + 1].nots := by
              have g1 := ok.good _ (List.getElem_mem hj0)
              have g2 := ok.good _ (List.getElem_mem hj1)
              have o1 := ok.of _ (List.getElem_mem hj0)
              have o2 := ok.of _ (List.getElem_mem hj1)
              rcases hwd with rfl | rfl
              · exact ⟨.an ts[j] ts[j + 1], ⟨c, v1, v2, rfl, s1014 _ _ h10, tv1.up s914, tv2.up s914⟩, ⟨g1, g2⟩, of_two o1 o2, rfl, rfl⟩
              · exact ⟨.ou ts[j] ts[j + 1], ⟨c, v1, v2, rfl, s1014 _ _ h10, tv1.up s914, tv2.up s914⟩, ⟨g1, g2⟩, of_two o1 o2, rfl, rfl⟩
            have pt14 := TrsP.keep pt k14
            have eM : totM ts = totM (ts.take j) + (nt.many + totM (ts.drop (j + 2))) := by
              conv => lhs; rw [e]
              rw [totM_app, mn]
              show totM (ts.take j) + (ts[j].many + (ts[j + 1].many + totM (ts.drop (j + 2)))) = _
              omega
            have eN : totN ts = totN (ts.take j) + (nt.nots + totN (ts.drop (j + 2))) := by
              conv => lhs; rw [e]
              rw [totN_app, nn]
              show totN (ts.take j) + (ts[j].nots + (ts[j + 1].nots + totN (ts.drop (j + 2)))) = _
              omega
            have ln : (us.take j ++ [V.ref c] ++ us.drop (j + 2)).length + 1 = us.length := by
              rw [List.length_append, List.length_append, List.length_take, List.length_drop]
              show min j us.length + 1 + _ + 1 = _
              omega
            refine ⟨_, ?_, ⟨c4, _, ts.take j ++ [nt] ++ ts.drop (j + 2), b, _, _, _, rfl, rfl, by omega, k3.trans k14, Keep.np (k3.trans k13) hc4, p13'.ne hc4, (p13'.up s14).mono (by omega), h14, ((trs_take j pt14).app (.cons tn3 .nil)).app (trs_drop (j + 2) pt14), ⟨fun x hxx => ?_, fun x hxx => ?_⟩, by rw [List.length_append, List.length_append]; show 1 ≤ _ + 1 + _; omega, ?_, b6, ?_⟩⟩
            · omega
            · rcases List.mem_append.mp hxx with h | h
              · rcases List.mem_append.mp h with h | h
                · exact ok.good x (List.mem_of_mem_take h)
                · rw [List.mem_singleton.mp h]; exact gn
              · exact ok.good x (List.mem_of_mem_drop h)
            · rcases List.mem_append.mp hxx with h | h
              · rcases List.mem_append.mp h with h | h
                · exact ok.of x (List.mem_of_mem_take h)
                · rw [List.mem_singleton.mp h]; exact on
              · exact ok.of x (List.mem_of_mem_drop h)
            · rw [totM_app, totM_app]
              show totM (ts.take j) + (nt.many + 0) + totM (ts.drop (j + 2)) = m
              omega
            · rw [totN_app, totN_app]
              show totN (ts.take j) + (nt.nots + 0) + totN (ts.drop (j + 2)) + b = 6
              omega
      · have e1 : us.length = 1 := by omega
        walk_at "rd"
        refine ite_d (fun hB => ?_) (fun hB => ?_)
        · walk_at "rd"
          refine ⟨p, L, _, 5, rfl, p3, by omega, by decide, by decide, fun d2 H4 _ _ k4 p4 => ?_⟩
          walk_at "rd"
          refine ite_d (fun hC => ?_) (fun hC => ?_)
          · refine ⟨_, fun σ' H' h => h, ?_⟩
            have hb : 2 ≤ us.length ∨ 1 ≤ b := .inr (by omega)
            have h4 := k4 _ _ rfl h3
            walk_at "rd"
            refine ⟨p, L, _, _, rfl, p4, by omega, by omega, by omega, fun d H5 d0 d1 k5 p5 => ?_⟩
            have k45 := k4.trans k5
            have h5 := k45 _ _ rfl h3
            walk_at "rd"
            refine ite_d (fun hL => ?_) (fun hL => ?_)
            · have hL1 : us.length = 1 := by have := V.int.inj hL; omega
              refine iteT ?_
              walk_at "rd"
              obtain ⟨b', rfl⟩ : ∃ b', b = b' + 1 := ⟨b - 1, by omega⟩
              obtain ⟨j, hj, rfl⟩ : ∃ j : Nat, j < us.length ∧ d = (j : Int) := ⟨d.toNat, by omega, by omega⟩
              obtain ⟨v, ev, tv⟩ := trs_get (TrsP.keep pt k45) (k := j) (by omega)
              refine i_ixL h5 (atI_nat ev) ?_
              walk_at "rd"
              refine ⟨size_of (Nat.le_of_ble_eq_true rfl), fun a ha => ?_⟩
              obtain ⟨H7, e7, s7, h7⟩ := new_heap (o := .tup [.str "not", v]) ha
              rw [e7]
              have h7q := s7 _ _ h5
              walk_at "rd"
              refine i_setL h7q (ixN_nat hj) ?_
              walk_at "rd"
              rw [show (((b' + 1 : Nat) : Int) - 1) = (b' : Int) from by omega]
              have fx : Fix H7 (upd H7 q (.lst (us.set j (.ref a)))) := Fix.put h7q
              have hjt : j < ts.length := by omega
              have tv7 : TreeAt (upd H7 q (.lst (us.set j (.ref a)))) (.no ts[j]) (.ref a) := ⟨a, v, rfl, fx _ _ rfl h7, (tv.up s7).fix fx⟩
              have eM : totM (ts.set j (.no ts[j])) = totM ts ∧ totN (ts.set j (.no ts[j])) = totN ts + 1 := by
                have e := split_one hjt
                have e2 := set_one hjt (.no ts[j])
                rw [e2]
                constructor
                · conv => rhs; rw [e]
                  rw [totM_app, totM_app]
                  rfl
                · conv => rhs; rw [e]
                  rw [totN_app, totN_app]
                  show totN (ts.take j) + (ts[j].nots + 1 + totN (ts.drop (j + 1))) = totN (ts.take j) + (ts[j].nots + totN (ts.drop (j + 1))) + 1
                  omega
              refine ⟨us.length + b', by omega, ⟨q, us.set j (.ref a), ts.set j (.no ts[j]), b', _, _, _, rfl, by rw [List.length_set], by omega, Keep.mutN (k3.trans (k45.trans (Same.keep s7))) nq, nq, Lq, ((p5.up s7).mut h7q Lq).mono (by omega), upd_same, trs_set tv7 j (((TrsP.keep pt k45).keep (Same.keep s7)).fix fx), ⟨fun x hxx => ?_, fun x hxx => ?_⟩, by rw [List.length_set]; exact l1, by rw [eM.1]; exact tm, by omega, by rw [eM.2]; omega⟩⟩
              · rcases List.mem_or_eq_of_mem_set hxx with h | h
                · exact ok.good x h
                · rw [h]; exact (show GoodT ts[j] from ok.good _ (List.getElem_mem hjt))
              · rcases List.mem_or_eq_of_mem_set hxx with h | h
                · exact ok.of x h
                · rw [h]; exact (show Of cs ts[j] from ok.of _ (List.getElem_mem hjt))
            · have hL2 : 2 ≤ us.length := by
                have : ¬ us.length = 1 := fun z => hL (by rw [z]; rfl)
                omega
              walk_at "rd"
              refine ite_d (fun hb0 => ?_) (fun hb0 => ?_)
              · walk_at "rd"
                refine ⟨p, L, _, 4, rfl, p5, by omega, by decide, by decide, fun d6 H6 _ _ k6 p6 => ?_⟩
                have k46 := k45.trans k6
                have h6 := k46 _ _ rfl h3
                walk_at "rd"
                refine ite_d (fun _ => ?_) (fun _ => ?_)
                · walk_at "rd"
                  obtain ⟨b', rfl⟩ : ∃ b', b = b' + 1 := ⟨b - 1, by omega⟩
                  obtain ⟨j, hj, rfl⟩ : ∃ j : Nat, j < us.length ∧ d = (j : Int) := ⟨d.toNat, by omega, by omega⟩
                  obtain ⟨v, ev, tv⟩ := trs_get (TrsP.keep pt k46) (k := j) (by omega)
                  refine i_ixL h6 (atI_nat ev) ?_
                  walk_at "rd"
                  refine ⟨size_of (Nat.le_of_ble_eq_true rfl), fun a ha => ?_⟩
                  obtain ⟨H7, e7, s7, h7⟩ := new_heap (o := .tup [.str "not", v]) ha
                  rw [e7]
                  have h7q := s7 _ _ h6
                  walk_at "rd"
                  refine i_setL h7q (ixN_nat hj) ?_
                  walk_at "rd"
                  rw [show (((b' + 1 : Nat) : Int) - 1) = (b' : Int) from by omega]
                  have fx : Fix H7 (upd H7 q (.lst (us.set j (.ref a)))) := Fix.put h7q
                  have hjt : j < ts.length := by omega
                  have tv7 : TreeAt (upd H7 q (.lst (us.set j (.ref a)))) (.no ts[j]) (.ref a) := ⟨a, v, rfl, fx _ _ rfl h7, (tv.up s7).fix fx⟩
                  have eM : totM (ts.set j (.no ts[j])) = totM ts ∧ totN (ts.set j (.no ts[j])) = totN ts + 1 := by
                    have e := split_one hjt
                    have e2 := set_one hjt (.no ts[j])
                    rw [e2]
                    constructor
                    · conv => rhs; rw [e]
                      rw [totM_app, totM_app]
                      rfl
                    · conv => rhs; rw [e]
                      rw [totN_app, totN_app]
                      show totN (ts.take j) + (ts[j].nots + 1 + totN (ts.drop (j + 1))) = totN (ts.take j) + (ts[j].nots + totN (ts.drop (j + 1))) + 1
                      omega
                  refine ⟨us.length + b', by omega, ⟨q, us.set j (.ref a), ts.set j (.no ts[j]), b', _, _, _, rfl, by rw [List.length_set], by omega, Keep.mutN (k3.trans (k46.trans (Same.keep s7))) nq, nq, Lq, ((p6.up s7).mut h7q Lq).mono (by omega), upd_same, trs_set tv7 j (((TrsP.keep pt k46).keep (Same.keep s7)).fix fx), ⟨fun x hxx => ?_, fun x hxx => ?_⟩, by rw [List.length_set]; exact l1, by rw [eM.1]; exact tm, by omega, by rw [eM.2]; omega⟩⟩
                  · rcases List.mem_or_eq_of_mem_set hxx with h | h
                    · exact ok.good x h
                    · rw [h]; exact (show GoodT ts[j] from ok.good _ (List.getElem_mem hjt))
                  · rcases List.mem_or_eq_of_mem_set hxx with h | h
                    · exact ok.of x h
                    · rw [h]; exact (show Of cs ts[j] from ok.of _ (List.getElem_mem hjt))
                · walk_at "rd"
                  refine i_rI (show (0 : Int) < (us.length : Int) - 1 by omega) ?_
                  walk_at "rd"
                  have m0 := Int.emod_nonneg d (b := (us.length : Int) - 1) (by omega)
                  have m1 := Int.emod_lt_of_pos d (b := (us.length : Int) - 1) (by omega)
                  generalize d % ((us.length : Int) - 1) = e0 at *
                  obtain ⟨j, rfl⟩ : ∃ j : Nat, e0 = (j : Int) := ⟨e0.toNat, by omega⟩
                  refine ⟨size_of (Nat.le_of_ble_eq_true rfl), fun a ha => ?_⟩
                  obtain ⟨H7, e7, s7, h7⟩ := new_heap (o := .lst [.str "and", .str "or"]) ha
                  rw [e7]
                  walk_at "rd"
                  refine ⟨p, L, _, 2, rfl, p6.up s7, by omega, by decide, by decide, fun d8 H8 u0 u1 k8 p8 => ?_⟩
                  obtain ⟨wd, ew, hwd⟩ : ∃ wd : Str, atI [V.str "and", V.str "or"] d8 = some (.str wd) ∧ (wd = "and" ∨ wd = "or") := by
                    obtain e | e : d8 = 0 ∨ d8 = 1 := by omega
                    · rw [e]; exact ⟨"and", rfl, .inl rfl⟩
                    · rw [e]; exact ⟨"or", rfl, .inr rfl⟩
                  refine i_ixL (k8 _ _ rfl h7) ew ?_
                  have k8' := (k46.trans (Same.keep s7)).trans k8
                  have h8 := k8 _ _ rfl (s7 _ _ h6)
                  have pt8 := TrsP.keep pt k8'
                  walk_at "rd"
                  refine i_sl ?_
                  walk_at "rd"
                  refine i_noPart (i_part ?_)
                  walk_at "rd"
                  refine ⟨_, rfl, q, us, rfl, SqL.of h8, fun p9 hp9 => ?_⟩
                  rw [cut_take]
                  obtain ⟨H9, e9, s9, h9⟩ := new_heap (o := .lst (us.take j)) hp9
                  rw [e9]
                  have hj0 : j < ts.length := by omega
                  have hj1 : j + 1 < ts.length := by omega
                  obtain ⟨v1, ev1, tv1⟩ := trs_get (pt8.keep (Same.keep s9)) (k := j) hj0
                  obtain ⟨v2, ev2, tv2⟩ := trs_get (pt8.keep (Same.keep s9)) (k := j + 1) hj1
                  have h9q := s9 _ _ h8
                  walk_at "rd"
                  refine i_ixL h9q (atI_nat ev1) ?_
                  walk_at "rd"
                  refine i_ixL h9q (v := v2) (by rw [show (j : Int) + 1 = ((j + 1 : Nat) : Int) from by omega]; exact atI_nat ev2) ?_
                  walk_at "rd"
                  refine ⟨size_of (Nat.le_of_ble_eq_true rfl), fun c hc => ?_⟩
                  obtain ⟨H10, e10, s10, h10⟩ := new_heap (o := .tup [.str wd, v1, v2]) hc
                  rw [e10]
                  walk_at "rd"
                  refine ⟨size_of (Nat.le_of_ble_eq_true rfl), fun c2 hc2 => ?_⟩
                  obtain ⟨H11, e11, s11, h11⟩ := new_heap (o := .lst [.ref c]) hc2
                  rw [e11]
                  have lt : us.length ≤ 1000 := by omega
                  refine ⟨p9, c2, _, _, rfl, rfl, s11 _ _ (s10 _ _ h9), h11, size_of (by rw [List.length_take]; show min j us.length + 1 ≤ _; omega), fun c3 hc3 => ?_⟩
                  obtain ⟨H12, e12, s12, h12⟩ := new_heap (o := .lst (us.take j ++ [.ref c])) hc3
                  rw [e12]
                  have s912 : Same H9 H12 := fun b o z => s12 _ _ (s11 _ _ (s10 _ _ z))
                  walk_at "rd"
                  refine i_sl ?_
                  walk_at "rd"
                  refine i_part ?_
                  walk_at "rd"
                  refine ⟨_, rfl, i_noPart ?_⟩
                  refine ⟨q, us, rfl, SqL.of (s912 _ _ h9q), fun p13 hp13 => ?_⟩
                  rw [show (j : Int) + 2 = ((j + 2 : Nat) : Int) from by omega, cut_drop]
                  obtain ⟨H13, e13, s13, h13⟩ := new_heap (o := .lst (us.drop (j + 2))) hp13
                  rw [e13]
                  refine ⟨c3, p13, _, _, rfl, rfl, s13 _ _ h12, h13, size_of (by rw [List.length_append, List.length_take, List.length_drop]; show min j us.length + 1 + _ ≤ _; omega), fun c4 hc4 => ?_⟩
                  obtain ⟨H14, e14, s14, h14⟩ := new_heap (o := .lst (us.take j ++ [.ref c] ++ us.drop (j + 2))) hc4
                  rw [e14]
                  have s1014 : Same H10 H14 := fun b o z => s14 _ _ (s13 _ _ (s12 _ _ (s11 _ _ z)))
                  have s914 : Same H9 H14 := fun b o z => s1014 _ _ (s10 _ _ z)
                  have k13 := k8'.trans (fun b o w z => s13 _ _ (s912 _ _ (s9 _ _ z)))
                  have k14 := k8'.trans (fun b o w z => s914 _ _ (s9 _ _ z))
                  have p13' : Pen H13 p L _ := p8.up (fun b o z => s13 _ _ (s912 _ _ (s9 _ _ z)))
                  have e := split_at hj1
                  obtain ⟨nt, tn3, gn, on, mn, nn⟩ : ∃ nt : Tr, TreeAt H14 nt (.ref c) ∧ GoodT nt ∧ Of cs nt ∧ nt.many = ts[j].many + ts[j + 1].many ∧ nt.nots = ts[j].nots + ts[j + 1].nots := by
                    have g1 := ok.good _ (List.getElem_mem hj0)
                    have g2 := ok.good _ (List.getElem_mem hj1)
                    have o1 := ok.of _ (List.getElem_mem hj0)
                    have o2 := ok.of _ (List.getElem_mem hj1)
                    rcases hwd with rfl | rfl
                    · exact ⟨.an ts[j] ts[j + 1], ⟨c, v1, v2, rfl, s1014 _ _ h10, tv1.up s914, tv2.up s914⟩, ⟨g1, g2⟩, of_two o1 o2, rfl, rfl⟩
                    · exact ⟨.ou ts[j] ts[j + 1], ⟨c, v1, v2, rfl, s1014 _ _ h10, tv1.up s914, tv2.up s914⟩, ⟨g1, g2⟩, of_two o1 o2, rfl, rfl⟩
                  have pt14 := TrsP.keep pt k14
                  have eM : totM ts = totM (ts.take j) + (nt.many + totM (ts.drop (j + 2))) := by
                    conv => lhs; rw [e]
                    rw [totM_app, mn]
                    show totM (ts.take j) + (ts[j].many + (ts[j + 1].many + totM (ts.drop (j + 2)))) = _
                    omega
                  have eN : totN ts = totN (ts.take j) + (nt.nots + totN (ts.drop (j + 2))) := by
                    conv => lhs; rw [e]
                    rw [totN_app, nn]
                    show totN (ts.take j) + (ts[j].nots + (ts[j + 1].nots + totN (ts.drop (j + 2)))) = _
                    omega
                  have ln : (us.take j ++ [V.ref c] ++ us.drop (j + 2)).length + 1 = us.length := by
                    rw [List.length_append, List.length_append, List.length_take, List.length_drop]
                    show min j us.length + 1 + _ + 1 = _
                    omega
                  refine ⟨_, ?_, ⟨c4, _, ts.take j ++ [nt] ++ ts.drop (j + 2), b, _, _, _, rfl, rfl, by omega, k3.trans k14, Keep.np (k3.trans k13) hc4, p13'.ne hc4, (p13'.up s14).mono (by omega), h14, ((trs_take j pt14).app (.cons tn3 .nil)).app (trs_drop (j + 2) pt14), ⟨fun x hxx => ?_, fun x hxx => ?_⟩, by rw [List.length_append, List.length_append]; show 1 ≤ _ + 1 + _; omega, ?_, b6, ?_⟩⟩
                  · omega
                  · rcases List.mem_append.mp hxx with h | h
                    · rcases List.mem_append.mp h with h | h
                      · exact ok.good x (List.mem_of_mem_take h)
                      · rw [List.mem_singleton.mp h]; exact gn
                    · exact ok.good x (List.mem_of_mem_drop h)
                  · rcases List.mem_append.mp hxx with h | h
                    · rcases List.mem_append.mp h with h | h
                      · exact ok.of x (List.mem_of_mem_take h)
                      · rw [List.mem_singleton.mp h]; exact on
                    · exact ok.of x (List.mem_of_mem_drop h)
                  · rw [totM_app, totM_app]
                    show totM (ts.take j) + (nt.many + 0) + totM (ts.drop (j + 2)) = m
                    omega
                  · rw [totN_app, totN_app]
                    show totN (ts.take j) + (nt.nots + 0) + totN (ts.drop (j + 2)) + b = 6
                    omega
              · refine iteF ?_
                walk_at "rd"
                refine i_rI (show (0 : Int) < (us.length : Int) - 1 by omega) ?_
                walk_at "rd"
                have m0 := Int.emod_nonneg d (b := (us.length : Int) - 1) (by omega)
                have m1 := Int.emod_lt_of_pos d (b := (us.length : Int) - 1) (by omega)
                generalize d % ((us.length : Int) - 1) = e0 at *
                obtain ⟨j, rfl⟩ : ∃ j : Nat, e0 = (j : Int) := ⟨e0.toNat, by omega⟩
                refine ⟨size_of (Nat.le_of_ble_eq_true rfl), fun a ha => ?_⟩
                obtain ⟨H7, e7, s7, h7⟩ := new_heap (o := .lst [.str "and", .str "or"]) ha
                rw [e7]
                walk_at "rd"
                refine ⟨p, L, _, 2, rfl, p5.up s7, by omega, by decide, by decide, fun d8 H8 u0 u1 k8 p8 => ?_⟩
                obtain ⟨wd, ew, hwd⟩ : ∃ wd : Str, atI [V.str "and", V.str "or"] d8 = some (.str wd) ∧ (wd = "and" ∨ wd = "or") := by
                  obtain e | e : d8 = 0 ∨ d8 = 1 := by omega
                  · rw [e]; exact ⟨"and", rfl, .inl rfl⟩
                  · rw [e]; exact ⟨"or", rfl, .inr rfl⟩
                refine i_ixL (k8 _ _ rfl h7) ew ?_
                have k8' := (k45.trans (Same.keep s7)).trans k8
                have h8 := k8 _ _ rfl (s7 _ _ h5)
                have pt8 := TrsP.keep pt k8'
                walk_at "rd"
                refine i_sl ?_
                walk_at "rd"
                refine i_noPart (i_part ?_)
                walk_at "rd"
                refine ⟨_, rfl, q, us, rfl, SqL.of h8, fun p9 hp9 => ?_⟩
                rw [cut_take]
                obtain ⟨H9, e9, s9, h9⟩ := new_heap (o := .lst (us.take j)) hp9
                rw [e9]
                have hj0 : j < ts.length := by omega
                have hj1 : j + 1 < ts.length := by omega
                obtain ⟨v1, ev1, tv1⟩ := trs_get (pt8.keep (Same.keep s9)) (k := j) hj0
                obtain ⟨v2, ev2, tv2⟩ := trs_get (pt8.keep (Same.keep s9)) (k := j + 1) hj1
                have h9q := s9 _ _ h8
                walk_at "rd"
                refine i_ixL h9q (atI_nat ev1) ?_
                walk_at "rd"
                refine i_ixL h9q (v := v2) (by rw [show (j : Int) + 1 = ((j + 1 : Nat) : Int) from by omega]; exact atI_nat ev2) ?_
                walk_at "rd"
                refine ⟨size_of (Nat.le_of_ble_eq_true rfl), fun c hc => ?_⟩
                obtain ⟨H10, e10, s10, h10⟩ := new_heap (o := .tup [.str wd, v1, v2]) hc
                rw [e10]
                walk_at "rd"
                refine ⟨size_of (Nat.le_of_ble_eq_true rfl), fun c2 hc2 => ?_⟩
                obtain ⟨H11, e11, s11, h11⟩ := new_heap (o := .lst [.ref c]) hc2
                rw [e11]
                have lt : us.length ≤ 1000 := by omega
                refine ⟨p9, c2, _, _, rfl, rfl, s11 _ _ (s10 _ _ h9), h11, size_of (by rw [List.length_take]; show min j us.length + 1 ≤ _; omega), fun c3 hc3 => ?_⟩
                obtain ⟨H12, e12, s12, h12⟩ := new_heap (o := .lst (us.take j ++ [.ref c])) hc3
                rw [e12]
                have s912 : Same H9 H12 := fun b o z => s12 _ _ (s11 _ _ (s10 _ _ z))
                walk_at "rd"
                refine i_sl ?_
                walk_at "rd"
                refine i_part ?_
                walk_at "rd"
                refine ⟨_, rfl, i_noPart ?_⟩
                refine ⟨q, us, rfl, SqL.of (s912 _ _ h9q), fun p13 hp13 => ?_⟩
                rw [show (j : Int) + 2 = ((j + 2 : Nat) : Int) from by omega, cut_drop]
                obtain ⟨H13, e13, s13, h13⟩ := new_heap (o := .lst (us.drop (j + 2))) hp13
                rw [e13]
                refine ⟨c3, p13, _, _, rfl, rfl, s13 _ _ h12, h13, size_of (by rw [List.length_append, List.length_take, List.length_drop]; show min j us.length + 1 + _ ≤ _; omega), fun c4 hc4 => ?_⟩
                obtain ⟨H14, e14, s14, h14⟩ := new_heap (o := .lst (us.take j ++ [.ref c] ++ us.drop (j + 2))) hc4
                rw [e14]
                have s1014 : Same H10 H14 := fun b o z => s14 _ _ (s13 _ _ (s12 _ _ (s11 _ _ z)))
                have s914 : Same H9 H14 := fun b o z => s1014 _ _ (s10 _ _ z)
                have k13 := k8'.trans (fun b o w z => s13 _ _ (s912 _ _ (s9 _ _ z)))
                have k14 := k8'.trans (fun b o w z => s914 _ _ (s9 _ _ z))
                have p13' : Pen H13 p L _ := p8.up (fun b o z => s13 _ _ (s912 _ _ (s9 _ _ z)))
                have e := split_at hj1
                obtain ⟨nt, tn3, gn, on, mn, nn⟩ : ∃ nt : Tr, TreeAt H14 nt (.ref c) ∧ GoodT nt ∧ Of cs nt ∧ nt.many = ts[j].many + ts[j + 1].many ∧ nt.nots = ts[j].nots + ts[j + 1].nots := by
                  have g1 := ok.good _ (List.getElem_mem hj0)
                  have g2 := ok.good _ (List.getElem_mem hj1)
                  have o1 := ok.of _ (List.getElem_mem hj0)
                  have o2 := ok.of _ (List.getElem_mem hj1)
                  rcases hwd with rfl | rfl
                  · exact ⟨.an ts[j] ts[j + 1], ⟨c, v1, v2, rfl, s1014 _ _ h10, tv1.up s914, tv2.up s914⟩, ⟨g1, g2⟩, of_two o1 o2, rfl, rfl⟩
                  · exact ⟨.ou ts[j] ts[j + 1], ⟨c, v1, v2, rfl, s1014 _ _ h10, tv1.up s914, tv2.up s914⟩, ⟨g1, g2⟩, of_two o1 o2, rfl, rfl⟩
                have pt14 := TrsP.keep pt k14
                have eM : totM ts = totM (ts.take j) + (nt.many + totM (ts.drop (j + 2))) := by
                  conv => lhs; rw [e]
                  rw [totM_app, mn]
                  show totM (ts.take j) + (ts[j].many + (ts[j + 1].many + totM (ts.drop (j + 2)))) = _
                  omega
                have eN : totN ts = totN (ts.take j) + (nt.nots + totN (ts.drop (j + 2))) := by
                  conv => lhs; rw [e]
                  rw [totN_app, nn]
                  show totN (ts.take j) + (ts[j].nots + (ts[j + 1].nots + totN (ts.drop (j + 2)))) = _
                  omega
                have ln : (us.take j ++ [V.ref c] ++ us.drop (j + 2)).length + 1 = us.length := by
                  rw [List.length_append, List.length_append, List.length_take, List.length_drop]
                  show min j us.length + 1 + _ + 1 = _
                  omega
                refine ⟨_, ?_, ⟨c4, _, ts.take j ++ [nt] ++ ts.drop (j + 2), b, _, _, _, rfl, rfl, by omega, k3.trans k14, Keep.np (k3.trans k13) hc4, p13'.ne hc4, (p13'.up s14).mono (by omega), h14, ((trs_take j pt14).app (.cons tn3 .nil)).app (trs_drop (j + 2) pt14), ⟨fun x hxx => ?_, fun x hxx => ?_⟩, by rw [List.length_append, List.length_append]; show 1 ≤ _ + 1 + _; omega, ?_, b6, ?_⟩⟩
                · omega
                · rcases List.mem_append.mp hxx with h | h
                  · rcases List.mem_append.mp h with h | h
                    · exact ok.good x (List.mem_of_mem_take h)
                    · rw [List.mem_singleton.mp h]; exact gn
                  · exact ok.good x (List.mem_of_mem_drop h)
                · rcases List.mem_append.mp hxx with h | h
                  · rcases List.mem_append.mp h with h | h
                    · exact ok.of x (List.mem_of_mem_take h)
                    · rw [List.mem_singleton.mp h]; exact on
                  · exact ok.of x (List.mem_of_mem_drop h)
                · rw [totM_app, totM_app]
                  show totM (ts.take j) + (nt.many + 0) + totM (ts.drop (j + 2)) = m
                  omega
                · rw [totN_app, totN_app]
                  show totN (ts.take j) + (nt.nots + 0) + totN (ts.drop (j + 2)) + b = 6
                  omega
          · walk_at "rd"
            obtain ⟨v, ev, hv, qv⟩ := fin H4 k4 (by omega) p4
            exact i_ixL hv ev qv
        · refine iteF ?_
          walk_at "rd"
          obtain ⟨v, ev, hv, qv⟩ := fin H3 (Keep.refl H3) (by omega) (p3.mono (by omega))
          exact i_ixL hv ev qv
end
end Spk

set_option Elab.async false
set_option linter.all false
set_option maxRecDepth 100000
set_option maxHeartbeats 2000000
namespace Spk
open PySem L2 TL
local macro_rules | `(tactic| walk_at "rd") => `(tactic| repeat (first
  | with_reducible refine i_seq ?_ | with_reducible refine i_asg ?_ | with_reducible refine i_ret ?_ | with_reducible refine i_ifS ?_ | with_reducible refine i_if ?_
  | with_reducible refine i_for ?_ | with_reducible refine i_iL ?_ | with_reducible refine i_iT ?_ | with_reducible refine i_ckw ?_ | with_reducible refine i_cm ?_ | with_reducible refine And.intro (rfl : V.ref _ = V.ref _) ?_ | with_reducible refine i_rng1 ?_ | with_reducible refine i_bm ?_ | with_reducible refine i_bm0 ?_
  | with_reducible refine i_drop ?_ | with_reducible refine i_next ?_
  | with_reducible refine i_var rfl ?_ | with_reducible refine i_c ?_ | with_reducible refine i_op ?_ | with_reducible refine i_un ?_ | with_reducible refine i_name ?_
  | with_reducible refine i_rI0 ?_ | with_reducible refine i_rU ?_ | with_reducible refine i_rEq rfl ?_ | with_reducible refine i_rNe rfl ?_
  | with_reducible refine i_test ?_ | with_reducible refine i_tB ?_ | with_reducible refine i_and ?_ | with_reducible refine i_or ?_ | with_reducible refine i_not ?_
  | with_reducible refine i_andV ?_ | with_reducible refine i_orV ?_ | with_reducible refine i_notV ?_
  | with_reducible refine i_cons ?_ | with_reducible refine i_nil ?_ | with_reducible refine i_cb ?_ | with_reducible refine i_call ?_ | with_reducible refine i_bl ?_
  | with_reducible refine i_tup ?_ | with_reducible refine i_lst ?_ | with_reducible refine i_par ?_ | with_reducible refine i_gcons ?_ | with_reducible refine i_gnil ?_
  | with_reducible refine And.intro (rfl : V.non = V.non) ?_ | with_reducible refine i_ixT (by assumption) rfl ?_ | with_reducible refine i_ixL (by assumption) rfl ?_ | with_reducible refine i_gtup (by assumption) rfl ?_
  | with_reducible refine i_gsub ?_
  | with_reducible refine Or.inl (Exists.intro _ (And.intro (rfl : [V.int _] = [V.int _]) ?_)) | with_reducible refine Exists.intro _ (And.intro (rfl : [V.int _] = [V.int _]) ?_)
  | with_reducible refine Or.inr (Exists.intro _ (And.intro (rfl : [V.bl _] = [V.bl _]) ?_))
  | with_reducible refine Exists.intro _ (Exists.intro _ (And.intro (rfl : [V.int _, V.int _] = [V.int _, V.int _]) ?_))
  | with_reducible refine Exists.intro _ (Exists.intro _ (And.intro (rfl : [V.ref _] = [V.ref _]) (And.intro (Or.inl (SqL.of (by assumption))) ?_)))
  | with_reducible refine i_rI (show (0 : Int) < _ by assumption) ?_ | with_reducible refine i_rI (show (0 : Int) < _ by decide) ?_
  | with_reducible refine i_rI (pow_ok (Nat.le_of_ble_eq_true rfl) (Nat.le_of_ble_eq_true rfl)) ?_
  | with_reducible refine i_rI (cmulL rfl) ?_))
theorem rg_half {n : Nat} (h : n ≤ 200) : RgC 0 ((n : Int) - 1) 2 (n / 2) := by
  have z : (List.range 201).all (fun n => Builtin.Range.small 0 ((n : Int) - 1) 2 && (Builtin.Range.rangeSize 0 ((n : Int) - 1) 2 == ((n / 2 : Nat)))) = true := by decide +kernel
  have := List.all_eq_true.mp z n (List.mem_range.mpr (by omega))
  rw [Bool.and_eq_true] at this
  exact ⟨by decide, by decide, this.1, eq_of_beq this.2⟩
theorem take_two {ts : List Tr} {k : Nat} (h : 2 * k + 1 < ts.length) : ts.take (2 * (k + 1)) = ts.take (2 * k) ++ [ts[2 * k], ts[2 * k + 1]] := by
  rw [show 2 * (k + 1) = 2 * k + 1 + 1 from by omega, List.take_succ_eq_append_getElem (by omega), List.take_succ_eq_append_getElem (by omega), List.append_assoc]
  rfl
section
variable {P : Program} {w : World} {K : PySem.W.Frag} {mg : Str → Option Value} {base : Heap}
abbrev s_flat : Stmt := top 58
theorem sc_flat : FnScope ["_law_pen_here", "_law_columns", "_law_many", "_law_trees", "_law_found", "_law_k"] ["_law_pen_here", "_law_columns", "_law_many"] (defScope s_flat) := ⟨rfl, rfl, rfl, by decide +kernel, rfl, by decide +kernel, by decide +kernel⟩
def sp_lflat : Sp := fun vs H Q _ => ∃ p L n l cs, ∃ m : Nat, vs = [.ref p, .ref l, .int (m : Int)] ∧ 1 ≤ m ∧ m ≤ 60 ∧ Pen H p L n ∧ n ≤ 5600 ∧ H l = some (.lst (cs.map V.str)) ∧ 1 ≤ cs.length ∧ cs.length ≤ 10 ∧ (∀ c, c ∈ cs → IsName c) ∧
  ∀ v H' t, Keep H H' → Pen H' p L (n + 3240) → TreeAt H' t v → FitT t → Of cs t → Q v H'
/-- the list while it gets shorter -/
structure LInv (H0 : Hp) (p L l : Addr) (n1 : Nat) (m : Nat) (cs : List Str) (k : Nat) (σ : L2.St) (H : Hp) : Prop where
  ex : ∃ (q : Addr) (us : List V) (ts : List Tr) (r : Nat) (x4 x5 : Option V), σ = [some (.ref p), some (.ref l), some (.int (m : Int)), some (.ref q), x4, x5] ∧ k = ts.length ∧ 1 ≤ k ∧ k ≤ m ∧ Keep H0 H ∧ Pen H p L (n1 + (m - k)) ∧ H q = some (.lst us) ∧ TrsP H ts us ∧ TrsOk cs ts ∧
    totM ts = m ∧ totN ts = 0 ∧ (∀ t, t ∈ ts → t.deep ≤ r + 1) ∧ (k - 1) * 2 ^ r < 60 ∧ r ≤ 6
theorem round_up {k r : Nat} (h1 : 1 < k) (h : (k - 1) * 2 ^ r < 60) : (k - k / 2 - 1) * 2 ^ (r + 1) < 60 ∧ r ≤ 5 := by
  have a : (k - k / 2 - 1) * 2 ≤ k - 1 := by omega
  have b : (k - k / 2 - 1) * 2 ^ (r + 1) = ((k - k / 2 - 1) * 2) * 2 ^ r := by rw [Nat.pow_succ, Nat.mul_assoc, Nat.mul_comm 2 (2 ^ r)]
  refine ⟨?_, ?_⟩
  · rw [b]
    exact Nat.lt_of_le_of_lt (Nat.mul_le_mul_right _ a) h
  · have c : 2 ^ r ≤ (k - 1) * 2 ^ r := Nat.le_mul_of_pos_left _ (by omega)
    by_cases z : r ≤ 5
    · exact z
    · have : 2 ^ 6 ≤ 2 ^ r := Nat.pow_le_pow_right (by decide) (by omega)
      omega
theorem ok_lflat {f fD fR : Addr} {fd fdD fdR : FuncData} (F : Fun K "_law_flat" "_law_flat" s_flat f fd) (F_draw : Fun K "_law_draw" "_law_draw" s_draw fD fdD) (B_draw : Binds K fdD ["_law_pen_here", "_law_many"] []) (g_draw : mg "_law_draw" = some (.ref fD))
    (G_draw : FnOk P w K mg base CX0 1 fD fdD ["_law_pen_here", "_law_many"] sp_draw) (F_leaf : Fun K "_law_leaf" "_law_leaf" s_leaf fR fdR) (B_leaf : Binds K fdR ["_law_pen_here", "_law_columns"] []) (g_leaf : mg "_law_leaf" = some (.ref fR))
    (G_leaf : FnOk P w K mg base CX0 4 fR fdR ["_law_pen_here", "_law_columns"] sp_leaf) (z_len : mg "len" = none) (z_range : mg "range" = none) : FnOk P w K mg base CX0 5 f fd ["_law_pen_here", "_law_columns", "_law_many"] sp_lflat := by
  refine F.ok sc_flat (fun vs H Q E h => ?_) (fun cdv A outer s H vs Q E hr h => ?_)
  · obtain ⟨p, L, n, l, cs, m, rfl, _⟩ := h
    rfl
  · obtain ⟨p, L, n, l, cs, m, rfl, m1, m60, hp, hn, hl, z1, z2, nm, k⟩ := h
    refine ⟨_, (pss_cons (ps_setLc (i := 3) (own := [("_law_k", 5)]) (g := gName 5) (tt := tYes) rfl sc_flat.nd rfl rfl (sw_true rfl rfl rfl (by decide +kernel)) (pi_range1 (by rfl) z_range (pa_cons (pv 2) pa_nil)) (blkOk_by (own := [("_law_k", 5)]) (N := ["_law_pen_here", "_law_columns", "_law_many", "_law_trees", "_law_found", "_law_k"]) (sc := defScope s_flat) (by decide +kernel)) (fun _ _ _ _ _ => pg_name (i := 5) sc_flat.nd rfl (Or.inl rfl)) (fun _ _ _ _ _ => pts_nil) (fun _ _ _ _ _ => (pe_call G_leaf (hr.mono (by decide)) rfl g_leaf F_leaf.kp B_leaf .nil pass0 (pa_cons (pv 0) (pa_cons (pv 1) pa_nil)))))
 (pss_cons (ps_while PassesOwn.never (pt_cmpR op_gt (pe_callB call_len_seq (by rfl) z_len PySem.boot_len (pa_cons (pv 3) pa_nil)) pe_int (nomark _))
 (pss_cons (ps_set (i := 4) sc_flat.nd rfl (Or.inl rfl) (pe_lst pa_nil))
 (pss_cons (ps_for PassesOwn.never rfl (pi_range3 (by rfl) z_range (pa_cons pe_int (pa_cons (pe_op op_sub (pe_callB call_len_seq (by rfl) z_len PySem.boot_len (pa_cons (pv 3) pa_nil)) pe_int) (pa_cons pe_int pa_nil)))) (pg_name (i := 5) sc_flat.nd rfl (Or.inl rfl))
 (pss_one (ps_expr (pe_bm PySem.F.plainAttrs_list PySem.F.slot_list_append PySem.F.type_list_append mt_append (pv 4) (pa_cons (pe_tup (pa_cons (pe_ix ix_list (pe_lst (pa_cons pe_str (pa_cons pe_str pa_nil))) (pe_call G_draw (hr.mono (by decide)) rfl g_draw F_draw.kp B_draw .nil pass0 (pa_cons (pv 0) (pa_cons pe_int pa_nil))) (fun _ _ => rfl)) (pa_cons (pe_ix ix_list (pv 3) (pv 5) (fun _ _ => rfl)) (pa_cons (pe_ix ix_list (pv 3) (pe_op op_add (pv 5) pe_int) (fun _ _ => rfl)) pa_nil)))) pa_nil)))))
 (pss_one (ps_set (i := 3) sc_flat.nd rfl (Or.inl rfl) (pe_op op_cat (pv 4) (pe_slice sl_list (pv 3) (po_some (pe_op op_mul pe_int (pe_callB call_len_seq (by rfl) z_len PySem.boot_len (pa_cons (pv 4) pa_nil)))) po_none)))))))
 (pss_one (ps_ret (pe_tup (pa_cons pe_str (pa_cons (pe_ix ix_list (pv 3) pe_int (fun _ _ => rfl)) pa_nil))))))), ?_⟩
    walk_at "rd"
    unfold tLc
    walk_at "rd"
    refine ⟨by omega, by omega, fun D hD => ?_⟩
    obtain ⟨H1, e1, s1, h1⟩ := new_heap (o := .lst []) hD
    have pD := hp.ne hD
    refine lc_range (lo := 0) (n := m) (fun j H' => ∃ us ts, Keep H H' ∧ Pen H' p L (n + 53 * j) ∧ H' D = some (.lst us) ∧ TrsP H' ts us ∧ TrsOk cs ts ∧ ts.length = j ∧ totM ts = j ∧ totN ts = 0 ∧ ∀ t, t ∈ ts → t.deep ≤ 0 + 1) ⟨[], [], by rw [e1]; exact Same.keep s1, by rw [e1]; exact hp.up s1, by rw [e1]; exact h1, .nil, ⟨fun t h => absurd h List.not_mem_nil, fun t h => absurd h List.not_mem_nil⟩, rfl, rfl, rfl, fun t h => absurd h List.not_mem_nil⟩ ?_ ?_
    · rintro j H2 hj ⟨us, ts, k2, p2, h2, pt, ok, lt, tm, tn, td⟩
      walk_at "rd"
      refine ⟨rfl, i_yes (iteT ?_)⟩
      walk_at "rd"
      refine ⟨p, L, _, l, cs, rfl, p2, by omega, k2 _ _ rfl hl, z1, z2, nm, fun v H3 t k3 p3 tt c1 c2 c3 gt ot => ?_⟩
      have h3 := k3 _ _ rfl h2
      have lu := Paired.length pt
      have fx : Fix H3 (upd H3 D (.lst (us ++ [v]))) := Fix.put h3
      refine ⟨_, h3, size_lt (by omega), us ++ [v], ts ++ [t], Keep.mut (k2.trans k3) hD, (p3.mut h3 pD).mono (by omega), upd_same, ((TrsP.keep pt k3).fix fx).app (.cons (tt.fix fx) .nil), ⟨fun x hx => ?_, fun x hx => ?_⟩, by rw [List.length_append, lt]; rfl, ?_, ?_, fun x hx => ?_⟩
      · rcases List.mem_append.mp hx with hx | hx
        · exact ok.good x hx
        · rw [List.mem_singleton.mp hx]; exact gt
      · rcases List.mem_append.mp hx with hx | hx
        · exact ok.of x hx
        · rw [List.mem_singleton.mp hx]; exact ot
      · rw [totM_app, tm]; show j + (t.many + 0) = j + 1; omega
      · rw [totN_app, tn]; show 0 + (t.nots + 0) = 0; omega
      · rcases List.mem_append.mp hx with hx | hx
        · exact td x hx
        · rw [List.mem_singleton.mp hx]; omega
    · rintro H2 ⟨us, ts, k2, p2, h2, pt, ok, lt, tm, tn, td⟩
      walk_at "rd"
      refine ⟨LInv H p L l (n + 53 * m) m cs, ⟨m, ⟨D, us, ts, 0, _, _, rfl, lt.symm, m1, Nat.le_refl _, k2, p2.mono (by omega), h2, pt, ok, tm, tn, td, by omega, by decide⟩⟩, ?_⟩
      rintro i σ H3 ⟨q, us, ts, r, x4, x5, rfl, ek, k1, km, k3, p3, h3, pt, ok, tm, tn, td, rr, r6⟩
      have lu := Paired.length pt
      walk_at "rd"
      refine ite_d (fun hA => ?_) (fun hA => ?_)
      · have i2 : 2 ≤ i := by omega
        refine ⟨_, fun σ' H' h => h, ?_⟩
        obtain ⟨rr2, r5⟩ := round_up (show 1 < i by omega) rr
        walk_at "rd"
        refine ⟨Nat.zero_le _, fun fl hfl => ?_⟩
        obtain ⟨H4, e4, s4, h4⟩ := new_heap (o := .lst []) hfl
        rw [e4]
        have npf : NP H fl := k3.np hfl
        have Lf := p3.ne hfl
        have nqf : q ≠ fl := ne_of_none h3 hfl
        have h4q := s4 _ _ h3
        have k4 := k3.trans (Same.keep s4)
        walk_at "rd"
        refine i_r3 ?_
        walk_at "rd"
        refine ⟨_, _, _, i / 2, rfl, by rw [← lu, ← ek]; exact rg_half (by omega), for_rangeC (lo := 0) (c := 2) (n := i / 2) (fun j σ' H' => ∃ ufs fts x5', σ' = [some (.ref p), some (.ref l), some (.int (m : Int)), some (.ref q), some (.ref fl), x5'] ∧ Keep H H' ∧ H' q = some (.lst us) ∧ H' fl = some (.lst ufs) ∧ TrsP H' ts us ∧ TrsP H' fts ufs ∧ Pen H' p L (n + 53 * m + (m - i) + j) ∧ TrsOk cs fts ∧ fts.length = j ∧ totM fts = totM (ts.take (2 * j)) ∧ totN fts = 0 ∧ ∀ t, t ∈ fts → t.deep ≤ r + 1 + 1) ⟨[], [], x5, rfl, k4, h4q, h4, pt.fix (Same.fix s4), .nil, (p3.up s4).mono (by omega), ⟨fun t h => absurd h List.not_mem_nil, fun t h => absurd h List.not_mem_nil⟩, rfl, congrArg totM (List.take_zero (l := ts)).symm, rfl, fun t h => absurd h List.not_mem_nil⟩ ?_ ?_⟩
        · rintro j σ' H5 hj ⟨ufs, fts, x5', rfl, k5, h5q, h5f, pt5, pf5, p5, fok, fl5, fm, fn, fd⟩
          have hj1 : 2 * j + 1 < ts.length := by omega
          have hj0 : 2 * j < ts.length := by omega
          have luf := Paired.length pf5
          walk_at "rd"
          refine i_tyL h5f ?_
          walk_at "rd"
          refine ⟨size_of (Nat.le_of_ble_eq_true rfl), fun a ha => ?_⟩
          obtain ⟨H6, e6, s6, h6⟩ := new_heap (o := .lst [.str "and", .str "or"]) ha
          rw [e6]
          walk_at "rd"
          refine ⟨p, L, _, 2, rfl, p5.up s6, by omega, by decide, by decide, fun d7 H7 u0 u1 k7 p7 => ?_⟩
          obtain ⟨wd, ew, hwd⟩ : ∃ wd : Str, atI [V.str "and", V.str "or"] d7 = some (.str wd) ∧ (wd = "and" ∨ wd = "or") := by
            obtain e | e : d7 = 0 ∨ d7 = 1 := by omega
            · rw [e]; exact ⟨"and", rfl, .inl rfl⟩
            · rw [e]; exact ⟨"or", rfl, .inr rfl⟩
          refine i_ixL (k7 _ _ rfl h6) ew ?_
          have k57 := (Same.keep s6).trans k7
          have h7q := k57 _ _ rfl h5q
          have h7f := k57 _ _ rfl h5f
          obtain ⟨v1, ev1, tv1⟩ := trs_get (TrsP.keep pt5 k57) hj0
          obtain ⟨v2, ev2, tv2⟩ := trs_get (TrsP.keep pt5 k57) hj1
          walk_at "rd"
          refine i_ixL h7q (v := v1) (by rw [show (0 : Int) + (j : Int) * 2 = ((2 * j : Nat) : Int) from by omega]; exact atI_nat ev1) ?_
          walk_at "rd"
          refine i_ixL h7q (v := v2) (by rw [show (0 : Int) + (j : Int) * 2 + 1 = ((2 * j + 1 : Nat) : Int) from by omega]; exact atI_nat ev2) ?_
          walk_at "rd"
          refine ⟨size_of (Nat.le_of_ble_eq_true rfl), fun c hc => ?_⟩
          obtain ⟨H8, e8, s8, h8⟩ := new_heap (o := .tup [.str wd, v1, v2]) hc
          rw [e8]
          have h8f := s8 _ _ h7f
          have k58 := k57.trans (Same.keep s8)
          walk_at "rd"
          refine i_app h8f (by omega) ?_
          obtain ⟨nt, tn3, gn, on, mn, nn, dn⟩ : ∃ nt : Tr, TreeAt H8 nt (.ref c) ∧ GoodT nt ∧ Of cs nt ∧ nt.many = ts[2 * j].many + ts[2 * j + 1].many ∧ nt.nots = ts[2 * j].nots + ts[2 * j + 1].nots ∧ nt.deep ≤ r + 1 + 1 := by
            have g1 := ok.good _ (List.getElem_mem hj0)
            have g2 := ok.good _ (List.getElem_mem hj1)
            have o1 := ok.of _ (List.getElem_mem hj0)
            have o2 := ok.of _ (List.getElem_mem hj1)
            have d1 := td _ (List.getElem_mem hj0)
            have d2 := td _ (List.getElem_mem hj1)
            rcases hwd with rfl | rfl
            · exact ⟨.an ts[2 * j] ts[2 * j + 1], ⟨c, v1, v2, rfl, h8, tv1.up s8, tv2.up s8⟩, ⟨g1, g2⟩, of_two o1 o2, rfl, rfl, by simp only [Tr.deep]; omega⟩
            · exact ⟨.ou ts[2 * j] ts[2 * j + 1], ⟨c, v1, v2, rfl, h8, tv1.up s8, tv2.up s8⟩, ⟨g1, g2⟩, of_two o1 o2, rfl, rfl, by simp only [Tr.deep]; omega⟩
          have n0 : nt.nots = 0 := by
            have e := split_at hj1
            have e2 : totN ts = totN (ts.take (2 * j)) + (ts[2 * j].nots + (ts[2 * j + 1].nots + totN (ts.drop (2 * j + 2)))) := by
              conv => lhs; rw [e]
              rw [totN_app]
              rfl
            omega
          have fx : Fix H8 (upd H8 fl (.lst (ufs ++ [.ref c]))) := Fix.put h8f
          refine ⟨_, fts ++ [nt], _, rfl, Keep.mutN (k5.trans k58) npf, ?_, upd_same, ((TrsP.keep pt5 k58)).fix fx, ((TrsP.keep pf5 k58).fix fx).app (.cons (tn3.fix fx) .nil), ((p7.up s8).mut h8f Lf).mono (by omega), ⟨fun x hx => ?_, fun x hx => ?_⟩, by rw [List.length_append, fl5]; rfl, ?_, ?_, fun x hx => ?_⟩
          · rw [upd_ne nqf]
            exact s8 _ _ h7q
          · rcases List.mem_append.mp hx with hx | hx
            · exact fok.good x hx
            · rw [List.mem_singleton.mp hx]; exact gn
          · rcases List.mem_append.mp hx with hx | hx
            · exact fok.of x hx
            · rw [List.mem_singleton.mp hx]; exact on
          · rw [totM_app, take_two hj1, totM_app, fm]
            show _ + (nt.many + 0) = _ + (ts[2 * j].many + (ts[2 * j + 1].many + 0))
            omega
          · rw [totN_app, fn]
            show 0 + (nt.nots + 0) = 0
            omega
          · rcases List.mem_append.mp hx with hx | hx
            · exact fd x hx
            · rw [List.mem_singleton.mp hx]; exact dn
        · rintro σ' H5 ⟨ufs, fts, x5', rfl, k5, h5q, h5f, pt5, pf5, p5, fok, fl5, fm, fn, fd⟩
          have luf := Paired.length pf5
          walk_at "rd"
          refine i_sl ?_
          walk_at "rd"
          refine i_part ?_
          walk_at "rd"
          refine ⟨_, rfl, i_noPart ?_⟩
          rw [show (2 : Int) * (ufs.length : Int) = ((2 * ufs.length : Nat) : Int) from by omega]
          refine ⟨q, us, rfl, SqL.of h5q, fun p6 hp6 => ?_⟩
          rw [cut_drop]
          obtain ⟨H6, e6, s6, h6⟩ := new_heap (o := .lst (us.drop (2 * ufs.length))) hp6
          rw [e6]
          refine ⟨fl, p6, _, _, rfl, rfl, s6 _ _ h5f, h6, size_of (by rw [List.length_drop]; omega), fun c hc => ?_⟩
          obtain ⟨H7, e7, s7, h7⟩ := new_heap (o := .lst (ufs ++ us.drop (2 * ufs.length))) hc
          rw [e7]
          have s57 : Same H5 H7 := fun b o z => s7 _ _ (s6 _ _ z)
          have e2 : 2 * ufs.length = 2 * (i / 2) := by omega
          rw [e2] at h7
          have eM : totM ts = totM (ts.take (2 * (i / 2))) + totM (ts.drop (2 * (i / 2))) := by
            conv => lhs; rw [← List.take_append_drop (2 * (i / 2)) ts]
            rw [totM_app]
          have eN : totN ts = totN (ts.take (2 * (i / 2))) + totN (ts.drop (2 * (i / 2))) := by
            conv => lhs; rw [← List.take_append_drop (2 * (i / 2)) ts]
            rw [totN_app]
          have el : (fts ++ ts.drop (2 * (i / 2))).length = i - i / 2 := by
            rw [List.length_append, List.length_drop]
            omega
          refine ⟨i - i / 2, by omega, ⟨c, _, fts ++ ts.drop (2 * (i / 2)), r + 1, _, _, rfl, el.symm, by omega, by omega, k5.trans (Same.keep s57), (p5.up s57).mono (by omega), h7, (pf5.fix (Same.fix s57)).app (trs_drop _ (pt5.fix (Same.fix s57))), ⟨fun x hx => ?_, fun x hx => ?_⟩, by rw [totM_app]; omega, by rw [totN_app]; omega, fun x hx => ?_, rr2, by omega⟩⟩
          · rcases List.mem_append.mp hx with hx | hx
            · exact fok.good x hx
            · exact ok.good x (List.mem_of_mem_drop hx)
          · rcases List.mem_append.mp hx with hx | hx
            · exact fok.of x hx
            · exact ok.of x (List.mem_of_mem_drop hx)
          · rcases List.mem_append.mp hx with hx | hx
            · exact fd x hx
            · exact Nat.le_succ_of_le (td x (List.mem_of_mem_drop hx))
      · have i1 : i = 1 := by omega
        subst i1
        walk_at "rd"
        match ts, us, pt, ek with
        | [t], [v], .cons rt .nil, _ =>
          refine i_ixL h3 (v := v) rfl ?_
          walk_at "rd"
          refine ⟨size_of (Nat.le_of_ble_eq_true rfl), fun a ha => ?_⟩
          obtain ⟨H4, e4, s4, h4⟩ := new_heap (o := .tup [.str "not", v]) ha
          rw [e4]
          have gt := ok.good t (List.mem_cons_self ..)
          have ot := ok.of t (List.mem_cons_self ..)
          have dt := td t (List.mem_cons_self ..)
          have tm' : t.many = m := by simpa [totM] using tm
          have tn' : t.nots = 0 := by simpa [totN] using tn
          have wm := words_many (.no t)
          have cm := cols_many t
          have sm := sd_deep (.no t)
          have em : Tr.many (.no t) = t.many := rfl
          have en : Tr.nots (.no t) = t.nots + 1 := rfl
          have ed : Tr.deep (.no t) = t.deep + 1 := rfl
          exact k (.ref a) H4 (.no t) (k3.trans (Same.keep s4)) ((p3.up s4).mono (by omega)) ⟨a, v, rfl, h4, rt.up s4⟩ ⟨gt, by omega, by omega, by show t.cols.length < 64; omega, by omega, by omega, by omega⟩ ot
end
end Spk

set_option Elab.async false
set_option linter.all false
set_option maxRecDepth 100000
set_option maxHeartbeats 2000000
namespace Spk
open PySem L2 TL
local macro_rules | `(tactic| walk_at "rd") => `(tactic| repeat (first
  | with_reducible refine i_seq ?_ | with_reducible refine i_asg ?_ | with_reducible refine i_ret ?_ | with_reducible refine i_ifS ?_ | with_reducible refine i_if ?_
  | with_reducible refine i_for ?_ | with_reducible refine i_iL ?_ | with_reducible refine i_iT ?_ | with_reducible refine i_ckw ?_ | with_reducible refine i_cm ?_ | with_reducible refine And.intro (rfl : V.ref _ = V.ref _) ?_ | with_reducible refine i_rng1 ?_ | with_reducible refine i_bm ?_ | with_reducible refine i_bm0 ?_
  | with_reducible refine i_drop ?_ | with_reducible refine i_next ?_
  | with_reducible refine i_var rfl ?_ | with_reducible refine i_c ?_ | with_reducible refine i_op ?_ | with_reducible refine i_un ?_ | with_reducible refine i_name ?_
  | with_reducible refine i_rI0 ?_ | with_reducible refine i_rU ?_ | with_reducible refine i_rEq rfl ?_ | with_reducible refine i_rNe rfl ?_
  | with_reducible refine i_test ?_ | with_reducible refine i_tB ?_ | with_reducible refine i_and ?_ | with_reducible refine i_or ?_ | with_reducible refine i_not ?_
  | with_reducible refine i_andV ?_ | with_reducible refine i_orV ?_ | with_reducible refine i_notV ?_
  | with_reducible refine i_cons ?_ | with_reducible refine i_nil ?_ | with_reducible refine i_cb ?_ | with_reducible refine i_call ?_ | with_reducible refine i_bl ?_
  | with_reducible refine i_tup ?_ | with_reducible refine i_lst ?_ | with_reducible refine i_par ?_ | with_reducible refine i_gcons ?_ | with_reducible refine i_gnil ?_
  | with_reducible refine And.intro (rfl : V.non = V.non) ?_ | with_reducible refine i_ixT (by assumption) rfl ?_ | with_reducible refine i_ixL (by assumption) rfl ?_ | with_reducible refine i_gtup (by assumption) rfl ?_
  | with_reducible refine i_gsub ?_
  | with_reducible refine Or.inl (Exists.intro _ (And.intro (rfl : [V.int _] = [V.int _]) ?_)) | with_reducible refine Exists.intro _ (And.intro (rfl : [V.int _] = [V.int _]) ?_)
  | with_reducible refine Or.inr (Exists.intro _ (And.intro (rfl : [V.bl _] = [V.bl _]) ?_))
  | with_reducible refine Exists.intro _ (Exists.intro _ (And.intro (rfl : [V.int _, V.int _] = [V.int _, V.int _]) ?_))
  | with_reducible refine Exists.intro _ (Exists.intro _ (And.intro (rfl : [V.ref _] = [V.ref _]) (And.intro (Or.inl (SqL.of (by assumption))) ?_)))
  | with_reducible refine i_rI (show (0 : Int) < _ by assumption) ?_ | with_reducible refine i_rI (show (0 : Int) < _ by decide) ?_
  | with_reducible refine i_rI (pow_ok (Nat.le_of_ble_eq_true rfl) (Nat.le_of_ble_eq_true rfl)) ?_
  | with_reducible refine i_rI (cmulL rfl) ?_))
theorem trs_at {H : Hp} : ∀ {ts : List Tr} {us : List V} {k : Nat} (_ : TrsP H ts us) (hk : k < ts.length), ∃ v, us[k]? = some v ∧ TreeAt H ts[k] v
  | _, _, 0, .cons r t, hk => ⟨_, rfl, r⟩
  | _, _, k + 1, .cons r t, hk => trs_at t (Nat.lt_of_succ_lt_succ hk)
section
variable {P : Program} {w : World} {K : PySem.W.Frag} {mg : Str → Option Value} {base : Heap} {C CP fI fE fPI hM hN hC hE hR hA hQ hF D fJ : Addr} {md : Value} {pw pm pa pn gw gm ga gn dA dO dV dC : Addr}
abbrev s_filter : Stmt := top 56
theorem sc_filter : FnScope ["_law_tree_here", "_law_first", "_law_second"] ["_law_tree_here"] (defScope s_filter) := ⟨rfl, rfl, rfl, by decide +kernel, rfl, by decide +kernel, by decide +kernel⟩
/-- the filter of a tree of this depth -/
def sp_lfilter (D : Addr) (d : Nat) : Sp := fun vs H Q _ => ∃ v t, vs = [v] ∧ TreeAt H t v ∧ GoodT t ∧ t.deep ≤ d ∧ t.cols.length < 64 ∧ ∀ g H', Same H H' → Fil D H' g t → Q (.ref g) H'
theorem ok_lfilter {f fR : Addr} {fd fdR : FuncData} (F : Fun K "_law_filter" "_law_filter" s_filter f fd) (B_filter : Binds K fd ["_law_tree_here"] []) (g_filter : mg "_law_filter" = some (.ref f)) (T : ClsF K mg D fJ) (CF : ClsG K D md pw pm pa pn gw gm ga gn dA dO dV dC)
    (RF_within : FnR P w K mg base CX0 3 gw (fun vs H Q E => sp_fwithin C D (vs ++ []) H Q E)) (RF_missing : FnR P w K mg base CX0 3 gm (fun vs H Q E => sp_fmissing D (vs ++ []) H Q E)) (RF_always : FnR P w K mg base CX0 3 ga (fun vs H Q E => sp_falways D (vs ++ []) H Q E)) (RF_never : FnR P w K mg base CX0 3 gn (fun vs H Q E => sp_fnever D (vs ++ []) H Q E))
    (RF_and : FnR P w K mg base CX0 3 dA (fun vs H Q E => sp_fand D (vs ++ []) H Q E)) (RF_or : FnR P w K mg base CX0 3 dO (fun vs H Q E => sp_for D (vs ++ []) H Q E)) (RF_inv : FnR P w K mg base CX0 3 dV (fun vs H Q E => sp_finv D (vs ++ []) H Q E))
    (F_Lranges : Fun K "_law_ranges" "_law_ranges" s_Lranges fR fdR) (B_Lranges : Binds K fdR ["_law_parts_here"] []) (g_Lranges : mg "_law_ranges" = some (.ref fR)) (G_Lranges : FnOk P w K mg base CX0 6 fR fdR ["_law_parts_here"] (sp_rangesT C)) :
    ∀ d, FnOk P w K mg base CX0 (d + 7) f fd ["_law_tree_here"] (sp_lfilter D d) := by
  have g_CF := T.g_CF
  have F_filter := F
  intro d
  induction d with
  | zero =>
    refine F.ok sc_filter (fun vs H Q E h => ?_) (fun cdv A outer s H vs Q E hr h => ?_)
    · obtain ⟨v, t, rfl, _⟩ := h
      rfl
    · obtain ⟨v, t, rfl, ht, hg, hd, _⟩ := h
      cases t <;> exact absurd hd (by simp [Tr.deep])
  | succ d G_filter =>
    refine F.ok sc_filter (fun vs H Q E h => ?_) (fun cdv A outer s H vs Q E hr h => ?_)
    · obtain ⟨v, t, rfl, _⟩ := h
      rfl
    · obtain ⟨v, t, rfl, ht, hg, hd, hc, q⟩ := h
      refine ⟨_, (pss_cons (ps_if (pt_cmpR op_eq (pe_ix ix_tup (pv 0) pe_int (fun _ _ => rfl)) pe_str (nomark _))
 (pss_one (ps_ret (ClX.pe_cmeth (pe_glob rfl g_CF (relR _)) CF.rd CF.within RF_within (hr.mono (by omega)) pass0 (pa_cons (pe_ix ix_tup (pv 0) pe_int (fun _ _ => rfl)) (pa_cons (pe_call G_Lranges (hr.mono (by omega)) rfl g_Lranges F_Lranges.kp B_Lranges .nil pass0 (pa_cons (pe_ix ix_tup (pv 0) pe_int (fun _ _ => rfl)) pa_nil)) pa_nil)))))
 pss_nil)
 (pss_cons (ps_if (pt_cmpR op_eq (pe_ix ix_tup (pv 0) pe_int (fun _ _ => rfl)) pe_str (nomark _))
 (pss_one (ps_ret (ClX.pe_cmeth (pe_glob rfl g_CF (relR _)) CF.rd CF.missing RF_missing (hr.mono (by omega)) pass0 (pa_cons (pe_ix ix_tup (pv 0) pe_int (fun _ _ => rfl)) pa_nil))))
 pss_nil)
 (pss_cons (ps_if (pt_cmpR op_in_seq (pe_ix ix_tup (pv 0) pe_int (fun _ _ => rfl)) (pe_tup (pa_cons pe_str (pa_cons pe_str pa_nil))) (by rfl))
 (pss_one (ps_ret (pe_ifExp (pt_cmpR op_eq (pe_ix ix_tup (pv 0) pe_int (fun _ _ => rfl)) pe_str (nomark _)) (pe_cmeth0 (pe_glob rfl g_CF (relR _)) CF.rd CF.always RF_always (hr.mono (by omega)) pass0) (pe_cmeth0 (pe_glob rfl g_CF (relR _)) CF.rd CF.never RF_never (hr.mono (by omega)) pass0))))
 pss_nil)
 (pss_cons (ps_set (i := 1) sc_filter.nd rfl (Or.inl rfl) (pe_call G_filter (hr.mono (by omega)) rfl g_filter F_filter.kp B_filter .nil pass0 (pa_cons (pe_ix ix_tup (pv 0) pe_int (fun _ _ => rfl)) pa_nil)))
 (pss_cons (ps_if (pt_cmpR op_eq (pe_ix ix_tup (pv 0) pe_int (fun _ _ => rfl)) pe_str (nomark _))
 (pss_one (ps_ret (pe_un (un_own RF_inv (hr.mono (by omega)) CF.invF CF.invI) (pv 1))))
 pss_nil)
 (pss_cons (ps_set (i := 2) sc_filter.nd rfl (Or.inl rfl) (pe_call G_filter (hr.mono (by omega)) rfl g_filter F_filter.kp B_filter .nil pass0 (pa_cons (pe_ix ix_tup (pv 0) pe_int (fun _ _ => rfl)) pa_nil)))
 (pss_one (ps_ret (pe_ifExp (pt_cmpR op_eq (pe_ix ix_tup (pv 0) pe_int (fun _ _ => rfl)) pe_str (nomark _)) (pe_op (op_own (op := .BitAnd) RF_and (hr.mono (by omega)) CF.self CF.andF CF.andI) (pv 1) (pv 2)) (pe_op (op_own (op := .BitOr) RF_or (hr.mono (by omega)) CF.self CF.orF CF.orI) (pv 1) (pv 2))))))))))), ?_⟩
      cases t with
      | wi c ps =>
        obtain ⟨a, p, rfl, h1, ⟨us, h2, tu⟩, ca⟩ := ht
        walk_at "rd"
        refine s_yes ?_
        walk_at "rd"
        refine ⟨p, us, ps, rfl, h2, tu, Nat.le_trans hg.2.2.2 (by decide), fun r H1 rs s1 hr1 hm hn1 => ?_⟩
        obtain rfl : rs = ps := canon_unique hr1.canon ca hm
        walk_at "rd"
        exact ⟨c, r, rs, rfl, hr1, fun g H2 s2 hg2 => q g H2 (fun b o z => s2 _ _ (s1 _ _ z)) hg2⟩
      | mi c =>
        obtain ⟨a, rfl, h1⟩ := ht
        walk_at "rd"
        refine s_no rfl ?_
        walk_at "rd"
        refine s_yes ?_
        walk_at "rd"
        exact ⟨c, rfl, q⟩
      | al =>
        obtain ⟨a, rfl, h1⟩ := ht
        walk_at "rd"
        refine s_no rfl ?_
        walk_at "rd"
        refine s_no rfl ?_
        walk_at "rd"
        refine ⟨size_of (Nat.le_of_ble_eq_true rfl), fun b hb => ?_⟩
        obtain ⟨H1, e1, s1, h2⟩ := new_heap (o := .tup [.str "always", .str "never"]) hb
        rw [e1]
        refine ⟨b, _, rfl, .inr (SqT.of h2), rfl, rfl, ?_⟩
        rw [show inV (V.str "always") [V.str "always", V.str "never"] = true from by decide]
        refine ⟨true, rfl, iteT ?_⟩
        have h1' := s1 _ _ h1
        walk_at "rd"
        refine s_yes ?_
        walk_at "rd"
        exact ⟨rfl, fun g H2 s2 hg2 => q g H2 (fun b o z => s2 _ _ (s1 _ _ z)) hg2⟩
      | ne =>
        obtain ⟨a, rfl, h1⟩ := ht
        walk_at "rd"
        refine s_no rfl ?_
        walk_at "rd"
        refine s_no rfl ?_
        walk_at "rd"
        refine ⟨size_of (Nat.le_of_ble_eq_true rfl), fun b hb => ?_⟩
        obtain ⟨H1, e1, s1, h2⟩ := new_heap (o := .tup [.str "always", .str "never"]) hb
        rw [e1]
        refine ⟨b, _, rfl, .inr (SqT.of h2), rfl, rfl, ?_⟩
        rw [show inV (V.str "never") [V.str "always", V.str "never"] = true from by decide]
        refine ⟨true, rfl, iteT ?_⟩
        have h1' := s1 _ _ h1
        walk_at "rd"
        refine s_no rfl ?_
        walk_at "rd"
        exact ⟨rfl, fun g H2 s2 hg2 => q g H2 (fun b o z => s2 _ _ (s1 _ _ z)) hg2⟩
      | an l r =>
        obtain ⟨a, x, y, rfl, h1, h2, h3⟩ := ht
        have d1 : l.deep ≤ d ∧ r.deep ≤ d := by
          simp only [Tr.deep] at hd
          omega
        have cc : l.cols.length + r.cols.length < 64 := by
          simp only [Tr.cols, List.length_append] at hc
          exact hc
        walk_at "rd"
        refine s_no rfl ?_
        walk_at "rd"
        refine s_no rfl ?_
        walk_at "rd"
        refine ⟨size_of (Nat.le_of_ble_eq_true rfl), fun b hb => ?_⟩
        obtain ⟨H1, e1, s1, h4⟩ := new_heap (o := .tup [.str "always", .str "never"]) hb
        rw [e1]
        refine ⟨b, _, rfl, .inr (SqT.of h4), rfl, rfl, ?_⟩
        rw [show inV (V.str "and") [V.str "always", V.str "never"] = false from by decide]
        refine ⟨false, rfl, iteF ?_⟩
        have h1' := s1 _ _ h1
        walk_at "rd"
        refine ⟨x, l, rfl, h2.up s1, hg.1, d1.1, by omega, fun g1 H2 s2 hg1 => ?_⟩
        have h1'' := s2 _ _ h1'
        walk_at "rd"
        refine s_no rfl ?_
        walk_at "rd"
        refine ⟨y, r, rfl, (h3.up s1).up s2, hg.2, d1.2, by omega, fun g2 H3 s3 hg2 => ?_⟩
        have h1t := s3 _ _ h1''
        walk_at "rd"
        refine s_yes ?_
        walk_at "rd"
        exact i_fB (hg1.up s3) hg2 ⟨g1, g2, l, r, rfl, hg1.up s3, hg2, cc, fun g H4 s4 h => q g H4 (fun b o z => s4 _ _ (s3 _ _ (s2 _ _ (s1 _ _ z)))) h⟩
      | ou l r =>
        obtain ⟨a, x, y, rfl, h1, h2, h3⟩ := ht
        have d1 : l.deep ≤ d ∧ r.deep ≤ d := by
          simp only [Tr.deep] at hd
          omega
        have cc : l.cols.length + r.cols.length < 64 := by
          simp only [Tr.cols, List.length_append] at hc
          exact hc
        walk_at "rd"
        refine s_no rfl ?_
        walk_at "rd"
        refine s_no rfl ?_
        walk_at "rd"
        refine ⟨size_of (Nat.le_of_ble_eq_true rfl), fun b hb => ?_⟩
        obtain ⟨H1, e1, s1, h4⟩ := new_heap (o := .tup [.str "always", .str "never"]) hb
        rw [e1]
        refine ⟨b, _, rfl, .inr (SqT.of h4), rfl, rfl, ?_⟩
        rw [show inV (V.str "or") [V.str "always", V.str "never"] = false from by decide]
        refine ⟨false, rfl, iteF ?_⟩
        have h1' := s1 _ _ h1
        walk_at "rd"
        refine ⟨x, l, rfl, h2.up s1, hg.1, d1.1, by omega, fun g1 H2 s2 hg1 => ?_⟩
        have h1'' := s2 _ _ h1'
        walk_at "rd"
        refine s_no rfl ?_
        walk_at "rd"
        refine ⟨y, r, rfl, (h3.up s1).up s2, hg.2, d1.2, by omega, fun g2 H3 s3 hg2 => ?_⟩
        have h1t := s3 _ _ h1''
        walk_at "rd"
        refine s_no rfl ?_
        walk_at "rd"
        exact i_fB (hg1.up s3) hg2 ⟨g1, g2, l, r, rfl, hg1.up s3, hg2, cc, fun g H4 s4 h => q g H4 (fun b o z => s4 _ _ (s3 _ _ (s2 _ _ (s1 _ _ z)))) h⟩
      | no t =>
        obtain ⟨a, x, rfl, h1, h2⟩ := ht
        have d1 : t.deep ≤ d := by
          simp only [Tr.deep] at hd
          omega
        walk_at "rd"
        refine s_no rfl ?_
        walk_at "rd"
        refine s_no rfl ?_
        walk_at "rd"
        refine ⟨size_of (Nat.le_of_ble_eq_true rfl), fun b hb => ?_⟩
        obtain ⟨H1, e1, s1, h4⟩ := new_heap (o := .tup [.str "always", .str "never"]) hb
        rw [e1]
        refine ⟨b, _, rfl, .inr (SqT.of h4), rfl, rfl, ?_⟩
        rw [show inV (V.str "not") [V.str "always", V.str "never"] = false from by decide]
        refine ⟨false, rfl, iteF ?_⟩
        have h1' := s1 _ _ h1
        walk_at "rd"
        refine ⟨x, t, rfl, h2.up s1, hg, d1, hc, fun g1 H2 s2 hg1 => ?_⟩
        have h1'' := s2 _ _ h1'
        walk_at "rd"
        refine s_yes ?_
        walk_at "rd"
        exact i_fU hg1 ⟨g1, t, rfl, hg1, fun g H4 s4 h => q g H4 (fun b o z => s4 _ _ (s2 _ _ (s1 _ _ z))) h⟩
abbrev s_words : Stmt := top 57
theorem sc_words : FnScope ["_law_tree_here", "_law_sign", "_law_found", "_law_part"] ["_law_tree_here"] (defScope s_words) := ⟨rfl, rfl, rfl, by decide +kernel, rfl, by decide +kernel, by decide +kernel⟩
/-- the words of a tree of this depth -/
def sp_lwords (d : Nat) : Sp := fun vs H Q _ => ∃ v t, vs = [v] ∧ TreeAt H t v ∧ GoodT t ∧ t.deep ≤ d ∧ (wordsT t).length ≤ 400 ∧ ∀ l H', Same H H' → H' l = some (.lst ((wordsT t).map V.str)) → Q (.ref l) H'
theorem ok_lwords {f fR : Addr} {fd fdR : FuncData} (F : Fun K "_law_words" "_law_words" s_words f fd) (B_words : Binds K fd ["_law_tree_here"] []) (g_words : mg "_law_words" = some (.ref f))
    (F_parts_text : Fun K "_law_parts_text" "_law_parts_text" s_parts_text fR fdR) (B_parts_text : Binds K fdR ["_law_parts_here"] []) (g_parts_text : mg "_law_parts_text" = some (.ref fR)) (G_parts_text : FnOk P w K mg base CX0 1 fR fdR ["_law_parts_here"] sp_ptext) (z_list : mg "list" = none) :
    ∀ d, FnOk P w K mg base CX0 (d + 2) f fd ["_law_tree_here"] (sp_lwords d) := by
  have F_words := F
  intro d
  induction d with
  | zero =>
    refine F.ok sc_words (fun vs H Q E h => ?_) (fun cdv A outer s H vs Q E hr h => ?_)
    · obtain ⟨v, t, rfl, _⟩ := h
      rfl
    · obtain ⟨v, t, rfl, ht, hg, hd, _⟩ := h
      cases t <;> exact absurd hd (by simp [Tr.deep])
  | succ d G_words =>
    refine F.ok sc_words (fun vs H Q E h => ?_) (fun cdv A outer s H vs Q E hr h => ?_)
    · obtain ⟨v, t, rfl, _⟩ := h
      rfl
    · obtain ⟨v, t, rfl, ht, hg, hd, hz, q⟩ := h
      refine ⟨_, (pss_cons (ps_if (pt_cmpR op_eq (pe_ix ix_tup (pv 0) pe_int (fun _ _ => rfl)) pe_str (nomark _))
 (pss_one (ps_ret (pe_lst (pa_cons pe_str (pa_cons (pe_ix ix_tup (pv 0) pe_int (fun _ _ => rfl)) (pa_cons (pe_call G_parts_text (hr.mono (by omega)) rfl g_parts_text F_parts_text.kp B_parts_text .nil pass0 (pa_cons (pe_ix ix_tup (pv 0) pe_int (fun _ _ => rfl)) pa_nil)) pa_nil))))))
 pss_nil)
 (pss_cons (ps_if (pt_cmpR op_in_seq (pe_ix ix_tup (pv 0) pe_int (fun _ _ => rfl)) (pe_tup (pa_cons pe_str (pa_cons pe_str (pa_cons pe_str pa_nil)))) (by rfl))
 (pss_one (ps_ret (pe_callTy call_list_of (by rfl) z_list (by decide +kernel) (pa_cons (pv 0) pa_nil))))
 pss_nil)
 (pss_cons (ps_set (i := 1) sc_words.nd rfl (Or.inl rfl) (pe_dget (Nat.lt_of_le_of_lt (Nat.add_le_add_left (by decide : 1 ≤ 64) _) hr.units) (pe_disp (pps_cons pe_str pe_str (pps_cons pe_str pe_str (pps_cons pe_str pe_str pps_nil))) (by rfl) (by rfl) (fun z => by cases z) (by decide)) (pe_ix ix_tup (pv 0) pe_int (fun _ _ => rfl)) (fun _ _ => rfl)))
 (pss_cons (ps_set (i := 2) sc_words.nd rfl (Or.inl rfl) (pe_lst (pa_cons (pv 1) pa_nil)))
 (pss_cons (ps_for PassesOwn.never rfl (pi_tup (pe_slice sl_tup (pv 0) (po_some pe_int) po_none)) (pg_name (i := 3) sc_words.nd rfl (Or.inl rfl))
 (pss_one (ps_set (i := 2) sc_words.nd rfl (Or.inl rfl) (pe_op op_cat (pv 2) (pe_call G_words (hr.mono (by omega)) rfl g_words F_words.kp B_words .nil pass0 (pa_cons (pv 3) pa_nil))))))
 (pss_one (ps_ret (pv 2)))))))), ?_⟩
      by_cases hl : leafT t
      · cases t with
        | an l r => exact hl.elim
        | ou l r => exact hl.elim
        | no t => exact hl.elim
        | al =>
          obtain ⟨a, rfl, h1⟩ := ht
          walk_at "rd"
          refine s_no rfl ?_
          walk_at "rd"
          refine ⟨size_of (Nat.le_of_ble_eq_true rfl), fun b hb => ?_⟩
          obtain ⟨H1, e1, s1, h2⟩ := new_heap (o := .tup [.str "missing", .str "always", .str "never"]) hb
          rw [e1]
          refine ⟨b, _, rfl, .inr (SqT.of h2), rfl, rfl, ?_⟩
          rw [show inV (V.str "always") [V.str "missing", V.str "always", V.str "never"] = true from by decide]
          refine ⟨true, rfl, iteT ?_⟩
          walk_at "rd"
          refine ⟨a, _, rfl, .inr (SqT.of (s1 _ _ h1)), fun l hl' => ?_⟩
          obtain ⟨H2, e2, s2, h3⟩ := new_heap (o := .lst [.str "always"]) hl'
          rw [e2]
          exact q l H2 (fun b o z => s2 _ _ (s1 _ _ z)) h3
        | ne =>
          obtain ⟨a, rfl, h1⟩ := ht
          walk_at "rd"
          refine s_no rfl ?_
          walk_at "rd"
          refine ⟨size_of (Nat.le_of_ble_eq_true rfl), fun b hb => ?_⟩
          obtain ⟨H1, e1, s1, h2⟩ := new_heap (o := .tup [.str "missing", .str "always", .str "never"]) hb
          rw [e1]
          refine ⟨b, _, rfl, .inr (SqT.of h2), rfl, rfl, ?_⟩
          rw [show inV (V.str "never") [V.str "missing", V.str "always", V.str "never"] = true from by decide]
          refine ⟨true, rfl, iteT ?_⟩
          walk_at "rd"
          refine ⟨a, _, rfl, .inr (SqT.of (s1 _ _ h1)), fun l hl' => ?_⟩
          obtain ⟨H2, e2, s2, h3⟩ := new_heap (o := .lst [.str "never"]) hl'
          rw [e2]
          exact q l H2 (fun b o z => s2 _ _ (s1 _ _ z)) h3
        | mi c =>
          obtain ⟨a, rfl, h1⟩ := ht
          walk_at "rd"
          refine s_no rfl ?_
          walk_at "rd"
          refine ⟨size_of (Nat.le_of_ble_eq_true rfl), fun b hb => ?_⟩
          obtain ⟨H1, e1, s1, h2⟩ := new_heap (o := .tup [.str "missing", .str "always", .str "never"]) hb
          rw [e1]
          refine ⟨b, _, rfl, .inr (SqT.of h2), rfl, rfl, ?_⟩
          rw [show inV (V.str "missing") [V.str "missing", V.str "always", V.str "never"] = true from by decide]
          refine ⟨true, rfl, iteT ?_⟩
          walk_at "rd"
          refine ⟨a, _, rfl, .inr (SqT.of (s1 _ _ h1)), fun l hl' => ?_⟩
          obtain ⟨H2, e2, s2, h3⟩ := new_heap (o := .lst [.str "missing", .str c]) hl'
          rw [e2]
          exact q l H2 (fun b o z => s2 _ _ (s1 _ _ z)) h3
        | wi c ps =>
          obtain ⟨a, p, rfl, h1, h2, ca⟩ := ht
          walk_at "rd"
          refine s_yes ?_
          walk_at "rd"
          refine ⟨p, ps, rfl, h2, hg.2.2.1, Nat.le_trans hg.2.2.2 (by decide), fun H1 s1 => ?_⟩
          walk_at "rd"
          refine ⟨size_of (Nat.le_of_ble_eq_true rfl), fun l hl' => ?_⟩
          obtain ⟨H2, e2, s2, h3⟩ := new_heap (o := .lst [.str "in", .str c, .str (partsT ps)]) hl'
          rw [e2]
          exact q l H2 (fun b o z => s2 _ _ (s1 _ _ z)) h3
      · obtain ⟨a, tag, sg, xs, kids, rfl, ha, hv, kp, ek, kg, kl, kd, n1, n2⟩ : ∃ (a : Addr) (tag sg : Str) (xs : List V) (kids : List Tr), v = .ref a ∧ H a = some (.tup (.str tag :: xs)) ∧ valV SGD (Sum.inr tag) = some (.str sg) ∧ TrsP H kids xs ∧ wordsT t = sg :: allW kids ∧ (∀ k, k ∈ kids → GoodT k) ∧ xs.length ≤ 2 ∧ (∀ k, k ∈ kids → k.deep ≤ d) ∧ (tag == "within") = false ∧ inV (V.str tag) [V.str "missing", V.str "always", V.str "never"] = false := by
          have v1 : valV SGD (Sum.inr "and") = some (.str "&") := by decide +kernel
          have v2 : valV SGD (Sum.inr "or") = some (.str "|") := by decide +kernel
          have v3 : valV SGD (Sum.inr "not") = some (.str "~") := by decide +kernel
          cases t with
          | al => exact absurd trivial hl
          | ne => exact absurd trivial hl
          | mi c => exact absurd trivial hl
          | wi c ps => exact absurd trivial hl
          | an l rt =>
            obtain ⟨a, x, y, rfl, h, tx, ty⟩ := ht
            simp only [Tr.deep] at hd
            exact ⟨a, _, _, [x, y], [l, rt], rfl, h, v1, .cons tx (.cons ty .nil), by simp [wordsT, allW], fun k hk => by
              rcases List.mem_cons.mp hk with e | hk
              · rw [e]; exact hg.1
              · rw [List.mem_singleton.mp hk]; exact hg.2, Nat.le_refl _, fun k hk => by
              rcases List.mem_cons.mp hk with e | hk
              · rw [e]; omega
              · rw [List.mem_singleton.mp hk]; omega, rfl, by decide⟩
          | ou l rt =>
            obtain ⟨a, x, y, rfl, h, tx, ty⟩ := ht
            simp only [Tr.deep] at hd
            exact ⟨a, _, _, [x, y], [l, rt], rfl, h, v2, .cons tx (.cons ty .nil), by simp [wordsT, allW], fun k hk => by
              rcases List.mem_cons.mp hk with e | hk
              · rw [e]; exact hg.1
              · rw [List.mem_singleton.mp hk]; exact hg.2, Nat.le_refl _, fun k hk => by
              rcases List.mem_cons.mp hk with e | hk
              · rw [e]; omega
              · rw [List.mem_singleton.mp hk]; omega, rfl, by decide⟩
          | no t =>
            obtain ⟨a, x, rfl, h, tx⟩ := ht
            simp only [Tr.deep] at hd
            exact ⟨a, _, _, [x], [t], rfl, h, v3, .cons tx .nil, by simp [wordsT, allW], fun k hk => by
              rw [List.mem_singleton.mp hk]; exact hg, by show 1 ≤ 2; decide, fun k hk => by rw [List.mem_singleton.mp hk]; omega, rfl, by decide⟩
        rw [ek] at hz
        walk_at "rd"
        refine i_ixT ha (at_first _ _) ?_
        walk_at "rd"
        refine s_no n1 ?_
        walk_at "rd"
        refine i_ixT ha (at_first _ _) ?_
        walk_at "rd"
        refine ⟨size_of (Nat.le_of_ble_eq_true rfl), fun b hb => ?_⟩
        obtain ⟨H1, e1, s1, h2⟩ := new_heap (o := .tup [.str "missing", .str "always", .str "never"]) hb
        rw [e1]
        refine ⟨b, _, rfl, .inr (SqT.of h2), by rfl, rfl, ?_⟩
        rw [n2]
        refine ⟨false, rfl, iteF ?_⟩
        have ha1 := s1 _ _ ha
        walk_at "rd"
        unfold tDGet
        walk_at "rd"
        unfold tDisp
        intro S hS
        obtain ⟨G0, e0, s0, h0⟩ := new_heap (o := .dK []) hS
        rw [e0]
        unfold tPairs
        walk_at "rd"
        unfold tPairs
        walk_at "rd"
        unfold tPairs
        walk_at "rd"
        unfold tPairs
        refine ⟨h0, SGD, rfl, (by show 3 ≤ 15; decide), ?_⟩
        rw [show mergeK [] SGD = SGD from rfl]
        have sS : Same H1 (upd G0 S (.dK SGD)) := Same.mut s0 hS
        have hS2 : upd G0 S (.dK SGD) S = some (.dK SGD) := upd_same
        generalize upd G0 S (.dK SGD) = H2 at sS hS2
        have ha2 := sS _ _ ha1
        have dg : DGet H2 S (.str tag) (some (.str sg)) := by
          have z := DGet.k (k := Sum.inr tag) hS2
          rw [hv] at z
          exact z
        walk_at "rd"
        refine i_ixT ha2 (at_first _ _) ?_
        walk_at "rd"
        refine ⟨S, _, rfl, dg, ?_⟩
        walk_at "rd"
        refine ⟨size_of (Nat.le_of_ble_eq_true rfl), fun fa hfa => ?_⟩
        obtain ⟨H3, e3, s3, h3⟩ := new_heap (o := .lst [.str sg]) hfa
        rw [e3]
        have s03 : Same H H3 := fun b o z => s3 _ _ (sS _ _ (s1 _ _ z))
        walk_at "rd"
        refine i_sl ?_
        walk_at "rd"
        refine i_part ?_
        walk_at "rd"
        refine ⟨_, rfl, i_noPart ?_⟩
        have e1n : HT.sIx (V.str tag :: xs).length 0 (some 1) = 1 := by
          rw [show (1 : Int) = ((1 : Nat) : Int) from rfl, HT.sIx_nat, List.length_cons]
          omega
        refine ⟨a, _, rfl, SqT.of (s03 _ _ ha), fun z => absurd z.1 (by rw [e1n]; decide), fun p4 hp4 => ?_⟩
        rw [show cutV (V.str tag :: xs) (some 1) none = xs from by
          have e : (1 : Int) = ((1 : Nat) : Int) := rfl
          unfold cutV
          rw [e, HT.sIx_none, HT.sIx_nat]
          rw [show min 1 (V.str tag :: xs).length = 1 from by rw [List.length_cons]; omega]
          rw [show (V.str tag :: xs).drop 1 = xs from rfl, List.take_of_length_le (by rw [List.length_cons]; omega)]]
        obtain ⟨H4, e4, s4, h4⟩ := new_heap (o := .tup xs) hp4
        rw [e4]
        have s04 : Same H H4 := fun b o z => s4 _ _ (s03 _ _ z)
        have lk := Paired.length kp
        refine ⟨p4, rfl, ⟨_, SqT.of h4⟩, for_tup (K := K) (a := p4) (xs := xs) (fun i σ H' => ∃ fb x3, σ = [some (.ref a), some (.str sg), some (.ref fb), x3] ∧ Same H4 H' ∧ H' fb = some (.lst ((sg :: allW (kids.take i)).map V.str))) ⟨fa, none, rfl, Same.refl _, s4 _ _ h3⟩ ?_ ?_ ?_⟩
        · rintro i σ H5 _ ⟨fb, x3, _, s5, _⟩
          exact SqT.of (s5 _ _ h4)
        · rintro i x σ H5 hx ⟨fb, x3, rfl, s5, h5⟩
          have hi : i < kids.length := by
            have := (List.getElem?_eq_some_iff.mp hx).1
            omega
          obtain ⟨x', ex, tx⟩ := trs_at kp hi
          rw [hx] at ex
          cases ex
          have s05 : Same H H5 := fun b o z => s5 _ _ (s04 _ _ z)
          have gk := kg _ (List.getElem_mem hi)
          have dk := kd _ (List.getElem_mem hi)
          have lz : (allW (kids.take (i + 1))).length ≤ (allW kids).length := by
            have e := congrArg List.length (show allW kids = allW (kids.take (i + 1)) ++ allW (kids.drop (i + 1)) from by
              unfold allW
              rw [← List.flatMap_append, List.take_append_drop])
            rw [List.length_append] at e
            omega
          have el : allW (kids.take (i + 1)) = allW (kids.take i) ++ wordsT kids[i] := by
            unfold allW
            rw [List.take_succ_eq_append_getElem hi, List.flatMap_append]
            simp
          rw [el, List.length_append] at lz
          rw [List.length_cons] at hz
          walk_at "rd"
          refine ⟨x, kids[i], rfl, tx.up s05, gk, dk, by omega, fun b H6 s6 h6 => ?_⟩
          refine ⟨fb, b, _, _, rfl, rfl, s6 _ _ h5, h6, size_of (by rw [List.length_map, List.length_map, List.length_cons]; omega), fun c hc => ?_⟩
          obtain ⟨H7, e7, s7, h7⟩ := new_heap (o := .lst ((sg :: allW (kids.take i)).map V.str ++ (wordsT kids[i]).map V.str)) hc
          rw [e7]
          walk_at "rd"
          refine ⟨c, _, rfl, fun b o z => s7 _ _ (s6 _ _ (s5 _ _ z)), ?_⟩
          rw [el, ← List.cons_append, List.map_append]
          exact h7
        · rintro σ H5 ⟨fb, x3, rfl, s5, h5⟩
          walk_at "rd"
          refine q fb H5 (fun b o z => s5 _ _ (s04 _ _ z)) ?_
          rw [ek]
          rw [← lk, List.take_length] at h5
          exact h5
end
end Spk

set_option Elab.async false
set_option linter.all false
set_option maxRecDepth 100000
set_option maxHeartbeats 1000000
namespace Spk
open PySem PySem.Spec PyProof.Rows L2
section
variable {X : Cx} {CX : CXT} {k : Nat} {f C : Addr} {fd : FuncData} {ps ks : List Str} {sp : Sp} {E : XK} {x : Str} {p pos : Pos} {kws : List Keyword} {tk : TA}
variable {g : List Value → List Value → List Value} {gV : List V → List V → List V}
/-- f(k = v, ..): keywords alone -/
theorem pe_callK0 (F : FnOk X.prog X.w X.K X.mg X.base CX k f fd ps sp) (hr : Room k X.A) (hg : Gl X x) (hm : X.mg x = some (.ref f)) (hk : PySem.W.keepIn X.K (.ref f) = true) (hb : KBinds X.K fd ps ks g gV) (hx : Passes CX X E)
    (hkw : PK X kws tk) (hall : (backToKw pos (keywordEach kws X.env)).all (·.1.isSome) = true := by rfl) (hks : (backToKw pos (keywordEach kws X.env)).filterMap (·.1) = ks := by rfl)
    (hdb : (x == ("__debug__" : Str)) = false := by decide)
    (hpl : ((backTo pos (starEach [] X.env)).any (·.1) || (backToKw pos (keywordEach kws X.env)).any (·.1.isNone)) = false := by rfl) :
    PE X (.Call (.Name x p) [] kws pos) (tCallK sp gV E tNil tk) := by
  refine ⟨fun pins s σ H Q I h => ?_⟩
  refine wpAny_Call_Name_kw (ld_glob I hg hm ?_ hdb)
  refine PySem.W.callWith_KW0 (h₀ := X.base) I.ok.mod.kin hk hall ?_ hpl
  refine thn (hkw.run pos pins s σ H _ I h) fun ws s2 ⟨zs, H2, I2, rz, q2⟩ => ⟨I2.kIn, ?_⟩
  rw [hks]
  exact run_fnk F hr hb hx I2 .nil rz q2
end
end Spk

set_option Elab.async false
set_option linter.all false
set_option maxRecDepth 100000
set_option maxHeartbeats 1000000
namespace Spk
open PySem L2
/-! ## dicts from texts to integers and None -/
theorem valV_mem {kvs : List (Key × V)} {k : Key} {v : V} (h : valV kvs k = some v) : (k, v) ∈ kvs := by
  induction kvs with
  | nil => cases h
  | cons p r ih =>
    by_cases e : p.1 = k
    · rw [valV_pos e] at h
      cases h
      rw [← e]
      exact List.mem_cons_self
    · rw [valV_neg e] at h
      exact List.mem_cons_of_mem _ (ih h)
theorem mem_valV {kvs : List (Key × V)} {k : Key} {v : V} (nd : (kvs.map (·.1)).Nodup) (h : (k, v) ∈ kvs) : valV kvs k = some v := by
  induction kvs with
  | nil => cases h
  | cons p r ih =>
    rw [List.map_cons, List.nodup_cons] at nd
    rcases List.mem_cons.mp h with rfl | h
    · exact valV_pos rfl
    · have ne : ¬ p.1 = k := fun e => nd.1 (List.mem_map.mpr ⟨_, h, e.symm⟩)
      rw [valV_neg ne]
      exact ih nd.2 h
theorem put_keys {kvs : List (Key × V)} {k : Key} {y : V} (nd : (kvs.map (·.1)).Nodup) : ((putK kvs k y).map (·.1)).Nodup := by
  cases e : valV kvs k with
  | none => exact nd_putK y nd e
  | some v =>
    unfold putK
    rw [valV_any, e, if_pos (show (some v).isSome = true from rfl), List.map_map]
    have q : (kvs.map ((·.1) ∘ fun kv : Key × V => if kv.1 = k then (kv.1, y) else kv)) = kvs.map (·.1) := by
      refine List.map_congr_left fun p _ => ?_
      show (if p.1 = k then (p.1, y) else p).1 = p.1
      split <;> rfl
    rw [q]
    exact nd
theorem put_mem {kvs : List (Key × V)} {k : Key} {y : V} {q : Key × V} (h : q ∈ putK kvs k y) : q = (k, y) ∨ q ∈ kvs := by
  unfold putK at h
  split at h
  · obtain ⟨p, hp, e⟩ := List.mem_map.mp h
    split at e
    · rename_i e2
      exact .inl (by rw [← e, e2])
    · exact .inr (e ▸ hp)
  · rcases List.mem_append.mp h with h | h
    · exact .inr h
    · exact .inl (List.mem_singleton.mp h)
theorem put_len {kvs : List (Key × V)} {k : Key} {y : V} : (putK kvs k y).length ≤ kvs.length + 1 := by
  unfold putK
  split
  · rw [List.length_map]
    omega
  · rw [List.length_append]
    exact Nat.le_refl _
theorem merge_new : ∀ {more acc : List (Key × V)}, ((acc ++ more).map (·.1)).Nodup → mergeK acc more = acc ++ more
  | [], acc, _ => (List.append_nil acc).symm
  | (k, v) :: more, acc, nd => by
    have no : valV acc k = none := by
      cases e : valV acc k with
      | none => rfl
      | some u =>
        have m := valV_mem e
        rw [List.map_append, List.nodup_append] at nd
        exact absurd rfl (nd.2.2 k (List.mem_map.mpr ⟨_, m, rfl⟩) k (by simp))
    show mergeK (putK acc k v) more = _
    rw [putK_new v no]
    rw [merge_new (by rw [List.append_assoc]; exact nd), List.append_assoc]
    rfl
/-- keys are texts, none twice; values are integers or None -/
structure Kvs (kvs : List (Key × V)) : Prop where
  nd : (kvs.map (·.1)).Nodup
  ov : ∀ q, q ∈ kvs → ∃ (c : Str) (o : Option Int), q = (Sum.inr c, ov o)
theorem Kvs.put {kvs : List (Key × V)} (h : Kvs kvs) (c : Str) (o : Option Int) : Kvs (putK kvs (Sum.inr c) (Spk.ov o)) := by
  refine ⟨put_keys h.nd, fun q hq => ?_⟩
  rcases put_mem hq with rfl | hq
  · exact ⟨c, o, rfl⟩
  · exact h.ov q hq
theorem Kvs.rev {kvs : List (Key × V)} (h : Kvs kvs) : Kvs kvs.reverse :=
  ⟨by rw [List.map_reverse]; exact ((List.reverse_perm _).nodup_iff).mpr h.nd, fun q hq => h.ov q (List.mem_reverse.mp hq)⟩
theorem Kvs.get {kvs : List (Key × V)} (h : Kvs kvs) {c : Str} {v : V} (e : valV kvs (Sum.inr c) = some v) : ∃ o, v = Spk.ov o := by
  obtain ⟨d, o, z⟩ := h.ov _ (valV_mem e)
  exact ⟨o, (Prod.mk.inj z).2⟩
/-- what the dict tells of a column -/
def rho (kvs : List (Key × V)) (c : Str) : Option Int := match valV kvs (Sum.inr c) with
  | some (.int i) => some i
  | _ => none
theorem rho_is {kvs : List (Key × V)} (h : Kvs kvs) {c : Str} {v : V} (e : valV kvs (Sum.inr c) = some v) : valV kvs (Sum.inr c) = some (ov (rho kvs c)) := by
  obtain ⟨o, rfl⟩ := h.get e
  unfold rho
  rw [e]
  cases o <;> rfl
theorem rho_rev {kvs : List (Key × V)} (h : Kvs kvs) {c : Str} {v : V} (e : valV kvs (Sum.inr c) = some v) : valV kvs.reverse (Sum.inr c) = some v :=
  mem_valV h.rev.nd (List.mem_reverse.mpr (valV_mem e))
theorem flat_ov (o : Option Int) : flatB (ov o) = true := by
  cases o <;> rfl
theorem same_kvs {kvs : List (Key × V)} (h : Kvs kvs) : ∀ p ∈ kvs, valV kvs p.1 = some p.2 ∧ flatB p.2 = true := by
  intro p hp
  obtain ⟨c, o, e⟩ := h.ov p hp
  refine ⟨mem_valV h.nd hp, ?_⟩
  rw [e]
  exact flat_ov o
theorem room66 {k : Nat} {A : Around} (hr : Room k A) : A.units + 66 < cLine := by
  have := hr.un
  omega
end Spk

set_option Elab.async false
set_option linter.all false
set_option maxRecDepth 100000
set_option maxHeartbeats 2000000
namespace Spk
open PySem L2 TL
local macro_rules | `(tactic| walk_at "rd") => `(tactic| repeat (first
  | with_reducible refine i_seq ?_ | with_reducible refine i_asg ?_ | with_reducible refine i_ret ?_ | with_reducible refine i_ifS ?_ | with_reducible refine i_if ?_
  | with_reducible refine i_for ?_ | with_reducible refine i_iL ?_ | with_reducible refine i_iT ?_ | with_reducible refine i_ckw ?_ | with_reducible refine i_cm ?_ | with_reducible refine And.intro (rfl : V.ref _ = V.ref _) ?_ | with_reducible refine i_rng1 ?_ | with_reducible refine i_bm ?_ | with_reducible refine i_bm0 ?_
  | with_reducible refine i_drop ?_ | with_reducible refine i_next ?_
  | with_reducible refine i_var rfl ?_ | with_reducible refine i_c ?_ | with_reducible refine i_op ?_ | with_reducible refine i_un ?_ | with_reducible refine i_name ?_
  | with_reducible refine i_rI0 ?_ | with_reducible refine i_rU ?_ | with_reducible refine i_rEq rfl ?_ | with_reducible refine i_rNe rfl ?_
  | with_reducible refine i_test ?_ | with_reducible refine i_tB ?_ | with_reducible refine i_and ?_ | with_reducible refine i_or ?_ | with_reducible refine i_not ?_
  | with_reducible refine i_andV ?_ | with_reducible refine i_orV ?_ | with_reducible refine i_notV ?_
  | with_reducible refine i_cons ?_ | with_reducible refine i_nil ?_ | with_reducible refine i_cb ?_ | with_reducible refine i_call ?_ | with_reducible refine i_bl ?_
  | with_reducible refine i_tup ?_ | with_reducible refine i_lst ?_ | with_reducible refine i_par ?_ | with_reducible refine i_gcons ?_ | with_reducible refine i_gnil ?_
  | with_reducible refine And.intro (rfl : V.non = V.non) ?_ | with_reducible refine i_ixT (by assumption) rfl ?_ | with_reducible refine i_ixL (by assumption) rfl ?_ | with_reducible refine i_gtup (by assumption) rfl ?_
  | with_reducible refine i_gsub ?_
  | with_reducible refine Or.inl (Exists.intro _ (And.intro (rfl : [V.int _] = [V.int _]) ?_)) | with_reducible refine Exists.intro _ (And.intro (rfl : [V.int _] = [V.int _]) ?_)
  | with_reducible refine Or.inr (Exists.intro _ (And.intro (rfl : [V.bl _] = [V.bl _]) ?_))
  | with_reducible refine Exists.intro _ (Exists.intro _ (And.intro (rfl : [V.int _, V.int _] = [V.int _, V.int _]) ?_))
  | with_reducible refine Exists.intro _ (Exists.intro _ (And.intro (rfl : [V.ref _] = [V.ref _]) (And.intro (Or.inl (SqL.of (by assumption))) ?_)))
  | with_reducible refine i_rI (show (0 : Int) < _ by assumption) ?_ | with_reducible refine i_rI (show (0 : Int) < _ by decide) ?_
  | with_reducible refine i_rI (pow_ok (Nat.le_of_ble_eq_true rfl) (Nat.le_of_ble_eq_true rfl)) ?_
  | with_reducible refine i_rI (cmulL rfl) ?_))
/-! ### truths as texts -/
def tvS : Option Bool → Str
  | none => "None"
  | some true => "True"
  | some false => "False"
theorem cr_repr3 {X : Cx} : CallR X (.builtin "repr") (fun xs H Q => ∃ a : Option Bool, xs = [tv a] ∧ Q (.str (tvS a)) H) := by
  intro pins s σ H xs us Q I r h
  obtain ⟨a, rfl, q⟩ := h
  cases r with
  | cons ru rt =>
    cases rt
    cases a with
    | none =>
      cases ru
      exact PySem.P.repr_of_none ⟨.str _, H, I.tok _, ⟨_, rfl⟩, q⟩
    | some b =>
      cases ru
      refine PySem.P.repr_of_bool ⟨.str _, H, I.tok _, ⟨_, rfl⟩, ?_⟩
      cases b <;> exact q
def HasAll (kvs : List (Key × V)) (cs : List Str) : Prop := ∀ c, c ∈ cs → ∃ v, valV kvs (Sum.inr c) = some v
theorem HasAll.put {kvs : List (Key × V)} {cs : List Str} (h : HasAll kvs cs) (c : Str) (y : V) : HasAll (putK kvs (Sum.inr c) y) (cs ++ [c]) := by
  intro d hd
  rw [valV_put]
  by_cases e : (Sum.inr d : Key) = Sum.inr c
  · exact ⟨y, if_pos e⟩
  · rw [if_neg e]
    rcases List.mem_append.mp hd with hd | hd
    · exact h d hd
    · exact absurd (congrArg Sum.inr (List.mem_singleton.mp hd)) e
theorem str_of {cs : List Str} {i : Nat} {x : V} (hx : (cs.map V.str)[i]? = some x) : ∃ (hi : i < cs.length), x = .str cs[i] := by
  have hi : i < cs.length := by
    have := (List.getElem?_eq_some_iff.mp hx).1
    simpa using this
  refine ⟨hi, ?_⟩
  rw [List.getElem?_map, List.getElem?_eq_getElem hi] at hx
  exact (Option.some.inj hx).symm

theorem i_callK {sp : Sp} {gV : List V → List V → List V} {E : XK} {t tk : TA} {σ : L2.St} {H : Hp} {Q : VK} (h : t σ H fun vs H1 => tk σ H1 fun zs H2 => sp (gV vs zs) H2 Q E) : tCallK sp gV E t tk σ H Q := h
theorem i_fldE {K : PySem.W.Frag} {ta : TE} {f : Str} {σ : L2.St} {H : Hp} {Q : VK} (h : ta σ H fun x H1 => ∃ a C dx fs v, x = .ref a ∧ H1 a = some (.ins C dx fs) ∧ Cls K C ∧ NoAttr K C f ∧ fs.lookup f = some v ∧ Q v H1) : tFld K ta f σ H Q := h
theorem penny_kvs {kvs : List (Key × V)} (h : Kvs kvs) : penny (.dK kvs) = false := by
  cases kvs with
  | nil => rfl
  | cons q r =>
    obtain ⟨c, o, rfl⟩ := h.ov q (List.mem_cons_self ..)
    cases o <;> rfl
/-! ### how long the texts of trees are -/
theorem shown_int {i : Int} (h : i.natAbs < 10 ^ 30) : (PyData.int i).shown.length ≤ 31 := by
  have e := int_text_length_le10 (k := 30) (by decide) h
  show (Str.ofString (toString i)).length ≤ 31
  rw [ofString_length]
  exact e
theorem few_oD {o : Option Int} (h : Few12 o) : (oD o).leavesShort 31 = true ∧ (oD o).showable = true ∧ (oD o).hasDict = false ∧ (oD o).bulk = 0 := by
  cases o with
  | none => exact ⟨rfl, rfl, rfl, rfl⟩
  | some n =>
    have hn := h n rfl
    have a : (PyData.int n).shown.length ≤ 31 := shown_int (by omega)
    refine ⟨?_, ?_, rfl, rfl⟩
    · simp only [oD, PyData.leavesShort, decide_eq_true_eq]
      exact a
    · simp only [oD, PyData.showable, decide_eq_true_eq]
      exact few_log hn
theorem few_stD : ∀ {ps : List Stc}, (∀ s, s ∈ ps → FewS s) → PyData.leavesShortAll 31 (ps.map stD) = true ∧ PyData.showableAll (ps.map stD) = true ∧ PyData.hasDictAll (ps.map stD) = false ∧ PyData.bulkAll (ps.map stD) = 3 * ps.length
  | [], _ => ⟨rfl, rfl, rfl, rfl⟩
  | s :: r, h => by
    obtain ⟨a1, a2, a3, a4⟩ := few_oD (h s (List.mem_cons_self ..)).1
    obtain ⟨b1, b2, b3, b4⟩ := few_oD (h s (List.mem_cons_self ..)).2
    obtain ⟨c1, c2, c3, c4⟩ := few_stD (ps := r) fun x hx => h x (List.mem_cons_of_mem _ hx)
    refine ⟨?_, ?_, ?_, ?_⟩
    · simp only [List.map_cons, stD, PyData.leavesShortAll, PyData.leavesShort, a1, b1, c1, Bool.and_self]
    · simp only [List.map_cons, stD, PyData.showableAll, PyData.showable, a2, b2, c2, Bool.and_self]
    · simp only [List.map_cons, stD, PyData.hasDictAll, PyData.hasDict, a3, b3, c3, Bool.or_self]
    · simp only [List.map_cons, stD, PyData.bulkAll, PyData.bulk, a4, b4, c4, List.length_cons]
      omega
/-- what shows a tree -/
structure ShowT (t : Tr) : Prop where
  lv : (treeD t).leavesShort 31 = true
  sh : (treeD t).showable = true
  hd : (treeD t).hasDict = false
  bk : (treeD t).bulk + 6 ≤ 41 * t.many + 5 * t.nots
theorem name_short {c : Str} (h : IsName c) : (c.cps.toList.all fun c => decide (c < 16 ^ 8)) = true := List.all_eq_true.mpr fun s hs => by
  have := h.az s hs
  rw [decide_eq_true_eq]
  omega
theorem show_tree : ∀ t : Tr, GoodT t → ShowT t
  | .wi c ps, h => by
    obtain ⟨c1, c2, c3, c4⟩ := few_stD h.2.2.1
    have n1 := name_short h.1
    have n2 := h.1.le
    have n3 := h.2.2.2
    have n4 : c.cps.size = c.length := rfl
    have w1 : (("within" : Str).cps.toList.all fun c => decide (c < 16 ^ 8)) = true := by decide +kernel
    have w2 : ("within" : Str).cps.size = 6 := rfl
    refine ⟨?_, ?_, ?_, ?_⟩
    · simp only [treeD, psD, PyData.leavesShort, PyData.leavesShortAll, c1, n1, w1, Bool.and_self]
    · simp only [treeD, psD, PyData.showable, PyData.showableAll, c2, Bool.and_self]
    · simp only [treeD, psD, PyData.hasDict, PyData.hasDictAll, c3, Bool.or_self]
    · simp only [treeD, psD, PyData.bulk, PyData.bulkAll, c4, w2, Tr.many, Tr.nots]
      omega
  | .mi c, h => by
    have n1 := name_short (show IsName c from h)
    have n2 := (show IsName c from h).le
    have n4 : c.cps.size = c.length := rfl
    have w1 : (("missing" : Str).cps.toList.all fun c => decide (c < 16 ^ 8)) = true := by decide +kernel
    have w2 : ("missing" : Str).cps.size = 7 := rfl
    refine ⟨?_, rfl, rfl, ?_⟩
    · simp only [treeD, PyData.leavesShort, PyData.leavesShortAll, n1, w1, Bool.and_self]
    · simp only [treeD, PyData.bulk, PyData.bulkAll, w2, Tr.many, Tr.nots]
      omega
  | .al, _ => ⟨by decide +kernel, rfl, rfl, by decide +kernel⟩
  | .ne, _ => ⟨by decide +kernel, rfl, rfl, by decide +kernel⟩
  | .an l r, h => by
    have a := show_tree l h.1
    have b := show_tree r h.2
    have a4 := a.bk
    have b4 := b.bk
    have w1 : (("and" : Str).cps.toList.all fun c => decide (c < 16 ^ 8)) = true := by decide +kernel
    have w2 : ("and" : Str).cps.size = 3 := rfl
    refine ⟨?_, ?_, ?_, ?_⟩
    · simp only [treeD, PyData.leavesShort, PyData.leavesShortAll, a.lv, b.lv, w1, Bool.and_self]
    · simp only [treeD, PyData.showable, PyData.showableAll, a.sh, b.sh, Bool.and_self]
    · simp only [treeD, PyData.hasDict, PyData.hasDictAll, a.hd, b.hd, Bool.or_self]
    · simp only [treeD, PyData.bulk, PyData.bulkAll, w2, Tr.many, Tr.nots]
      omega
  | .ou l r, h => by
    have a := show_tree l h.1
    have b := show_tree r h.2
    have a4 := a.bk
    have b4 := b.bk
    have w1 : (("or" : Str).cps.toList.all fun c => decide (c < 16 ^ 8)) = true := by decide +kernel
    have w2 : ("or" : Str).cps.size = 2 := rfl
    refine ⟨?_, ?_, ?_, ?_⟩
    · simp only [treeD, PyData.leavesShort, PyData.leavesShortAll, a.lv, b.lv, w1, Bool.and_self]
    · simp only [treeD, PyData.showable, PyData.showableAll, a.sh, b.sh, Bool.and_self]
    · simp only [treeD, PyData.hasDict, PyData.hasDictAll, a.hd, b.hd, Bool.or_self]
    · simp only [treeD, PyData.bulk, PyData.bulkAll, w2, Tr.many, Tr.nots]
      omega
  | .no t, h => by
    have a := show_tree t h
    have a4 := a.bk
    have w1 : (("not" : Str).cps.toList.all fun c => decide (c < 16 ^ 8)) = true := by decide +kernel
    have w2 : ("not" : Str).cps.size = 3 := rfl
    refine ⟨?_, ?_, ?_, ?_⟩
    · simp only [treeD, PyData.leavesShort, PyData.leavesShortAll, a.lv, w1, Bool.and_self]
    · simp only [treeD, PyData.showable, PyData.showableAll, a.sh, Bool.and_self]
    · simp only [treeD, PyData.hasDict, PyData.hasDictAll, a.hd, Bool.or_self]
    · simp only [treeD, PyData.bulk, PyData.bulkAll, w2, Tr.many, Tr.nots]
      omega
def twoT (t : Tr) : PyData := .list [treeD t, treeD t]
theorem twoT_ok {t : Tr} (h : FitT t) : (twoT t).showable = true ∧ (twoT t).hasDict = false ∧ (twoT t).depth ≤ 64 ∧ (twoT t).shown.length ≤ sizeLine := by
  have s := show_tree t h.good
  have s4 := s.bk
  have d := depTr t
  have d2 := h.deep
  have m := h.many
  have n := h.nots
  refine ⟨?_, ?_, ?_, ?_⟩
  · simp only [twoT, PyData.showable, PyData.showableAll, s.sh, Bool.and_self]
  · simp only [twoT, PyData.hasDict, PyData.hasDictAll, s.hd, Bool.or_self]
  · simp only [twoT, PyData.depth, PyData.depthAll]
    omega
  · have big := PyData.shown_le_bulk 31 (by decide) (twoT t) (by simp only [twoT, PyData.leavesShort, PyData.leavesShortAll, s.lv, Bool.and_self])
    have e : (twoT t).bulk ≤ 6000 := by
      simp only [twoT, PyData.bulk, PyData.bulkAll]
      omega
    have e3 : (31 + 2) * (twoT t).bulk ≤ 33 * 6000 := Nat.mul_le_mul_left 33 e
    exact Nat.le_trans big (Nat.le_trans (Nat.add_le_add_right e3 31) (by decide))
def twoS (x : Str) : PyData := .list [.str x, .str x]
theorem twoS_len {x : Str} (h1 : ∀ c, c ∈ tl x → c < 128) (h2 : x.length ≤ 90000) : (twoS x).shown.length ≤ sizeLine := by
  have l : x.cps.toList.all (fun c => decide (c < 16 ^ 8)) = true := List.all_eq_true.mpr fun c hc => by
    have := h1 c hc
    rw [decide_eq_true_eq]
    omega
  have big := PyData.shown_le_bulk 31 (by decide) (twoS x) (by simp only [twoS, PyData.leavesShort, PyData.leavesShortAll, l, Bool.and_self])
  have c : x.cps.size = x.length := rfl
  have e : (twoS x).bulk ≤ 180010 := by
    simp only [twoS, PyData.bulk, PyData.bulkAll]
    omega
  have e3 : (31 + 2) * (twoS x).bulk ≤ 33 * 180010 := Nat.mul_le_mul_left 33 e
  exact Nat.le_trans big (Nat.le_trans (Nat.add_le_add_right e3 31) (by decide))
theorem partsT_hi {ps : List Stc} {c : Nat} (h : 57 < c) : c ∉ tl (partsT ps) := by
  unfold partsT
  split
  · show c ∉ [45]
    intro z
    have := List.mem_singleton.mp z
    omega
  · rw [join_eq, tl_join]
    refine joinL_free (by show c ∉ [44]; intro z; have := List.mem_singleton.mp z; omega) fun p hp => ?_
    obtain ⟨z, hz, rfl⟩ := List.mem_map.mp hp
    obtain ⟨s, hs, rfl⟩ := List.mem_map.mp hz
    exact partT_free (.inr h)
theorem mem_joinL {s : Nat} {S : List Nat} : ∀ {l : List (List Nat)}, s ∈ joinL S l → s ∈ S ∨ ∃ p, p ∈ l ∧ s ∈ p
  | [], h => by cases h
  | [p], h => .inr ⟨p, List.mem_singleton.mpr rfl, h⟩
  | p :: q :: r, h => by
    rcases List.mem_append.mp (show s ∈ p ++ (S ++ joinL S (q :: r)) from h) with h | h
    · exact .inr ⟨p, List.mem_cons_self .., h⟩
    · rcases List.mem_append.mp h with h | h
      · exact .inl h
      · rcases mem_joinL h with h | ⟨x, hx, h⟩
        · exact .inl h
        · exact .inr ⟨x, List.mem_cons_of_mem _ hx, h⟩
theorem word_low : ∀ {t : Tr}, GoodT t → ∀ x, x ∈ wordsT t → ∀ c, c ∈ tl x → c < 128 := by
  have lit : ∀ (x : Str), (x.cps.toList.all fun c => decide (c < 128)) = true → ∀ c, c ∈ tl x → c < 128 := fun x h c hc => of_decide_eq_true (List.all_eq_true.mp h c hc)
  have nm : ∀ (x : Str), IsName x → ∀ c, c ∈ tl x → c < 128 := fun x h c hc => by have := h.az c hc; omega
  intro t
  induction t with
  | wi c ps =>
    intro h x hx
    simp only [wordsT, List.mem_cons, List.not_mem_nil, or_false] at hx
    rcases hx with rfl | rfl | rfl
    · exact lit _ (by decide +kernel)
    · exact nm _ h.1
    · intro c hc
      by_cases z : 57 < c
      · exact absurd hc (partsT_hi z)
      · omega
  | mi c =>
    intro h x hx
    simp only [wordsT, List.mem_cons, List.not_mem_nil, or_false] at hx
    rcases hx with rfl | rfl
    · exact lit _ (by decide +kernel)
    · exact nm _ h
  | al =>
    intro h x hx
    rw [List.mem_singleton.mp hx]
    exact lit _ (by decide +kernel)
  | ne =>
    intro h x hx
    rw [List.mem_singleton.mp hx]
    exact lit _ (by decide +kernel)
  | an l r ihl ihr =>
    intro h x hx
    simp only [wordsT, List.mem_cons, List.mem_append] at hx
    rcases hx with rfl | hx | hx
    · exact lit _ (by decide +kernel)
    · exact ihl h.1 x hx
    · exact ihr h.2 x hx
  | ou l r ihl ihr =>
    intro h x hx
    simp only [wordsT, List.mem_cons, List.mem_append] at hx
    rcases hx with rfl | hx | hx
    · exact lit _ (by decide +kernel)
    · exact ihl h.1 x hx
    · exact ihr h.2 x hx
  | no t ih =>
    intro h x hx
    simp only [wordsT, List.mem_cons] at hx
    rcases hx with rfl | hx
    · exact lit _ (by decide +kernel)
    · exact ih h x hx
theorem text_low {t : Tr} (h : GoodT t) : ∀ c, c ∈ tl (Txt.join " " (wordsT t)) → c < 128 := fun c hc => by
  rw [join_eq, tl_join] at hc
  rcases mem_joinL hc with z | ⟨p, hp, z⟩
  · have : c = 32 := List.mem_singleton.mp z
    omega
  · obtain ⟨x, hx, rfl⟩ := List.mem_map.mp hp
    exact word_low h x hx c z
end Spk

set_option Elab.async false
set_option linter.all false
set_option maxRecDepth 100000
set_option maxHeartbeats 4000000
namespace Spk
open PySem L2 TL
local macro_rules | `(tactic| walk_at "rd") => `(tactic| repeat (first
  | with_reducible refine i_seq ?_ | with_reducible refine i_asg ?_ | with_reducible refine i_ret ?_ | with_reducible refine i_ifS ?_ | with_reducible refine i_if ?_
  | with_reducible refine i_for ?_ | with_reducible refine i_iL ?_ | with_reducible refine i_iT ?_ | with_reducible refine i_ckw ?_ | with_reducible refine i_cm ?_ | with_reducible refine And.intro (rfl : V.ref _ = V.ref _) ?_ | with_reducible refine i_rng1 ?_ | with_reducible refine i_bm ?_ | with_reducible refine i_bm0 ?_
  | with_reducible refine i_drop ?_ | with_reducible refine i_next ?_
  | with_reducible refine i_var rfl ?_ | with_reducible refine i_c ?_ | with_reducible refine i_op ?_ | with_reducible refine i_un ?_ | with_reducible refine i_name ?_
  | with_reducible refine i_rI0 ?_ | with_reducible refine i_rU ?_ | with_reducible refine i_rEq rfl ?_ | with_reducible refine i_rNe rfl ?_
  | with_reducible refine i_test ?_ | with_reducible refine i_tB ?_ | with_reducible refine i_and ?_ | with_reducible refine i_or ?_ | with_reducible refine i_not ?_
  | with_reducible refine i_andV ?_ | with_reducible refine i_orV ?_ | with_reducible refine i_notV ?_
  | with_reducible refine i_cons ?_ | with_reducible refine i_nil ?_ | with_reducible refine i_cb ?_ | with_reducible refine i_call ?_ | with_reducible refine i_bl ?_
  | with_reducible refine i_tup ?_ | with_reducible refine i_lst ?_ | with_reducible refine i_par ?_ | with_reducible refine i_gcons ?_ | with_reducible refine i_gnil ?_
  | with_reducible refine And.intro (rfl : V.non = V.non) ?_ | with_reducible refine i_ixT (by assumption) rfl ?_ | with_reducible refine i_ixL (by assumption) rfl ?_ | with_reducible refine i_gtup (by assumption) rfl ?_
  | with_reducible refine i_gsub ?_
  | with_reducible refine Or.inl (Exists.intro _ (And.intro (rfl : [V.int _] = [V.int _]) ?_)) | with_reducible refine Exists.intro _ (And.intro (rfl : [V.int _] = [V.int _]) ?_)
  | with_reducible refine Or.inr (Exists.intro _ (And.intro (rfl : [V.bl _] = [V.bl _]) ?_))
  | with_reducible refine Exists.intro _ (Exists.intro _ (And.intro (rfl : [V.int _, V.int _] = [V.int _, V.int _]) ?_))
  | with_reducible refine Exists.intro _ (Exists.intro _ (And.intro (rfl : [V.ref _] = [V.ref _]) (And.intro (Or.inl (SqL.of (by assumption))) ?_)))
  | with_reducible refine i_rI (show (0 : Int) < _ by assumption) ?_ | with_reducible refine i_rI (show (0 : Int) < _ by decide) ?_
  | with_reducible refine i_rI (pow_ok (Nat.le_of_ble_eq_true rfl) (Nat.le_of_ble_eq_true rfl)) ?_
  | with_reducible refine i_rI (cmulL rfl) ?_))
theorem i_neS {K : PySem.W.Frag} {H : Hp} {x : Str} {Q : VK} (q : Q (.bl false) H) : Q (.bl (!decide (V.str x = V.str x))) H := by
  rw [decide_eq_true rfl]
  exact q
theorem eqvT (t : Tr) : decide (t = t) = true := decide_eq_true rfl
theorem i_fcall {X : Cx} {D : Addr} {σ : L2.St} {H : Hp} {tf te : TE} {a : Addr} {sp : Sp} {Q : VK} {t : Tr} (hf : ∀ R : VK, R (.ref a) H → tf σ H R) (ht : ∀ R : VK, (∀ p H1, Same H H1 → (Fil D H1 a t → sp [.ref a, .ref p] H1 Q E0) → R (.ref p) H1) → te σ H R) (hg : Fil D H a t) :
    StX.tCallO X D sp E0 tf (tCons te tNil) σ H Q := by
  refine hf _ ⟨a, rfl, ht _ fun p H1 s1 k => ?_⟩
  have hg1 := hg.up s1
  obtain ⟨dx, v, q, cs, h1, _⟩ := id hg1
  exact ⟨.inr ⟨dx, _, h1⟩, k hg1⟩
theorem pen_updK {H : Hp} {p L m : Addr} {n : Nat} {kvs : List (Key × V)} {o : HO} (h : Pen H p L n) (hm : H m = some (.dK kvs)) (kv : Kvs kvs) : Pen (upd H m o) p L n := by
  obtain ⟨ns, a, l, h1, h2, r⟩ := h
  have np : p ≠ m := fun z => by
    subst z
    rw [h1] at hm
    have e := HO.dK.inj (Option.some.inj hm)
    obtain ⟨c, o, e2⟩ := kv.ov (Sum.inr "cells", .ref L) (by rw [← e]; exact List.mem_cons_self ..)
    cases o <;> cases e2
  have nl : L ≠ m := fun z => by
    subst z
    rw [h2] at hm
    cases hm
  exact ⟨ns, a, l, by rw [upd_ne np]; exact h1, by rw [upd_ne nl]; exact h2, r⟩
section
variable {P : Program} {w : World} {K : PySem.W.Frag} {mg : Str → Option Value} {base : Heap} {C CP fI fE fPI hM hN hC hE hR hA hQ hF D fJ fQ : Addr} {md : Value} {pw pm pa pn gw gm ga gn dA dO dV dC : Addr}
abbrev s_right : Stmt := top 59
theorem sc_right : FnScope ["_law_pen_here", "_law_columns", "_law_tree_here", "_law_made", "_law_wording", "_law_found", "_law_turn", "_law_values", "_law_column"] ["_law_pen_here", "_law_columns", "_law_tree_here"] (defScope s_right) := ⟨rfl, rfl, rfl, by decide +kernel, rfl, by decide +kernel, by decide +kernel⟩
def sp_right : Sp := fun vs H Q _ => ∃ p L n l cs v t, vs = [.ref p, .ref l, v] ∧ Pen H p L n ∧ n ≤ 9000 ∧ H l = some (.lst (cs.map V.str)) ∧ cs.length ≤ 4 ∧ (∀ c, c ∈ cs → IsName c) ∧ TreeAt H t v ∧ FitT t ∧ Of cs t ∧ ∀ H', Keep H H' → Pen H' p L (n + 66) → Q (.bl true) H'
theorem ok_right {f f1 f2 f3 f4 f5 f6 : Addr} {fd fd1 fd2 fd3 fd4 fd5 fd6 : FuncData} (F : Fun K "_law_right" "_law_right" s_right f fd) (T : ClsF K mg D fJ) (U : ClsE K D fQ) (CF : ClsG K D md pw pm pa pn gw gm ga gn dA dO dV dC)
    (R_feq : FnR P w K mg base CX0 1 fQ (fun vs H Q E => sp_feq D (vs ++ []) H Q E)) (RF_call : FnR P w K mg base CX0 26 dC (fun vs H Q E => sp_fcall D 22 (vs ++ []) H Q E))
    (F_filter : Fun K "_law_filter" "_law_filter" s_filter f1 fd1) (B_filter : Binds K fd1 ["_law_tree_here"] []) (g_filter : mg "_law_filter" = some (.ref f1)) (G_filter : FnOk P w K mg base CX0 29 f1 fd1 ["_law_tree_here"] (sp_lfilter D 22))
    (F_words : Fun K "_law_words" "_law_words" s_words f2 fd2) (B_words : Binds K fd2 ["_law_tree_here"] []) (g_words : mg "_law_words" = some (.ref f2)) (G_words : FnOk P w K mg base CX0 24 f2 fd2 ["_law_tree_here"] (sp_lwords 22))
    (F_show_filter : Fun K "show_filter" "show_filter" s_show_filter f3 fd3) (B_show_filter : Binds K fd3 ["where"] []) (g_show_filter : mg "show_filter" = some (.ref f3)) (G_show_filter : FnOk P w K mg base CX0 5 f3 fd3 ["where"] (sp_fshow D))
    (KB_show : KBinds K fd3 ["where"] ["where"] (fun us ws => us ++ ws) (fun us ws => us ++ ws))
    (F_read_filter : Fun K "read_filter" "read_filter" s_read_filter f4 fd4) (B_read_filter : Binds K fd4 ["text"] []) (g_read_filter : mg "read_filter" = some (.ref f4)) (G_read_filter : FnOk P w K mg base CX0 9 f4 fd4 ["text"] (sp_fread D))
    (KB_read : KBinds K fd4 ["text"] ["text"] (fun us ws => us ++ ws) (fun us ws => us ++ ws))
    (F_draw : Fun K "_law_draw" "_law_draw" s_draw f5 fd5) (B_draw : Binds K fd5 ["_law_pen_here", "_law_many"] []) (g_draw : mg "_law_draw" = some (.ref f5)) (G_draw : FnOk P w K mg base CX0 1 f5 fd5 ["_law_pen_here", "_law_many"] sp_draw)
    (F_bound : Fun K "_law_bound" "_law_bound" s_bound f6 fd6) (B_bound : Binds K fd6 ["_law_pen_here"] []) (g_bound : mg "_law_bound" = some (.ref f6)) (G_bound : FnOk P w K mg base CX0 2 f6 fd6 ["_law_pen_here"] sp_bound)
    (z_range : mg "range" = none) (z_repr : mg "repr" = none) : FnG P w K mg base CX0 30 f fd ["_law_pen_here", "_law_columns", "_law_tree_here"] (sp_right) := by
  refine F.okG sc_right (fun vs H Q E h => ?_) (fun cdv A gG outer s H vs Q E hr h => ?_)
  · obtain ⟨p, L, n, l, cs, v, t, rfl, _⟩ := h
    rfl
  · obtain ⟨p, L, n, l, cs, v, t, rfl, hp, hn, hl, c4, nm, ht, fit, on, q⟩ := h
    refine ⟨_, (pss_cons (ps_set (i := 3) sc_right.nd rfl (Or.inl rfl) (pe_call G_filter (hr.mono (by decide)) rfl g_filter F_filter.kp B_filter .nil pass0 (pa_cons (pv 2) pa_nil)))
 (pss_cons (ps_set (i := 4) sc_right.nd rfl (Or.inl rfl) (pe_join pe_str (pe_call G_words (hr.mono (by decide)) rfl g_words F_words.kp B_words .nil pass0 (pa_cons (pv 2) pa_nil))))
 (pss_cons (ps_if (pt_cmpR op_ne (pe_callB (cr_reprD gG (room66 hr)) (by rfl) z_repr (by decide +kernel) (pa_cons (pe_lst (pa_cons (pe_call G_show_filter (hr.mono (by decide)) rfl g_show_filter F_show_filter.kp B_show_filter .nil pass0 (pa_cons (pv 3) pa_nil)) (pa_cons (pe_callK0 G_show_filter (hr.mono (by decide)) rfl g_show_filter F_show_filter.kp KB_show pass0 (pk_cons (pv 3) pk_nil)) pa_nil))) pa_nil)) (pe_callB (cr_reprD gG (room66 hr)) (by rfl) z_repr (by decide +kernel) (pa_cons (pe_op op_rep (pe_lst (pa_cons (pv 4) pa_nil)) pe_int) pa_nil)) (nomark _))
 (pss_one (ps_ret pe_bl))
 pss_nil)
 (pss_cons (ps_set (i := 5) sc_right.nd rfl (Or.inl rfl) (pe_call G_read_filter (hr.mono (by decide)) rfl g_read_filter F_read_filter.kp B_read_filter .nil pass0 (pa_cons (pv 4) pa_nil)))
 (pss_cons (ps_if (PW.pt (pw_or (pt_cmpR op_ne (pe_callB (cr_reprD gG (room66 hr)) (by rfl) z_repr (by decide +kernel) (pa_cons (pe_lst (pa_cons (pe_fld (pv 5) rfl) (pa_cons (pe_fld (pe_callK0 G_read_filter (hr.mono (by decide)) rfl g_read_filter F_read_filter.kp KB_read pass0 (pk_cons (pv 4) pk_nil)) rfl) pa_nil))) pa_nil)) (pe_callB (cr_reprD gG (room66 hr)) (by rfl) z_repr (by decide +kernel) (pa_cons (pe_op op_rep (pe_lst (pa_cons (pv 2) pa_nil)) pe_int) pa_nil)) (nomark _)) (pw_or1 (pt_not (pt_cmpR (op_eqO R_feq (hr.mono (by decide)) U.eq.eq U.eq.fn) (pv 5) (pv 3) (nomark _))))))
 (pss_one (ps_ret pe_bl))
 pss_nil)
 (pss_cons (ps_for PassesOwn.never rfl (pi_range1 (by rfl) z_range (pa_cons pe_int pa_nil)) (pg_name (i := 6) sc_right.nd rfl (Or.inl rfl))
 (pss_cons (ps_set (i := 7) sc_right.nd rfl (Or.inl rfl) pe_dnewK)
 (pss_cons (ps_for PassesOwn.never rfl (pi_list (pv 1)) (pg_name (i := 8) sc_right.nd rfl (Or.inl rfl))
 (pss_one (ps_asg (pe_ifExp (pt_cmpR op_eq (pe_call G_draw (hr.mono (by decide)) rfl g_draw F_draw.kp B_draw .nil pass0 (pa_cons (pv 0) (pa_cons pe_int pa_nil))) pe_int (nomark _)) pe_non (pe_call G_bound (hr.mono (by decide)) rfl g_bound F_bound.kp B_bound .nil pass0 (pa_cons (pv 0) pa_nil))) (pg_sub (pv 7) (pv 8) (set_dict (Nat.lt_of_le_of_lt (Nat.add_le_add_left (by decide : 1 ≤ 64) _) hr.units))))))
 (pss_one (ps_if (pt_cmpR op_ne (pe_callB cr_repr3 (by rfl) z_repr (by decide +kernel) (pa_cons (StX.pe_callO (pv 5) CF.call RF_call (hr.mono (by decide)) pass0 (pa_cons (pv 7) pa_nil)) pa_nil)) (pe_callB cr_repr3 (by rfl) z_repr (by decide +kernel) (pa_cons (StX.pe_callO (pv 3) CF.call RF_call (hr.mono (by decide)) pass0 (pa_cons (pv 7) pa_nil)) pa_nil)) (nomark _))
 (pss_one (ps_ret pe_bl))
 pss_nil)))))
 (pss_one (ps_ret pe_bl)))))))), ?_⟩
    have good := fit.good
    have fits : Fits t := ⟨fun c hc => name_ok (nm c (on c hc)), fit.deep⟩
    have ln := line_of good fit.words
    have wl := word_len good
    walk_at "rd"
    refine ⟨v, t, rfl, ht, good, fit.deep, fit.cols, fun g H1 s1 hg => ?_⟩
    walk_at "rd"
    refine i_m1 ?_
    walk_at "rd"
    refine ⟨⟨_, rfl⟩, ?_⟩
    walk_at "rd"
    refine ⟨v, t, rfl, ht.up s1, good, fit.deep, fit.words, fun lw H2 s2 hw => ?_⟩
    refine ⟨_, lw, wordsT t, rfl, rfl, .inl (SqL.of hw), ?_, ?_⟩
    · have a := sum_le 175 (wordsT t) wl
      have b : ((" " : Str)).length = 1 := rfl
      have fw := fit.words
      rw [b]
      omega
    show tSeq _ _ _ _ _
    rw [show Txt.join (Str.ofString " ") (wordsT t) = Txt.join " " (wordsT t) from rfl]
    have tlo := text_low good
    have tln := twoS_len tlo ln.le
    walk_at "rd"
    refine ⟨g, t, rfl, hg.up s2, good, fit.words, fun H3 s3 => ?_⟩
    refine i_cons (i_callK ?_)
    walk_at "rd"
    refine ⟨g, t, rfl, (hg.up s2).up s3, good, fit.words, fun H4 s4 => ?_⟩
    walk_at "rd"
    have dp2 : ∀ {G : Hp} {a : Addr}, G a = some (.lst [.str (Txt.join " " (wordsT t)), .str (Txt.join " " (wordsT t))]) → Dp K G (.ref a) (twoS (Txt.join " " (wordsT t))) := fun z => .lst (SqL.of z) (.cons (.str _) (.cons (.str _) .nil))
    refine ⟨size_of (Nat.le_of_ble_eq_true rfl), fun p5 hp5 => ?_⟩
    obtain ⟨H5, e5, s5, h5⟩ := new_heap (o := .lst [.str (Txt.join " " (wordsT t)), .str (Txt.join " " (wordsT t))]) hp5
    rw [e5]
    walk_at "rd"
    refine ⟨p5, twoS (Txt.join " " (wordsT t)), rfl, dp2 h5, rfl, rfl, by simp [twoS, PyData.depth, PyData.depthAll], tln, ?_⟩
    walk_at "rd"
    refine ⟨size_of (Nat.le_of_ble_eq_true rfl), fun p6 hp6 => ?_⟩
    obtain ⟨H6, e6, s6, h6⟩ := new_heap (o := .lst [.str (Txt.join " " (wordsT t))]) hp6
    rw [e6]
    walk_at "rd"
    refine ⟨p6, 2, _, rfl, rfl, h6, by decide, by decide, size_of (Nat.le_of_ble_eq_true rfl), fun p7 hp7 => ?_⟩
    obtain ⟨H7, e7, s7, h7⟩ := new_heap (o := .lst [.str (Txt.join " " (wordsT t)), .str (Txt.join " " (wordsT t))]) hp7
    show tNil _ (upd H6 p7 (.lst [.str (Txt.join " " (wordsT t)), .str (Txt.join " " (wordsT t))])) _
    rw [e7]
    walk_at "rd"
    refine ⟨p7, twoS (Txt.join " " (wordsT t)), rfl, dp2 h7, rfl, rfl, by simp [twoS, PyData.depth, PyData.depthAll], tln, ?_⟩
    have s07 : Same H H7 := fun b o z => s7 _ _ (s6 _ _ (s5 _ _ (s4 _ _ (s3 _ _ (s2 _ _ (s1 _ _ z))))))
    have hg7 : Fil D H7 g t := hg.up fun b o z => s7 _ _ (s6 _ _ (s5 _ _ (s4 _ _ (s3 _ _ (s2 _ _ z)))))
    walk_at "rd"
    rw [decide_eq_true rfl]
    refine iteF ?_
    walk_at "rd"
    refine ⟨t, rfl, good, fit.cols, fit.sd, fit.words, fun g2 H8 s8 hg2 => ?_⟩
    walk_at "rd"
    obtain ⟨dx2, v2, q2, cs2, hx2, tt2, _⟩ := id hg2
    refine ⟨_, rfl, g2, D, dx2, _, _, rfl, hx2, T.cl, T.nT, lk_tree, ?_⟩
    refine i_cons (i_fldE (i_callK ?_))
    walk_at "rd"
    refine ⟨t, rfl, good, fit.cols, fit.sd, fit.words, fun g3 H9 s9 hg3 => ?_⟩
    obtain ⟨dx3, v3, q3, cs3, hx3, tt3, _⟩ := id hg3
    refine ⟨g3, D, dx3, _, _, rfl, hx3, T.cl, T.nT, lk_tree, ?_⟩
    walk_at "rd"
    refine ⟨size_of (Nat.le_of_ble_eq_true rfl), fun p10 hp10 => ?_⟩
    obtain ⟨H10, e10, s10, h10⟩ := new_heap (o := .lst [v2, v3]) hp10
    rw [e10]
    walk_at "rd"
    obtain ⟨w1, w2, w3, w4⟩ := twoT_ok fit
    refine ⟨p10, twoT t, rfl, .lst (SqL.of h10) (.cons (dpTr ((tt2.up s9).up s10)) (.cons (dpTr (tt3.up s10)) .nil)), w1, w2, w3, w4, ?_⟩
    walk_at "rd"
    refine ⟨size_of (Nat.le_of_ble_eq_true rfl), fun p11 hp11 => ?_⟩
    obtain ⟨H11, e11, s11, h11⟩ := new_heap (o := .lst [v]) hp11
    rw [e11]
    walk_at "rd"
    refine ⟨p11, 2, _, rfl, rfl, h11, by decide, by decide, size_of (Nat.le_of_ble_eq_true rfl), fun p12 hp12 => ?_⟩
    obtain ⟨H12, e12, s12, h12⟩ := new_heap (o := .lst [v, v]) hp12
    show tNil _ (upd H11 p12 (.lst [v, v])) _
    rw [e12]
    have s712 : Same H7 H12 := fun b o z => s12 _ _ (s11 _ _ (s10 _ _ (s9 _ _ (s8 _ _ z))))
    have s012 : Same H H12 := fun b o z => s712 _ _ (s07 _ _ z)
    have t12 := ht.up s012
    walk_at "rd"
    refine ⟨p12, twoT t, rfl, .lst (SqL.of h12) (.cons (dpTr t12) (.cons (dpTr t12) .nil)), w1, w2, w3, w4, ?_⟩
    walk_at "rd"
    rw [decide_eq_true rfl]
    refine iteF ?_
    walk_at "rd"
    have hg12 : Fil D H12 g t := hg7.up s712
    have hg2' : Fil D H12 g2 t := hg2.up fun b o z => s12 _ _ (s11 _ _ (s10 _ _ (s9 _ _ z)))
    obtain ⟨dx5, v5, q5, cs5, hx5, _⟩ := id hg2'
    refine ⟨g2, dx5, _, _, rfl, hx5, hg12.ty T U, self_nf, g2, _, t, _, rfl, hg2', fits, .inl ⟨g, t, rfl, hg12, fits, rfl⟩, _, rfl, ?_⟩
    rw [decide_eq_true rfl]
    refine ⟨true, rfl, iteF ?_⟩
    have k12 := Same.keep s012
    walk_at "rd"
    refine ⟨by decide, by decide, for_range (lo := 0) (n := 4) (fun i σ H' => ∃ x6 x7 x8, σ = [some (.ref p), some (.ref l), some v, some (.ref g), some (.str (Txt.join " " (wordsT t))), some (.ref g2), x6, x7, x8] ∧ Keep H12 H' ∧ Pen H' p L (n + 16 * i)) ⟨none, none, none, rfl, Keep.refl _, hp.up s012⟩ ?_ ?_⟩
    · rintro i σ HA hi ⟨x6, x7, x8, rfl, kA, pA⟩
      walk_at "rd"
      intro m hm
      obtain ⟨HB, eB, sB, hB⟩ := new_heap (o := .dK []) hm
      rw [eB]
      have kB := kA.trans (Same.keep sB)
      have npm : NP H12 m := kA.np hm
      have npH : NP H m := (k12.trans kA).np hm
      have hlB := (k12.trans kB) _ _ rfl hl
      walk_at "rd"
      refine ⟨l, rfl, ⟨_, SqL.of hlB⟩, for_list (K := K) (a := l) (xs := cs.map V.str) (fun j σ' H' => ∃ kvs y6 y8, σ' = [some (.ref p), some (.ref l), some v, some (.ref g), some (.str (Txt.join " " (wordsT t))), some (.ref g2), y6, some (.ref m), y8] ∧ Keep H12 H' ∧ Pen H' p L (n + 16 * i + 4 * j) ∧ H' m = some (.dK kvs) ∧ Kvs kvs ∧ kvs.length ≤ j ∧ HasAll kvs (cs.take j)) ⟨[], _, _, rfl, kB, (pA.up sB).mono (by omega), hB, ⟨List.nodup_nil, fun q hq => absurd hq List.not_mem_nil⟩, Nat.le_refl _, fun c hc => by cases hc⟩ ?_ ?_ ?_⟩
      · rintro j σ' H' _ ⟨kvs, y6, y8, _, kk, _⟩
        exact SqL.of ((k12.trans kk) _ _ rfl hl)
      · rintro j x σ' H' hx ⟨kvs, y6, y8, rfl, kk, pp, hk, kv, kz, ka⟩
        obtain ⟨hj, rfl⟩ := str_of hx
        have es : cs.take (j + 1) = cs.take j ++ [cs[j]] := List.take_succ_eq_append_getElem hj
        generalize cs[j] = c at *
        walk_at "rd"
        refine ⟨p, L, _, 4, rfl, pp, by omega, by decide, by decide, fun d1 HC _ _ k1 p1 => ?_⟩
        have fin : ∀ (o : Option Int) (a b : Option V) H3, Keep HC H3 → Pen H3 p L (n + 16 * i + 4 * (j + 1)) → ∃ a' H4, V.ref m = V.ref a' ∧ DPut H3 a' (.str c) (ov o) H4 ∧ ∃ kvs y6 y8, [some (.ref p), some (.ref l), some v, some (.ref g), some (.str (Txt.join " " (wordsT t))), some (.ref g2), a, some (.ref m), b] = [some (.ref p), some (.ref l), some v, some (.ref g), some (.str (Txt.join " " (wordsT t))), some (.ref g2), y6, some (.ref m), y8] ∧ Keep H12 H4 ∧ Pen H4 p L (n + 16 * i + 4 * (j + 1)) ∧ H4 m = some (.dK kvs) ∧ Kvs kvs ∧ kvs.length ≤ j + 1 ∧ HasAll kvs (cs.take (j + 1)) := by
          intro o a b H3 k3 p3
          have h3 := k3 _ _ (penny_kvs kv) (k1 _ _ (penny_kvs kv) hk)
          refine ⟨m, _, rfl, .inl ⟨kvs, Sum.inr c, h3, rfl, size_lt (by omega), rfl⟩, _, _, _, rfl, Keep.mutN ((kk.trans k1).trans k3) npm, pen_updK p3 h3 kv, upd_same, kv.put c o, ?_, ?_⟩
          · have := put_len (kvs := kvs) (k := Sum.inr c) (y := ov o)
            omega
          · rw [es]
            exact ka.put c _
        walk_at "rd"
        refine ite_d (fun h0 => ?_) (fun h0 => ?_)
        · walk_at "rd"
          exact fin none _ _ HC (Keep.refl _) (p1.mono (by omega))
        · walk_at "rd"
          refine ⟨p, L, _, rfl, p1, by omega, fun e H5 _ k5 p5 => ?_⟩
          walk_at "rd"
          exact fin (some e) _ _ H5 k5 (p5.mono (by omega))
      · rintro σ' HD ⟨kvs, y6, y8, rfl, kk, pp, hk, kv, kz, ka⟩
        rw [List.length_map] at pp kz ka
        rw [List.take_length] at ka
        have va : ValsAt HD m (rho kvs) t.cols := ⟨kvs, hk, fun c hc => by
          obtain ⟨v', e⟩ := ka c (on c hc)
          exact rho_is kv e⟩
        have hgD := hg12.keep kk
        have hg2D := hg2'.keep kk
        walk_at "rd"
        refine i_fcall (a := g2) (t := t) (fun R h => i_var rfl h) (fun R h => i_var rfl (h m HD (Same.refl _) fun hg => ⟨g2, t, m, rho kvs, rfl, hg, fit.deep, va, fun HE sE => ?_⟩)) hg2D
        walk_at "rd"
        refine ⟨_, rfl, ?_⟩
        walk_at "rd"
        refine i_fcall (a := g) (t := t) (fun R h => i_var rfl h) (fun R h => i_var rfl (h m HE (Same.refl _) fun hg => ⟨g, t, m, rho kvs, rfl, hg, fit.deep, va.up sE, fun HF sF => ?_⟩)) (hgD.up sE)
        walk_at "rd"
        refine ⟨_, rfl, ?_⟩
        walk_at "rd"
        rw [decide_eq_true rfl]
        refine iteF ?_
        exact ⟨_, _, _, rfl, (kk.trans (Same.keep sE)).trans (Same.keep sF), ((pp.up sE).up sF).mono (by omega)⟩
    · rintro σ HA ⟨x6, x7, x8, rfl, kA, pA⟩
      walk_at "rd"
      exact q HA (k12.trans kA) (pA.mono (by omega))
end
end Spk

set_option Elab.async false
set_option linter.all false
set_option maxRecDepth 100000
set_option maxHeartbeats 2000000
namespace Spk
open PySem L2 TL
local macro_rules | `(tactic| walk_at "rd") => `(tactic| repeat (first
  | with_reducible refine i_seq ?_ | with_reducible refine i_asg ?_ | with_reducible refine i_ret ?_ | with_reducible refine i_ifS ?_ | with_reducible refine i_if ?_
  | with_reducible refine i_for ?_ | with_reducible refine i_iL ?_ | with_reducible refine i_iT ?_ | with_reducible refine i_ckw ?_ | with_reducible refine i_cm ?_ | with_reducible refine And.intro (rfl : V.ref _ = V.ref _) ?_ | with_reducible refine i_rng1 ?_ | with_reducible refine i_bm ?_ | with_reducible refine i_bm0 ?_
  | with_reducible refine i_drop ?_ | with_reducible refine i_next ?_
  | with_reducible refine i_var rfl ?_ | with_reducible refine i_c ?_ | with_reducible refine i_op ?_ | with_reducible refine i_un ?_ | with_reducible refine i_name ?_
  | with_reducible refine i_rI0 ?_ | with_reducible refine i_rU ?_ | with_reducible refine i_rEq rfl ?_ | with_reducible refine i_rNe rfl ?_
  | with_reducible refine i_test ?_ | with_reducible refine i_tB ?_ | with_reducible refine i_and ?_ | with_reducible refine i_or ?_ | with_reducible refine i_not ?_
  | with_reducible refine i_andV ?_ | with_reducible refine i_orV ?_ | with_reducible refine i_notV ?_
  | with_reducible refine i_cons ?_ | with_reducible refine i_nil ?_ | with_reducible refine i_cb ?_ | with_reducible refine i_call ?_ | with_reducible refine i_bl ?_
  | with_reducible refine i_tup ?_ | with_reducible refine i_lst ?_ | with_reducible refine i_par ?_ | with_reducible refine i_gcons ?_ | with_reducible refine i_gnil ?_
  | with_reducible refine And.intro (rfl : V.non = V.non) ?_ | with_reducible refine i_ixT (by assumption) rfl ?_ | with_reducible refine i_ixL (by assumption) rfl ?_ | with_reducible refine i_gtup (by assumption) rfl ?_
  | with_reducible refine i_gsub ?_
  | with_reducible refine Or.inl (Exists.intro _ (And.intro (rfl : [V.int _] = [V.int _]) ?_)) | with_reducible refine Exists.intro _ (And.intro (rfl : [V.int _] = [V.int _]) ?_)
  | with_reducible refine Or.inr (Exists.intro _ (And.intro (rfl : [V.bl _] = [V.bl _]) ?_))
  | with_reducible refine Exists.intro _ (Exists.intro _ (And.intro (rfl : [V.int _, V.int _] = [V.int _, V.int _]) ?_))
  | with_reducible refine Exists.intro _ (Exists.intro _ (And.intro (rfl : [V.ref _] = [V.ref _]) (And.intro (Or.inl (SqL.of (by assumption))) ?_)))
  | with_reducible refine i_rI (show (0 : Int) < _ by assumption) ?_ | with_reducible refine i_rI (show (0 : Int) < _ by decide) ?_
  | with_reducible refine i_rI (pow_ok (Nat.le_of_ble_eq_true rfl) (Nat.le_of_ble_eq_true rfl)) ?_
  | with_reducible refine i_rI (cmulL rfl) ?_))
/-! ### deep and long texts -/
/-- trees without columns -/
def Plain : Tr → Prop
  | .wi _ _ => False
  | .mi _ => False
  | .al => True
  | .ne => True
  | .an l r => Plain l ∧ Plain r
  | .ou l r => Plain l ∧ Plain r
  | .no t => Plain t
theorem plain_good : ∀ {t : Tr}, Plain t → GoodT t
  | .wi _ _, h => h.elim
  | .mi _, h => h.elim
  | .al, _ => trivial
  | .ne, _ => trivial
  | .an l r, h => ⟨plain_good h.1, plain_good h.2⟩
  | .ou l r, h => ⟨plain_good h.1, plain_good h.2⟩
  | .no t, h => plain_good (t := t) h
theorem plain_cols : ∀ {t : Tr}, Plain t → t.cols = []
  | .wi _ _, h => h.elim
  | .mi _, h => h.elim
  | .al, _ => rfl
  | .ne, _ => rfl
  | .an l r, h => by simp only [Tr.cols, plain_cols h.1, plain_cols h.2, List.append_nil]
  | .ou l r, h => by simp only [Tr.cols, plain_cols h.1, plain_cols h.2, List.append_nil]
  | .no t, h => plain_cols (t := t) h
theorem plain_words : ∀ {t : Tr}, Plain t → (wordsT t).length + 1 = 2 * t.many + t.nots
  | .wi _ _, h => h.elim
  | .mi _, h => h.elim
  | .al, _ => rfl
  | .ne, _ => rfl
  | .an l r, h => by have := plain_words h.1; have := plain_words h.2; simp only [Tr.many, Tr.nots, wordsT, List.length_cons, List.length_append]; omega
  | .ou l r, h => by have := plain_words h.1; have := plain_words h.2; simp only [Tr.many, Tr.nots, wordsT, List.length_cons, List.length_append]; omega
  | .no t, h => by have := plain_words (t := t) h; simp only [Tr.many, Tr.nots, wordsT, List.length_cons]; omega
/-- what has been told so far, around a tree that is to come -/
structure Wrap (ws : List Str) (i : Nat) : Prop where
  len : ws.length ≤ 2 * i
  ex : ∃ wr : Tr → Tr, ∀ u, ws ++ wordsT u = wordsT (wr u) ∧ sdT (wr u) ≤ sdT u + i ∧ (Plain u → Plain (wr u))
theorem Wrap.no {ws : List Str} {i : Nat} (h : Wrap ws i) : Wrap (ws ++ [("~" : Str)]) (i + 1) := by
  obtain ⟨l, wr, e⟩ := h
  refine ⟨by rw [List.length_append]; show ws.length + 1 ≤ _; omega, fun u => wr (.no u), fun u => ?_⟩
  obtain ⟨a, b, c⟩ := e (.no u)
  refine ⟨by rw [← a, List.append_assoc]; rfl, ?_, c⟩
  have : sdT (.no u) = sdT u + 1 := rfl
  show sdT (wr (.no u)) ≤ _
  omega
theorem Wrap.two {ws : List Str} {i : Nat} (h : Wrap ws i) {x : Tr} (f : Tr → Tr → Tr) (g lf : Str) (hx : wordsT x = [lf]) (hs : sdT x = 0) (hp : Plain x) (hf : ∀ u, wordsT (f x u) = g :: (wordsT x ++ wordsT u)) (hd : ∀ u, sdT (f x u) = max (sdT x) (sdT u) + 1) (hq : ∀ u, Plain u → Plain (f x u)) :
    Wrap (ws ++ [g] ++ [lf]) (i + 1) := by
  obtain ⟨l, wr, e⟩ := h
  refine ⟨by rw [List.length_append, List.length_append]; show ws.length + 1 + 1 ≤ _; omega, fun u => wr (f x u), fun u => ?_⟩
  obtain ⟨a, b, c⟩ := e (f x u)
  refine ⟨by rw [← a, hf, hx]; simp, ?_, fun z => c (hq u z)⟩
  rw [hd, hs] at b
  show sdT (wr (f x u)) ≤ _
  omega
section
variable {P : Program} {w : World} {K : PySem.W.Frag} {mg : Str → Option Value} {base : Heap}
abbrev s_deep : Stmt := top 60
theorem sc_deep : FnScope ["_law_pen_here", "_law_many", "_law_words_here", "_law_k", "_law_sign"] ["_law_pen_here", "_law_many"] (defScope s_deep) := ⟨rfl, rfl, rfl, by decide +kernel, rfl, by decide +kernel, by decide +kernel⟩
def sp_ldeep : Sp := fun vs H Q _ => ∃ p L n, ∃ m : Nat, vs = [.ref p, .int (m : Int)] ∧ 1 ≤ m ∧ m ≤ 100 ∧ Pen H p L n ∧ n ≤ 9600 ∧ ∀ l H' t, Keep H H' → Pen H' p L (n + 200) → H' l = some (.lst ((wordsT t).map V.str)) → Plain t → sdT t ≤ 100 → (wordsT t).length ≤ 400 → Q (.ref l) H'
theorem ok_ldeep {f fD : Addr} {fd fdD : FuncData} (F : Fun K "_law_deep" "_law_deep" s_deep f fd) (F_draw : Fun K "_law_draw" "_law_draw" s_draw fD fdD) (B_draw : Binds K fdD ["_law_pen_here", "_law_many"] []) (g_draw : mg "_law_draw" = some (.ref fD))
    (G_draw : FnOk P w K mg base CX0 1 fD fdD ["_law_pen_here", "_law_many"] sp_draw) (z_range : mg "range" = none) : FnOk P w K mg base CX0 2 f fd ["_law_pen_here", "_law_many"] sp_ldeep := by
  refine F.ok sc_deep (fun vs H Q E h => ?_) (fun cdv A outer s H vs Q E hr h => ?_)
  · obtain ⟨p, L, n, m, rfl, _⟩ := h
    rfl
  · obtain ⟨p, L, n, m, rfl, m1, m100, hp, hn, q⟩ := h
    refine ⟨_, (pss_cons (ps_set (i := 2) sc_deep.nd rfl (Or.inl rfl) (pe_lst pa_nil))
 (pss_cons (ps_for PassesOwn.never rfl (pi_range1 (by rfl) z_range (pa_cons (pv 1) pa_nil)) (pg_name (i := 3) sc_deep.nd rfl (Or.inl rfl))
 (pss_cons (ps_set (i := 4) sc_deep.nd rfl (Or.inl rfl) (pe_ix ix_list (pe_lst (pa_cons pe_str (pa_cons pe_str (pa_cons pe_str pa_nil)))) (pe_call G_draw (hr.mono (by decide)) rfl g_draw F_draw.kp B_draw .nil pass0 (pa_cons (pv 0) (pa_cons pe_int pa_nil))) (fun _ _ => rfl)))
 (pss_cons (ps_expr (pe_bm PySem.F.plainAttrs_list PySem.F.slot_list_append PySem.F.type_list_append mt_append (pv 2) (pa_cons (pv 4) pa_nil)))
 (pss_one (ps_if (pt_cmpR op_ne (pv 4) pe_str (nomark _))
 (pss_one (ps_expr (pe_bm PySem.F.plainAttrs_list PySem.F.slot_list_append PySem.F.type_list_append mt_append (pv 2) (pa_cons (pe_ix ix_list (pe_lst (pa_cons pe_str (pa_cons pe_str pa_nil))) (pe_call G_draw (hr.mono (by decide)) rfl g_draw F_draw.kp B_draw .nil pass0 (pa_cons (pv 0) (pa_cons pe_int pa_nil))) (fun _ _ => rfl)) pa_nil))))
 pss_nil)))))
 (pss_one (ps_ret (pe_op op_cat (pv 2) (pe_lst (pa_cons pe_str pa_nil))))))), ?_⟩
    walk_at "rd"
    refine ⟨Nat.zero_le _, fun D hD => ?_⟩
    obtain ⟨H1, e1, s1, h1⟩ := new_heap (o := .lst []) hD
    rw [e1]
    have npD : NP H D := NP.of hD
    have LD := hp.ne hD
    walk_at "rd"
    refine ⟨by omega, by omega, for_range (lo := 0) (n := m) (fun i σ H' => ∃ ws x3 x4, σ = [some (.ref p), some (.int (m : Int)), some (.ref D), x3, x4] ∧ Keep H H' ∧ Pen H' p L (n + 2 * i) ∧ H' D = some (.lst ((ws : List Str).map V.str)) ∧ Wrap ws i) ⟨[], none, none, rfl, Same.keep s1, hp.up s1, h1, ⟨Nat.le_refl _, fun u => u, fun u => ⟨rfl, Nat.le_refl _, fun h => h⟩⟩⟩ ?_ ?_⟩
    · rintro i σ H2 hi ⟨ws, x3, x4, rfl, k2, p2, h2, wr⟩
      have wl := wr.len
      walk_at "rd"
      refine ⟨size_of (Nat.le_of_ble_eq_true rfl), fun a ha => ?_⟩
      obtain ⟨H3, e3, s3, h3⟩ := new_heap (o := .lst [.str "~", .str "&", .str "|"]) ha
      rw [e3]
      walk_at "rd"
      refine ⟨p, L, _, 3, rfl, p2.up s3, by omega, by decide, by decide, fun d H4 d0 d1 k4 p4 => ?_⟩
      have h4 := k4 _ _ rfl h3
      have k24 := (Same.keep s3).trans k4
      have h4D := k24 _ _ rfl h2
      have two : ∀ (g : Str) (f : Tr → Tr → Tr), (∀ x u, wordsT (f x u) = g :: (wordsT x ++ wordsT u)) → (∀ x u, sdT (f x u) = max (sdT x) (sdT u) + 1) → (∀ x u, Plain x → Plain u → Plain (f x u)) → ∀ (lf : Str), lf = "always" ∨ lf = "never" → Wrap (ws ++ [g] ++ [lf]) (i + 1) := fun g f a b c lf hl => by
        rcases hl with rfl | rfl
        · exact wr.two (x := .al) f g "always" rfl rfl trivial (a _) (b _) (fun u => c _ u trivial)
        · exact wr.two (x := .ne) f g "never" rfl rfl trivial (a _) (b _) (fun u => c _ u trivial)
      have sgn : d = 0 ∨ d = 1 ∨ d = 2 := by omega
      have three : d = 0 ∨ ∃ g : Str, atI [V.str "~", V.str "&", V.str "|"] d = some (.str g) ∧ decide (V.str g = V.str "~") = false ∧ ∀ (lf : Str), lf = "always" ∨ lf = "never" → Wrap (ws ++ [g] ++ [lf]) (i + 1) := by
        rcases sgn with rfl | rfl | rfl
        · exact .inl rfl
        · exact .inr ⟨"&", rfl, by decide, two _ .an (fun _ _ => rfl) (fun _ _ => rfl) fun _ _ a b => ⟨a, b⟩⟩
        · exact .inr ⟨"|", rfl, by decide, two _ .ou (fun _ _ => rfl) (fun _ _ => rfl) fun _ _ a b => ⟨a, b⟩⟩
      rcases three with rfl | ⟨g, eg, ng, wg⟩
      · refine i_ixL h4 (v := .str "~") rfl ?_
        walk_at "rd"
        refine i_tyL h4D ?_
        walk_at "rd"
        refine i_app h4D (by rw [List.length_map]; omega) ?_
        walk_at "rd"
        rw [decide_eq_true rfl]
        refine iteF ?_
        refine ⟨ws ++ [("~" : Str)], _, _, rfl, Keep.mutN (k2.trans k24) npD, (p4.mut h4D LD).mono (by omega), ?_, wr.no⟩
        rw [List.map_append]
        exact upd_same
      · refine i_ixL h4 eg ?_
        walk_at "rd"
        refine i_tyL h4D ?_
        walk_at "rd"
        refine i_app h4D (by rw [List.length_map]; omega) ?_
        have k5 : Keep H (upd H4 D (.lst (ws.map V.str ++ [.str g]))) := Keep.mutN (k2.trans k24) npD
        have p5 := p4.mut (ws := ws.map V.str ++ [.str g]) h4D LD
        have h5 : upd H4 D (.lst (ws.map V.str ++ [.str g])) D = some (.lst (ws.map V.str ++ [.str g])) := upd_same
        generalize upd H4 D (.lst (ws.map V.str ++ [.str g])) = H5 at *
        walk_at "rd"
        rw [ng]
        refine iteT ?_
        walk_at "rd"
        refine i_tyL h5 ?_
        walk_at "rd"
        refine ⟨size_of (Nat.le_of_ble_eq_true rfl), fun b hb => ?_⟩
        obtain ⟨H6, e6, s6, h6⟩ := new_heap (o := .lst [.str "always", .str "never"]) hb
        rw [e6]
        walk_at "rd"
        refine ⟨p, L, _, 2, rfl, p5.up s6, by omega, by decide, by decide, fun d7 H7 u0 u1 k7 p7 => ?_⟩
        obtain ⟨lf, ew, hlf⟩ : ∃ lf : Str, atI [V.str "always", V.str "never"] d7 = some (.str lf) ∧ (lf = "always" ∨ lf = "never") := by
          obtain e | e : d7 = 0 ∨ d7 = 1 := by omega
          · rw [e]; exact ⟨"always", rfl, .inl rfl⟩
          · rw [e]; exact ⟨"never", rfl, .inr rfl⟩
        refine i_ixL (k7 _ _ rfl h6) ew ?_
        have k57 := (Same.keep s6).trans k7
        have h7D := k57 _ _ rfl h5
        walk_at "rd"
        refine i_app h7D (by rw [List.length_append, List.length_map]; show ws.length + 1 ≤ _; omega) ?_
        refine ⟨ws ++ [g] ++ [lf], _, _, rfl, Keep.mutN (k5.trans k57) npD, (p7.mut h7D LD).mono (by omega), ?_, wg lf hlf⟩
        rw [List.map_append, List.map_append]
        exact upd_same
    · rintro σ H2 ⟨ws, x3, x4, rfl, k2, p2, h2, wr⟩
      have wl := wr.len
      walk_at "rd"
      refine ⟨size_of (Nat.le_of_ble_eq_true rfl), fun a ha => ?_⟩
      obtain ⟨H3, e3, s3, h3⟩ := new_heap (o := .lst [.str "never"]) ha
      rw [e3]
      refine ⟨D, a, _, _, rfl, rfl, s3 _ _ h2, h3, size_of (by rw [List.length_map]; show ws.length + 1 ≤ _; omega), fun c hc => ?_⟩
      obtain ⟨H4, e4, s4, h4⟩ := new_heap (o := .lst (ws.map V.str ++ [.str "never"])) hc
      rw [e4]
      obtain ⟨wr', e⟩ := wr.ex
      obtain ⟨a1, a2, a3⟩ := e .ne
      have a1' : ws ++ [("never" : Str)] = wordsT (wr' .ne) := a1
      refine q c H4 (wr' .ne) (k2.trans (Same.keep fun b o z => s4 _ _ (s3 _ _ z))) (((p2.up s3).up s4).mono (by omega)) ?_ (a3 trivial) ?_ ?_
      · rw [← a1', List.map_append]
        exact h4
      · have : sdT Tr.ne = 0 := rfl
        omega
      · rw [← a1', List.length_append]
        show ws.length + 1 ≤ 400
        omega
/-- lists of words, each a tree's -/
abbrev RowsP (H : Hp) : List Tr → List V → Prop := Paired fun t v => ∃ a, v = .ref a ∧ H a = some (.lst ((wordsT t).map V.str))
theorem RowsP.keep {H H' : Hp} {ts : List Tr} {us : List V} (h : RowsP H ts us) (e : Keep H H') : RowsP H' ts us := Paired.mapP h fun _ _ ⟨a, x, y⟩ => ⟨a, x, e _ _ rfl y⟩
theorem RowsP.refs {H : Hp} {ts : List Tr} {us : List V} (h : RowsP H ts us) : ∀ u, u ∈ us → ∃ a, u = V.ref a := by
  induction h with
  | nil => exact fun u hu => absurd hu List.not_mem_nil
  | cons r t ih =>
    intro u hu
    rcases List.mem_cons.mp hu with e | hu
    · obtain ⟨a, x, _⟩ := r
      exact ⟨a, e.trans x⟩
    · exact ih u hu
theorem RowsP.put {H : Hp} {ts : List Tr} {us xs : List V} {d : Addr} {o : HO} (h : RowsP H ts us) (hd : H d = some (.lst xs)) (hx : ∀ u, u ∈ xs → ∃ a, u = V.ref a) : RowsP (upd H d o) ts us := Paired.mapP h fun t v ⟨a, x, y⟩ => ⟨a, x, by
  rw [upd_ne (fun z => ?_)]
  · exact y
  · rw [z, hd] at y
    have e := HO.lst.inj (Option.some.inj y)
    cases ht : wordsT t with
    | nil => have := words_pos t; rw [ht] at this; exact Nat.lt_irrefl _ this
    | cons w0 ws =>
      rw [ht] at e
      obtain ⟨b, eb⟩ := hx (.str w0) (by rw [e]; exact List.mem_cons_self ..)
      cases eb⟩
theorem RowsP.app {H : Hp} : ∀ {ts : List Tr} {us : List V} {ts' : List Tr} {us' : List V}, RowsP H ts us → RowsP H ts' us' → RowsP H (ts ++ ts') (us ++ us')
  | _, _, _, _, .nil, b => b
  | _, _, _, _, .cons r t, b => .cons r (RowsP.app t b)
theorem rows_drop {H : Hp} : ∀ {ts : List Tr} {us : List V} (k : Nat), RowsP H ts us → RowsP H (ts.drop k) (us.drop k)
  | _, _, 0, h => h
  | _, _, k + 1, .nil => .nil
  | _, _, k + 1, .cons r t => rows_drop k t
theorem rows_get {H : Hp} : ∀ {ts : List Tr} {us : List V} {k : Nat} (_ : RowsP H ts us) (hk : k < ts.length), ∃ a, us[k]? = some (.ref a) ∧ H a = some (.lst ((wordsT ts[k]).map V.str))
  | _, _, 0, .cons r t, hk => by
    obtain ⟨a, x, y⟩ := r
    exact ⟨a, by rw [x]; rfl, y⟩
  | _, _, k + 1, .cons r t, hk => rows_get t (Nat.lt_of_succ_lt_succ hk)
theorem round_up2 {k r : Nat} (h1 : 1 < k) (h : (k - 1) * 2 ^ r < 200) : (k - k / 2 - 1) * 2 ^ (r + 1) < 200 ∧ r ≤ 7 := by
  have a : (k - k / 2 - 1) * 2 ≤ k - 1 := by omega
  have b : (k - k / 2 - 1) * 2 ^ (r + 1) = ((k - k / 2 - 1) * 2) * 2 ^ r := by rw [Nat.pow_succ, Nat.mul_assoc, Nat.mul_comm 2 (2 ^ r)]
  refine ⟨?_, ?_⟩
  · rw [b]
    exact Nat.lt_of_le_of_lt (Nat.mul_le_mul_right _ a) h
  · have c : 2 ^ r ≤ (k - 1) * 2 ^ r := Nat.le_mul_of_pos_left _ (by omega)
    by_cases z : r ≤ 7
    · exact z
    · have : 2 ^ 8 ≤ 2 ^ r := Nat.pow_le_pow_right (by decide) (by omega)
      omega
abbrev s_long : Stmt := top 61
theorem sc_long : FnScope ["_law_pen_here", "_law_rows", "_law_found", "_law_k"] ["_law_pen_here"] (defScope s_long) := ⟨rfl, rfl, rfl, by decide +kernel, rfl, by decide +kernel, by decide +kernel⟩
def sp_llong : Sp := fun vs H Q _ => ∃ p L n, vs = [.ref p] ∧ Pen H p L n ∧ n ≤ 9590 ∧ ∀ l H' t, Keep H H' → Pen H' p L (n + 400) → H' l = some (.lst ((wordsT t).map V.str)) → Plain t → sdT t ≤ 100 → (wordsT t).length ≤ 400 → Q (.ref l) H'
/-- the list of rows while it gets shorter -/
structure RInv (H0 : Hp) (p L : Addr) (n1 : Nat) (k : Nat) (σ : L2.St) (H : Hp) : Prop where
  ex : ∃ (q : Addr) (us : List V) (ts : List Tr) (r : Nat) (x2 x3 : Option V), σ = [some (.ref p), some (.ref q), x2, x3] ∧ k = ts.length ∧ 1 ≤ k ∧ k ≤ 200 ∧ Keep H0 H ∧ Pen H p L (n1 + (200 - k)) ∧ H q = some (.lst us) ∧ RowsP H ts us ∧ (∀ t, t ∈ ts → Plain t) ∧
    totM ts = 200 ∧ totN ts = 0 ∧ (∀ t, t ∈ ts → t.deep ≤ r + 1) ∧ (k - 1) * 2 ^ r < 200 ∧ r ≤ 8
theorem ok_llong {f fD : Addr} {fd fdD : FuncData} (F : Fun K "_law_long" "_law_long" s_long f fd) (F_draw : Fun K "_law_draw" "_law_draw" s_draw fD fdD) (B_draw : Binds K fdD ["_law_pen_here", "_law_many"] []) (g_draw : mg "_law_draw" = some (.ref fD))
    (G_draw : FnOk P w K mg base CX0 1 fD fdD ["_law_pen_here", "_law_many"] sp_draw) (z_len : mg "len" = none) (z_range : mg "range" = none) : FnOk P w K mg base CX0 2 f fd ["_law_pen_here"] sp_llong := by
  refine F.ok sc_long (fun vs H Q E h => ?_) (fun cdv A outer s H vs Q E hr h => ?_)
  · obtain ⟨p, L, n, rfl, _⟩ := h
    rfl
  · obtain ⟨p, L, n, rfl, hp, hn, k⟩ := h
    refine ⟨_, (pss_cons (ps_setLc (i := 1) (own := [("_law_k", 3)]) (g := gName 3) (tt := tYes) rfl sc_long.nd rfl rfl (sw_true rfl rfl rfl (by decide +kernel)) (pi_range1 (by rfl) z_range (pa_cons pe_int pa_nil)) (blkOk_by (own := [("_law_k", 3)]) (N := ["_law_pen_here", "_law_rows", "_law_found", "_law_k"]) (sc := defScope s_long) (by decide +kernel)) (fun _ _ _ _ _ => pg_name (i := 3) sc_long.nd rfl (Or.inl rfl)) (fun _ _ _ _ _ => pts_nil) (fun _ _ _ _ _ => (pe_split (pe_ix (ix_listK (K := K) rfl) (pe_lst (pa_cons pe_str (pa_cons pe_str pa_nil))) (pe_call G_draw (hr.mono (by decide)) rfl g_draw F_draw.kp B_draw .nil pass0 (pa_cons (pv 0) (pa_cons pe_int pa_nil))) (fun _ _ => rfl)) pe_str)))
 (pss_cons (ps_while PassesOwn.never (pt_cmpR op_gt (pe_callB call_len_seq (by rfl) z_len PySem.boot_len (pa_cons (pv 1) pa_nil)) pe_int (nomark _))
 (pss_cons (ps_set (i := 2) sc_long.nd rfl (Or.inl rfl) (pe_lst pa_nil))
 (pss_cons (ps_for PassesOwn.never rfl (pi_range3 (by rfl) z_range (pa_cons pe_int (pa_cons (pe_op op_sub (pe_callB call_len_seq (by rfl) z_len PySem.boot_len (pa_cons (pv 1) pa_nil)) pe_int) (pa_cons pe_int pa_nil)))) (pg_name (i := 3) sc_long.nd rfl (Or.inl rfl))
 (pss_one (ps_expr (pe_bm PySem.F.plainAttrs_list PySem.F.slot_list_append PySem.F.type_list_append mt_append (pv 2) (pa_cons (pe_op op_cat (pe_op op_cat (pe_lst (pa_cons (pe_ix ix_list (pe_lst (pa_cons pe_str (pa_cons pe_str pa_nil))) (pe_call G_draw (hr.mono (by decide)) rfl g_draw F_draw.kp B_draw .nil pass0 (pa_cons (pv 0) (pa_cons pe_int pa_nil))) (fun _ _ => rfl)) pa_nil)) (pe_ix ix_list (pv 1) (pv 3) (fun _ _ => rfl))) (pe_ix ix_list (pv 1) (pe_op op_add (pv 3) pe_int) (fun _ _ => rfl))) pa_nil)))))
 (pss_one (ps_set (i := 1) sc_long.nd rfl (Or.inl rfl) (pe_op op_cat (pv 2) (pe_slice sl_list (pv 1) (po_some (pe_op op_mul pe_int (pe_callB call_len_seq (by rfl) z_len PySem.boot_len (pa_cons (pv 2) pa_nil)))) po_none)))))))
 (pss_one (ps_ret (pe_op op_cat (pe_lst (pa_cons pe_str pa_nil)) (pe_ix ix_list (pv 1) pe_int (fun _ _ => rfl))))))), ?_⟩
    walk_at "rd"
    unfold tLc
    walk_at "rd"
    refine ⟨by decide, by decide, fun D hD => ?_⟩
    obtain ⟨H1, e1, s1, h1⟩ := new_heap (o := .lst []) hD
    have pD := hp.ne hD
    refine lc_range (lo := 0) (n := 200) (fun j H' => ∃ us ts, Keep H H' ∧ Pen H' p L (n + j) ∧ H' D = some (.lst us) ∧ RowsP H' ts us ∧ (∀ t, t ∈ ts → Plain t) ∧ ts.length = j ∧ totM ts = j ∧ totN ts = 0 ∧ ∀ t, t ∈ ts → t.deep ≤ 0 + 1) ⟨[], [], by rw [e1]; exact Same.keep s1, by rw [e1]; exact hp.up s1, by rw [e1]; exact h1, .nil, fun t h => absurd h List.not_mem_nil, rfl, rfl, rfl, fun t h => absurd h List.not_mem_nil⟩ ?_ ?_
    · rintro j H2 hj ⟨us, ts, k2, p2, h2, pt, ok, lt, tm, tn, td⟩
      walk_at "rd"
      refine ⟨rfl, i_yes (iteT ?_)⟩
      refine i_m1 ?_
      walk_at "rd"
      refine ⟨size_of (Nat.le_of_ble_eq_true rfl), fun a ha => ?_⟩
      obtain ⟨H3, e3, s3, h3⟩ := new_heap (o := .lst [.str "always", .str "never"]) ha
      rw [e3]
      walk_at "rd"
      refine ⟨p, L, _, 2, rfl, p2.up s3, by omega, by decide, by decide, fun d H4 d0 d1 k4 p4 => ?_⟩
      obtain ⟨x, ew, hx⟩ : ∃ x : Tr, (∃ lf : Str, wordsT x = [lf] ∧ atI [V.str "always", V.str "never"] d = some (.str lf) ∧ 32 ∉ tl lf ∧ lf.length ≤ 10) ∧ Plain x ∧ x.many = 1 ∧ x.nots = 0 ∧ x.deep = 1 := by
        obtain e | e : d = 0 ∨ d = 1 := by omega
        · rw [e]; exact ⟨.al, ⟨"always", rfl, rfl, by decide +kernel, by decide⟩, trivial, rfl, rfl, rfl⟩
        · rw [e]; exact ⟨.ne, ⟨"never", rfl, rfl, by decide +kernel, by decide⟩, trivial, rfl, rfl, rfl⟩
      obtain ⟨lf, el, ew, h32, hlz⟩ := ew
      obtain ⟨hpl, hm1, hn0, hd1⟩ := hx
      refine i_ixL (k4 _ _ rfl h3) ew ?_
      refine ⟨⟨_, rfl⟩, ?_⟩
      walk_at "rd"
      refine ⟨_, _, rfl, rfl, rfl, size_of (by omega), fun lp hlp => ?_⟩
      rw [split_whole (y := Str.ofString " ") (s := 32) rfl (by decide +kernel) h32]
      obtain ⟨H5, e5, s5, h5⟩ := new_heap (o := .lst ([lf].map V.str)) hlp
      rw [e5]
      have k25 := ((Same.keep s3).trans k4).trans (Same.keep s5)
      have h5D := k25 _ _ rfl h2
      have lu := Paired.length pt
      have rf := RowsP.refs pt
      refine ⟨_, h5D, size_lt (by omega), us ++ [.ref lp], ts ++ [x], Keep.mut (k2.trans k25) hD, ((p4.up s5).mut h5D pD).mono (by omega), upd_same, RowsP.put (RowsP.app (RowsP.keep pt k25) (.cons ⟨lp, rfl, by rw [el]; exact h5⟩ .nil)) h5D rf, fun y hy => ?_, by rw [List.length_append, lt]; rfl, ?_, ?_, fun y hy => ?_⟩
      · rcases List.mem_append.mp hy with hy | hy
        · exact ok y hy
        · rw [List.mem_singleton.mp hy]; exact hpl
      · rw [totM_app, tm]; show j + (x.many + 0) = j + 1; omega
      · rw [totN_app, tn]; show 0 + (x.nots + 0) = 0; omega
      · rcases List.mem_append.mp hy with hy | hy
        · exact td y hy
        · rw [List.mem_singleton.mp hy]; omega
    · rintro H2 ⟨us, ts, k2, p2, h2, pt, ok, lt, tm, tn, td⟩
      walk_at "rd"
      refine ⟨RInv H p L (n + 200), ⟨200, ⟨D, us, ts, 0, _, _, rfl, lt.symm, by decide, Nat.le_refl _, k2, p2.mono (by omega), h2, pt, ok, tm, tn, td, by decide, by decide⟩⟩, ?_⟩
      rintro i σ H3 ⟨q, us, ts, r, x2, x3, rfl, ek, k1, km, k3, p3, h3, pt, ok, tm, tn, td, rr, r8⟩
      have lu := Paired.length pt
      walk_at "rd"
      refine ite_d (fun hA => ?_) (fun hA => ?_)
      · refine ⟨_, fun σ' H' h => h, ?_⟩
        obtain ⟨rr2, r7⟩ := round_up2 (show 1 < i by omega) rr
        walk_at "rd"
        refine ⟨Nat.zero_le _, fun fl hfl => ?_⟩
        obtain ⟨H4, e4, s4, h4⟩ := new_heap (o := .lst []) hfl
        rw [e4]
        have npf : NP H fl := k3.np hfl
        have Lf := p3.ne hfl
        have nqf : q ≠ fl := ne_of_none h3 hfl
        have h4q := s4 _ _ h3
        have k4 := k3.trans (Same.keep s4)
        walk_at "rd"
        refine i_r3 ?_
        walk_at "rd"
        refine ⟨_, _, _, i / 2, rfl, by rw [← lu, ← ek]; exact rg_half (by omega), for_rangeC (lo := 0) (c := 2) (n := i / 2) (fun j σ' H' => ∃ ufs fts x3', σ' = [some (.ref p), some (.ref q), some (.ref fl), x3'] ∧ Keep H H' ∧ H' q = some (.lst us) ∧ H' fl = some (.lst ufs) ∧ RowsP H' ts us ∧ RowsP H' fts ufs ∧ Pen H' p L (n + 200 + (200 - i) + j) ∧ (∀ t, t ∈ fts → Plain t) ∧ fts.length = j ∧ totM fts = totM (ts.take (2 * j)) ∧ totN fts = 0 ∧ ∀ t, t ∈ fts → t.deep ≤ r + 1 + 1) ⟨[], [], x3, rfl, k4, h4q, h4, RowsP.keep pt (Same.keep s4), .nil, (p3.up s4).mono (by omega), fun t h => absurd h List.not_mem_nil, rfl, congrArg totM (List.take_zero (l := ts)).symm, rfl, fun t h => absurd h List.not_mem_nil⟩ ?_ ?_⟩
        · rintro j σ' H5 hj ⟨ufs, fts, x3', rfl, k5, h5q, h5f, pt5, pf5, p5, fok, fl5, fm, fn, fd⟩
          have hj1 : 2 * j + 1 < ts.length := by omega
          have hj0 : 2 * j < ts.length := by omega
          have luf := Paired.length pf5
          walk_at "rd"
          refine i_tyL h5f ?_
          walk_at "rd"
          refine ⟨size_of (Nat.le_of_ble_eq_true rfl), fun a ha => ?_⟩
          obtain ⟨H6, e6, s6, h6⟩ := new_heap (o := .lst [.str "&", .str "|"]) ha
          rw [e6]
          walk_at "rd"
          refine ⟨p, L, _, 2, rfl, p5.up s6, by omega, by decide, by decide, fun d7 H7 u0 u1 k7 p7 => ?_⟩
          obtain ⟨wd, ew, hwd⟩ : ∃ wd : Str, atI [V.str "&", V.str "|"] d7 = some (.str wd) ∧ (wd = "&" ∨ wd = "|") := by
            obtain e | e : d7 = 0 ∨ d7 = 1 := by omega
            · rw [e]; exact ⟨"&", rfl, .inl rfl⟩
            · rw [e]; exact ⟨"|", rfl, .inr rfl⟩
          refine i_ixL (k7 _ _ rfl h6) ew ?_
          have k57 := (Same.keep s6).trans k7
          walk_at "rd"
          refine ⟨size_of (Nat.le_of_ble_eq_true rfl), fun b hb => ?_⟩
          obtain ⟨H8, e8, s8, h8⟩ := new_heap (o := .lst [.str wd]) hb
          rw [e8]
          have k58 := k57.trans (Same.keep s8)
          have h8q := k58 _ _ rfl h5q
          obtain ⟨a1, ev1, hv1⟩ := rows_get (RowsP.keep pt5 k58) hj0
          obtain ⟨a2, ev2, hv2⟩ := rows_get (RowsP.keep pt5 k58) hj1
          obtain ⟨nt, en, gn, mn, nn, dn⟩ : ∃ nt : Tr, wordsT nt = wd :: (wordsT ts[2 * j] ++ wordsT ts[2 * j + 1]) ∧ Plain nt ∧ nt.many = ts[2 * j].many + ts[2 * j + 1].many ∧ nt.nots = ts[2 * j].nots + ts[2 * j + 1].nots ∧ nt.deep ≤ r + 1 + 1 := by
            have g1 := ok _ (List.getElem_mem hj0)
            have g2 := ok _ (List.getElem_mem hj1)
            have d1 := td _ (List.getElem_mem hj0)
            have d2 := td _ (List.getElem_mem hj1)
            rcases hwd with rfl | rfl
            · exact ⟨.an ts[2 * j] ts[2 * j + 1], rfl, ⟨g1, g2⟩, rfl, rfl, by simp only [Tr.deep]; omega⟩
            · exact ⟨.ou ts[2 * j] ts[2 * j + 1], rfl, ⟨g1, g2⟩, rfl, rfl, by simp only [Tr.deep]; omega⟩
          have n0 : nt.nots = 0 ∧ nt.many ≤ 200 := by
            have e := split_at hj1
            have e2 : totN ts = totN (ts.take (2 * j)) + (ts[2 * j].nots + (ts[2 * j + 1].nots + totN (ts.drop (2 * j + 2)))) := by
              conv => lhs; rw [e]
              rw [totN_app]
              rfl
            have e3 : totM ts = totM (ts.take (2 * j)) + (ts[2 * j].many + (ts[2 * j + 1].many + totM (ts.drop (2 * j + 2)))) := by
              conv => lhs; rw [e]
              rw [totM_app]
              rfl
            omega
          have nw := plain_words gn
          have lw := congrArg List.length en
          rw [List.length_cons, List.length_append] at lw
          walk_at "rd"
          refine i_ixL h8q (v := .ref a1) (by rw [show (0 : Int) + (j : Int) * 2 = ((2 * j : Nat) : Int) from by omega]; exact atI_nat ev1) ?_
          refine ⟨b, a1, _, _, rfl, rfl, h8, hv1, size_of (by rw [List.length_map]; show 1 + _ ≤ _; omega), fun c hc => ?_⟩
          obtain ⟨H9, e9, s9, h9⟩ := new_heap (o := .lst ([V.str wd] ++ (wordsT ts[2 * j]).map V.str)) hc
          rw [e9]
          have h9q := s9 _ _ h8q
          walk_at "rd"
          refine i_ixL h9q (v := .ref a2) (by rw [show (0 : Int) + (j : Int) * 2 + 1 = ((2 * j + 1 : Nat) : Int) from by omega]; exact atI_nat ev2) ?_
          refine ⟨c, a2, _, _, rfl, rfl, h9, s9 _ _ hv2, size_of (by rw [List.length_append, List.length_map, List.length_map]; show 1 + _ + _ ≤ _; omega), fun c2 hc2 => ?_⟩
          obtain ⟨H10, e10, s10, h10⟩ := new_heap (o := .lst ([V.str wd] ++ (wordsT ts[2 * j]).map V.str ++ (wordsT ts[2 * j + 1]).map V.str)) hc2
          rw [e10]
          have k510 := k58.trans (Same.keep fun b o z => s10 _ _ (s9 _ _ z))
          have h10q := k510 _ _ rfl h5q
          have h10f := k510 _ _ rfl h5f
          walk_at "rd"
          refine i_app h10f (by omega) ?_
          have rf := RowsP.refs pf5
          refine ⟨_, fts ++ [nt], _, rfl, Keep.mutN (k5.trans k510) npf, ?_, upd_same, RowsP.put (RowsP.keep pt5 k510) h10f rf, RowsP.put (RowsP.app (RowsP.keep pf5 k510) (.cons ⟨c2, rfl, ?_⟩ .nil)) h10f rf, (((p7.up s8).up (fun b o z => s10 _ _ (s9 _ _ z))).mut h10f Lf).mono (by omega), fun x hx => ?_, by rw [List.length_append, fl5]; rfl, ?_, ?_, fun x hx => ?_⟩
          · rw [upd_ne nqf]
            exact h10q
          · rw [en, h10]
            simp
          · rcases List.mem_append.mp hx with hx | hx
            · exact fok x hx
            · rw [List.mem_singleton.mp hx]; exact gn
          · rw [totM_app, take_two hj1, totM_app, fm]
            show _ + (nt.many + 0) = _ + (ts[2 * j].many + (ts[2 * j + 1].many + 0))
            omega
          · rw [totN_app, fn]
            show 0 + (nt.nots + 0) = 0
            omega
          · rcases List.mem_append.mp hx with hx | hx
            · exact fd x hx
            · rw [List.mem_singleton.mp hx]; exact dn
        · rintro σ' H5 ⟨ufs, fts, x3', rfl, k5, h5q, h5f, pt5, pf5, p5, fok, fl5, fm, fn, fd⟩
          have luf := Paired.length pf5
          walk_at "rd"
          refine i_sl ?_
          walk_at "rd"
          refine i_part ?_
          walk_at "rd"
          refine ⟨_, rfl, i_noPart ?_⟩
          rw [show (2 : Int) * (ufs.length : Int) = ((2 * ufs.length : Nat) : Int) from by omega]
          refine ⟨q, us, rfl, SqL.of h5q, fun p6 hp6 => ?_⟩
          rw [cut_drop]
          obtain ⟨H6, e6, s6, h6⟩ := new_heap (o := .lst (us.drop (2 * ufs.length))) hp6
          rw [e6]
          refine ⟨fl, p6, _, _, rfl, rfl, s6 _ _ h5f, h6, size_of (by rw [List.length_drop]; omega), fun c hc => ?_⟩
          obtain ⟨H7, e7, s7, h7⟩ := new_heap (o := .lst (ufs ++ us.drop (2 * ufs.length))) hc
          rw [e7]
          have s57 : Same H5 H7 := fun b o z => s7 _ _ (s6 _ _ z)
          have e2 : 2 * ufs.length = 2 * (i / 2) := by omega
          rw [e2] at h7
          have eM : totM ts = totM (ts.take (2 * (i / 2))) + totM (ts.drop (2 * (i / 2))) := by
            conv => lhs; rw [← List.take_append_drop (2 * (i / 2)) ts]
            rw [totM_app]
          have eN : totN ts = totN (ts.take (2 * (i / 2))) + totN (ts.drop (2 * (i / 2))) := by
            conv => lhs; rw [← List.take_append_drop (2 * (i / 2)) ts]
            rw [totN_app]
          have el : (fts ++ ts.drop (2 * (i / 2))).length = i - i / 2 := by
            rw [List.length_append, List.length_drop]
            omega
          refine ⟨i - i / 2, by omega, ⟨c, _, fts ++ ts.drop (2 * (i / 2)), r + 1, _, _, rfl, el.symm, by omega, by omega, k5.trans (Same.keep s57), (p5.up s57).mono (by omega), h7, RowsP.app (RowsP.keep pf5 (Same.keep s57)) (rows_drop _ (RowsP.keep pt5 (Same.keep s57))), fun x hx => ?_, by rw [totM_app]; omega, by rw [totN_app]; omega, fun x hx => ?_, rr2, by omega⟩⟩
          · rcases List.mem_append.mp hx with hx | hx
            · exact fok x hx
            · exact ok x (List.mem_of_mem_drop hx)
          · rcases List.mem_append.mp hx with hx | hx
            · exact fd x hx
            · exact Nat.le_succ_of_le (td x (List.mem_of_mem_drop hx))
      · have i1 : i = 1 := by omega
        subst i1
        walk_at "rd"
        refine ⟨size_of (Nat.le_of_ble_eq_true rfl), fun a ha => ?_⟩
        obtain ⟨H4, e4, s4, h4⟩ := new_heap (o := .lst [.str "~"]) ha
        rw [e4]
        have h4q := s4 _ _ h3
        match ts, us, pt, ek with
        | [t], [v], .cons ⟨b, ev, hb⟩ .nil, _ =>
          subst ev
          walk_at "rd"
          have gt := ok t (List.mem_cons_self ..)
          have dt := td t (List.mem_cons_self ..)
          have tm' : t.many = 200 := by simpa [totM] using tm
          have tn' : t.nots = 0 := by simpa [totN] using tn
          have wm := plain_words gt
          have sm := sd_deep t
          refine ⟨a, b, _, _, rfl, rfl, h4, s4 _ _ hb, size_of (by rw [List.length_map]; show 1 + _ ≤ _; omega), fun c hc => ?_⟩
          obtain ⟨H5, e5, s5, h5⟩ := new_heap (o := .lst ([V.str "~"] ++ (wordsT t).map V.str)) hc
          rw [e5]
          refine k c H5 (.no t) (k3.trans (Same.keep fun b o z => s5 _ _ (s4 _ _ z))) (((p3.up s4).up s5).mono (by omega)) h5 gt ?_ ?_
          · show sdT t + 1 ≤ 100
            omega
          · show (wordsT t).length + 1 ≤ 400
            omega
end
end Spk

set_option Elab.async false
set_option linter.all false
set_option maxRecDepth 100000
set_option maxHeartbeats 4000000
namespace Spk
open PySem L2 TL
local macro_rules | `(tactic| walk_at "rd") => `(tactic| repeat (first
  | with_reducible refine i_seq ?_ | with_reducible refine i_asg ?_ | with_reducible refine i_ret ?_ | with_reducible refine i_ifS ?_ | with_reducible refine i_if ?_
  | with_reducible refine i_for ?_ | with_reducible refine i_iL ?_ | with_reducible refine i_iT ?_ | with_reducible refine i_ckw ?_ | with_reducible refine i_cm ?_ | with_reducible refine And.intro (rfl : V.ref _ = V.ref _) ?_ | with_reducible refine i_rng1 ?_ | with_reducible refine i_bm ?_ | with_reducible refine i_bm0 ?_
  | with_reducible refine i_drop ?_ | with_reducible refine i_next ?_
  | with_reducible refine i_var rfl ?_ | with_reducible refine i_c ?_ | with_reducible refine i_op ?_ | with_reducible refine i_un ?_ | with_reducible refine i_name ?_
  | with_reducible refine i_rI0 ?_ | with_reducible refine i_rU ?_ | with_reducible refine i_rEq rfl ?_ | with_reducible refine i_rNe rfl ?_
  | with_reducible refine i_test ?_ | with_reducible refine i_tB ?_ | with_reducible refine i_and ?_ | with_reducible refine i_or ?_ | with_reducible refine i_not ?_
  | with_reducible refine i_andV ?_ | with_reducible refine i_orV ?_ | with_reducible refine i_notV ?_
  | with_reducible refine i_cons ?_ | with_reducible refine i_nil ?_ | with_reducible refine i_cb ?_ | with_reducible refine i_call ?_ | with_reducible refine i_bl ?_
  | with_reducible refine i_tup ?_ | with_reducible refine i_lst ?_ | with_reducible refine i_par ?_ | with_reducible refine i_gcons ?_ | with_reducible refine i_gnil ?_
  | with_reducible refine And.intro (rfl : V.non = V.non) ?_ | with_reducible refine i_ixT (by assumption) rfl ?_ | with_reducible refine i_ixL (by assumption) rfl ?_ | with_reducible refine i_gtup (by assumption) rfl ?_
  | with_reducible refine i_gsub ?_
  | with_reducible refine Or.inl (Exists.intro _ (And.intro (rfl : [V.int _] = [V.int _]) ?_)) | with_reducible refine Exists.intro _ (And.intro (rfl : [V.int _] = [V.int _]) ?_)
  | with_reducible refine Or.inr (Exists.intro _ (And.intro (rfl : [V.bl _] = [V.bl _]) ?_))
  | with_reducible refine Exists.intro _ (Exists.intro _ (And.intro (rfl : [V.int _, V.int _] = [V.int _, V.int _]) ?_))
  | with_reducible refine Exists.intro _ (Exists.intro _ (And.intro (rfl : [V.ref _] = [V.ref _]) (And.intro (Or.inl (SqL.of (by assumption))) ?_)))
  | with_reducible refine i_rI (show (0 : Int) < _ by assumption) ?_ | with_reducible refine i_rI (show (0 : Int) < _ by decide) ?_
  | with_reducible refine i_rI (pow_ok (Nat.le_of_ble_eq_true rfl) (Nat.le_of_ble_eq_true rfl)) ?_
  | with_reducible refine i_rI (cmulL rfl) ?_))
def T1 : Tr := .wi "k" []
def T2 : Tr := .no (.mi "in")
def T3 : Tr := .an .al (.ou .ne (.wi "or" [(none, none)]))
def TT : List Tr := [T1, T2, T3]
theorem tt_texts : (TT.map fun t => Txt.join " " (wordsT t)) = (["in k -", "~ missing in", "& always | never in or .."] : List Str) := by decide +kernel
theorem full_ne : NE (none, none) := fun a b e => nomatch e
theorem full_few : FewS (none, none) := ⟨fun n e => (nomatch e), fun n e => (nomatch e)⟩
theorem tt_good : ∀ t, t ∈ TT → GoodT t := by
  intro t ht
  simp only [TT, List.mem_cons, List.not_mem_nil, or_false] at ht
  rcases ht with rfl | rfl | rfl
  · exact ⟨isName_of (by decide +kernel), canon_nil, fun s hs => absurd hs List.not_mem_nil, Nat.zero_le _⟩
  · exact isName_of (c := "in") (by decide +kernel)
  · exact ⟨trivial, trivial, isName_of (c := "or") (by decide +kernel), canon_one full_ne, fun s hs => by rw [List.mem_singleton.mp hs]; exact full_few, by show 1 ≤ 6; decide⟩
theorem tt_fits : ∀ t, t ∈ TT → t.cols.length < 64 ∧ sdT t ≤ 100 ∧ (wordsT t).length ≤ 400 := by
  intro t ht
  simp only [TT, List.mem_cons, List.not_mem_nil, or_false] at ht
  rcases ht with rfl | rfl | rfl <;> exact ⟨by decide, by decide, by decide⟩
theorem dps_trs {K : PySem.W.Frag} {H : Hp} : ∀ {ts : List Tr} {us : List V}, TrsP H ts us → DpAll K H us (ts.map treeD)
  | _, _, .nil => .nil
  | _, _, .cons r t => .cons (dpTr r) (dps_trs t)
/-- a tree that is told by its words alone -/
structure Told (t : Tr) : Prop where
  pl : Plain t
  sd : sdT t ≤ 100
  wz : (wordsT t).length ≤ 400
section
variable {P : Program} {w : World} {K : PySem.W.Frag} {mg : Str → Option Value} {base : Heap} {D fJ : Addr}
abbrev s_law : Stmt := top 62
theorem sc_law : FnScope ["_law_script", "_law_pen_here", "_law_turn", "_law_columns", "_law_words_here", "_law_wording"] ["_law_script"] (defScope s_law) := ⟨rfl, rfl, rfl, by decide +kernel, rfl, by decide +kernel, by decide +kernel⟩
def sp_law (K : PySem.W.Frag) : Sp := fun vs H Q _ => ∃ a, ∃ ns : List Int, vs = [.ref a] ∧ SqL K H a (ns.map V.int) ∧ ns.length ≤ 63 ∧ ∀ H', Q (.bl true) H'
theorem ok_law {f f1 f2 f3 f4 f5 f6 f7 f8 f9 f10 : Addr} {fd fd1 fd2 fd3 fd4 fd5 fd6 fd7 fd8 fd9 fd10 : FuncData} (F : Fun K "law" "law" s_law f fd) (T : ClsF K mg D fJ)
    (F_pen : Fun K "_law_pen" "_law_pen" s_pen f1 fd1) (B_pen : Binds K fd1 ["_law_script"] []) (g_pen : mg "_law_pen" = some (.ref f1)) (G_pen : FnOk P w K mg base CX0 1 f1 fd1 ["_law_script"] (sp_pen K))
    (F_draw : Fun K "_law_draw" "_law_draw" s_draw f2 fd2) (B_draw : Binds K fd2 ["_law_pen_here", "_law_many"] []) (g_draw : mg "_law_draw" = some (.ref f2)) (G_draw : FnOk P w K mg base CX0 1 f2 fd2 ["_law_pen_here", "_law_many"] sp_draw)
    (F_names : Fun K "_law_names" "_law_names" s_names f3 fd3) (B_names : Binds K fd3 ["_law_pen_here", "_law_many", "_law_some"] []) (g_names : mg "_law_names" = some (.ref f3)) (G_names : FnOk P w K mg base CX0 3 f3 fd3 ["_law_pen_here", "_law_many", "_law_some"] sp_lnames)
    (F_tree : Fun K "_law_tree" "_law_tree" s_tree f4 fd4) (B_tree : Binds K fd4 ["_law_pen_here", "_law_columns", "_law_many"] []) (g_tree : mg "_law_tree" = some (.ref f4)) (G_tree : FnOk P w K mg base CX0 5 f4 fd4 ["_law_pen_here", "_law_columns", "_law_many"] sp_ltree)
    (F_flat : Fun K "_law_flat" "_law_flat" s_flat f5 fd5) (B_flat : Binds K fd5 ["_law_pen_here", "_law_columns", "_law_many"] []) (g_flat : mg "_law_flat" = some (.ref f5)) (G_flat : FnOk P w K mg base CX0 5 f5 fd5 ["_law_pen_here", "_law_columns", "_law_many"] sp_lflat)
    (F_right : Fun K "_law_right" "_law_right" s_right f6 fd6) (B_right : Binds K fd6 ["_law_pen_here", "_law_columns", "_law_tree_here"] []) (g_right : mg "_law_right" = some (.ref f6)) (G_right : FnG P w K mg base CX0 30 f6 fd6 ["_law_pen_here", "_law_columns", "_law_tree_here"] sp_right)
    (F_deep : Fun K "_law_deep" "_law_deep" s_deep f7 fd7) (B_deep : Binds K fd7 ["_law_pen_here", "_law_many"] []) (g_deep : mg "_law_deep" = some (.ref f7)) (G_deep : FnOk P w K mg base CX0 2 f7 fd7 ["_law_pen_here", "_law_many"] sp_ldeep)
    (F_long : Fun K "_law_long" "_law_long" s_long f8 fd8) (B_long : Binds K fd8 ["_law_pen_here"] []) (g_long : mg "_law_long" = some (.ref f8)) (G_long : FnOk P w K mg base CX0 2 f8 fd8 ["_law_pen_here"] sp_llong)
    (F_show_filter : Fun K "show_filter" "show_filter" s_show_filter f9 fd9) (B_show_filter : Binds K fd9 ["where"] []) (g_show_filter : mg "show_filter" = some (.ref f9)) (G_show_filter : FnOk P w K mg base CX0 5 f9 fd9 ["where"] (sp_fshow D))
    (F_read_filter : Fun K "read_filter" "read_filter" s_read_filter f10 fd10) (B_read_filter : Binds K fd10 ["text"] []) (g_read_filter : mg "read_filter" = some (.ref f10)) (G_read_filter : FnOk P w K mg base CX0 9 f10 fd10 ["text"] (sp_fread D))
    (z_range : mg "range" = none) : FnG P w K mg base CX0 31 f fd ["_law_script"] (sp_law K) := by
  refine F.okG sc_law (fun vs H Q E h => ?_) (fun cdv A gG outer s H vs Q E hr h => ?_)
  · obtain ⟨a, ns, rfl, _⟩ := h
    rfl
  · obtain ⟨a, ns, rfl, hs, hz, q⟩ := h
    refine ⟨_, (pss_cons (ps_set (i := 1) sc_law.nd rfl (Or.inl rfl) (pe_call G_pen (hr.mono (by decide)) rfl g_pen F_pen.kp B_pen .nil pass0 (pa_cons (pv 0) pa_nil)))
 (pss_cons (ps_for PassesOwn.never rfl (pi_range1 (by rfl) z_range (pa_cons pe_int pa_nil)) (pg_name (i := 2) sc_law.nd rfl (Or.inl rfl))
 (pss_cons (ps_set (i := 3) sc_law.nd rfl (Or.inl rfl) (pe_call G_names (hr.mono (by decide)) rfl g_names F_names.kp B_names .nil pass0 (pa_cons (pv 1) (pa_cons (pe_op op_add pe_int (pe_call G_draw (hr.mono (by decide)) rfl g_draw F_draw.kp B_draw .nil pass0 (pa_cons (pv 1) (pa_cons pe_int pa_nil)))) (pa_cons (pe_lst pa_nil) pa_nil)))))
 (pss_one (ps_if (pt_not (pt_val (pe_callG G_right gG (hr.mono (by decide)) rfl g_right F_right.kp B_right .nil pass0 (pa_cons (pv 1) (pa_cons (pv 3) (pa_cons (pe_call G_tree (hr.mono (by decide)) rfl g_tree F_tree.kp B_tree .nil pass0 (pa_cons (pv 1) (pa_cons (pv 3) (pa_cons (pe_op op_add pe_int (pe_call G_draw (hr.mono (by decide)) rfl g_draw F_draw.kp B_draw .nil pass0 (pa_cons (pv 1) (pa_cons pe_int pa_nil)))) pa_nil)))) pa_nil))))))
 (pss_one (ps_ret pe_bl))
 pss_nil))))
 (pss_cons (ps_if (pt_not (pt_val (pe_callG G_right gG (hr.mono (by decide)) rfl g_right F_right.kp B_right .nil pass0 (pa_cons (pv 1) (pa_cons (pv 3) (pa_cons (pe_call G_flat (hr.mono (by decide)) rfl g_flat F_flat.kp B_flat .nil pass0 (pa_cons (pv 1) (pa_cons (pv 3) (pa_cons (pe_ix ix_list (pe_lst (pa_cons pe_int (pa_cons pe_int (pa_cons pe_int pa_nil)))) (pe_call G_draw (hr.mono (by decide)) rfl g_draw F_draw.kp B_draw .nil pass0 (pa_cons (pv 1) (pa_cons pe_int pa_nil))) (fun _ _ => rfl)) pa_nil)))) pa_nil))))))
 (pss_one (ps_ret pe_bl))
 pss_nil)
 (pss_cons (ps_for PassesOwn.never rfl (pi_tup (pe_tup (pa_cons (pe_call G_deep (hr.mono (by decide)) rfl g_deep F_deep.kp B_deep .nil pass0 (pa_cons (pv 1) (pa_cons pe_int pa_nil))) (pa_cons (pe_call G_deep (hr.mono (by decide)) rfl g_deep F_deep.kp B_deep .nil pass0 (pa_cons (pv 1) (pa_cons (pe_op op_add pe_int (pe_call G_draw (hr.mono (by decide)) rfl g_draw F_draw.kp B_draw .nil pass0 (pa_cons (pv 1) (pa_cons pe_int pa_nil)))) pa_nil))) (pa_cons (pe_call G_long (hr.mono (by decide)) rfl g_long F_long.kp B_long .nil pass0 (pa_cons (pv 1) pa_nil)) pa_nil))))) (pg_name (i := 4) sc_law.nd rfl (Or.inl rfl))
 (pss_one (ps_if (pt_cmpR op_ne (pe_call G_show_filter (hr.mono (by decide)) rfl g_show_filter F_show_filter.kp B_show_filter .nil pass0 (pa_cons (pe_call G_read_filter (hr.mono (by decide)) rfl g_read_filter F_read_filter.kp B_read_filter .nil pass0 (pa_cons (pe_join pe_str (pv 4)) pa_nil)) pa_nil)) (pe_join pe_str (pv 4)) (nomark _))
 (pss_one (ps_ret pe_bl))
 pss_nil)))
 (pss_one (ps_ret (pe_cmpR (op_eqD hr.units) (pe_lc (own := [("_law_wording", 5)]) (g := gName 5) (tt := tYes) rfl sc_law.nd (pi_tup (pe_tup (pa_cons pe_str (pa_cons pe_str (pa_cons pe_str pa_nil))))) (blkOk_by (own := [("_law_wording", 5)]) (N := ["_law_script", "_law_pen_here", "_law_turn", "_law_columns", "_law_words_here", "_law_wording"]) (sc := defScope s_law) (by decide +kernel)) (fun _ _ _ _ _ => pg_name (i := 5) sc_law.nd rfl (Or.inl rfl)) (fun _ _ _ _ _ => pts_nil) (fun _ _ _ _ _ => (pe_fldK (K := K) rfl (pe_call G_read_filter (hr.mono (by decide)) rfl g_read_filter F_read_filter.kp B_read_filter .nil pass0 (pa_cons (pv 5) pa_nil)) rfl))) (pe_lst (pa_cons (pe_tup (pa_cons pe_str (pa_cons pe_str (pa_cons (pe_tup pa_nil) pa_nil)))) (pa_cons (pe_tup (pa_cons pe_str (pa_cons (pe_tup (pa_cons pe_str (pa_cons pe_str pa_nil))) pa_nil))) (pa_cons (pe_tup (pa_cons pe_str (pa_cons (pe_tup (pa_cons pe_str pa_nil)) (pa_cons (pe_tup (pa_cons pe_str (pa_cons (pe_tup (pa_cons pe_str pa_nil)) (pa_cons (pe_tup (pa_cons pe_str (pa_cons pe_str (pa_cons (pe_tup (pa_cons (pe_tup (pa_cons pe_non (pa_cons pe_non pa_nil))) pa_nil)) pa_nil)))) pa_nil)))) pa_nil)))) pa_nil)))) (nomark _)))))))), ?_⟩
    walk_at "rd"
    refine ⟨a, ns, rfl, hs, hz, fun p L H1 s1 p1 => ?_⟩
    walk_at "rd"
    refine ⟨by decide, by decide, for_range (lo := 0) (n := 6) (fun i σ H' => ∃ x2 x3, σ = [some (.ref a), some (.ref p), x2, x3, none, none] ∧ Pen H' p L (818 * i) ∧ (1 ≤ i → ∃ cl cs, x3 = some (.ref cl) ∧ H' cl = some (.lst ((cs : List Str).map V.str)) ∧ 1 ≤ cs.length ∧ cs.length ≤ 4 ∧ ∀ c, c ∈ cs → IsName c)) ⟨none, none, rfl, p1, fun z => absurd z (by decide)⟩ ?_ ?_⟩
    · rintro i σ H2 hi ⟨x2, x3, rfl, p2, _⟩
      walk_at "rd"
      refine ⟨p, L, _, 4, rfl, p2, by omega, by decide, by decide, fun d H3 d0 d1 k3 p3 => ?_⟩
      walk_at "rd"
      refine ⟨Nat.zero_le _, fun l0 hl0 => ?_⟩
      obtain ⟨H4, e4, s4, h4⟩ := new_heap (o := .lst []) hl0
      rw [e4]
      walk_at "rd"
      refine ⟨p, L, _, 1 + d, l0, 1 + d.toNat, rfl, by omega, by omega, by omega, h4, p3.up s4, by omega, fun cs cl H5 nm lc k5 p5 h5 => ?_⟩
      walk_at "rd"
      refine ⟨p, L, _, 12, rfl, p5, by omega, by decide, by decide, fun d6 H6 u0 u1 k6 p6 => ?_⟩
      have h6 := k6 _ _ rfl h5
      walk_at "rd"
      have em : (1 : Int) + d6 = ((1 + d6.toNat : Nat) : Int) := by omega
      rw [em]
      refine ⟨p, L, _, cl, cs, 1 + d6.toNat, rfl, by omega, by omega, p6, by omega, h6, by omega, by omega, nm, fun v H7 t k7 p7 tt fit on => ?_⟩
      have h7 := k7 _ _ rfl h6
      walk_at "rd"
      refine ⟨p, L, _, cl, cs, v, t, rfl, p7, by omega, h7, by omega, nm, tt, fit, on, fun H8 k8 p8 => ?_⟩
      refine ⟨true, rfl, iteF ?_⟩
      exact ⟨_, _, rfl, p8.mono (by omega), fun _ => ⟨cl, cs, rfl, k8 _ _ rfl h7, by omega, by omega, nm⟩⟩
    · rintro σ H2 ⟨x2, x3, rfl, p2, hc⟩
      obtain ⟨cl, cs, rfl, h2, c1, c4, nm⟩ := hc (by decide)
      walk_at "rd"
      refine ⟨size_of (Nat.le_of_ble_eq_true rfl), fun b hb => ?_⟩
      obtain ⟨H3, e3, s3, h3⟩ := new_heap (o := .lst [.int 60, .int 31, .int 2]) hb
      rw [e3]
      walk_at "rd"
      refine ⟨p, L, _, 3, rfl, p2.up s3, by omega, by decide, by decide, fun d H4 d0 d1 k4 p4 => ?_⟩
      obtain ⟨m, em, m1, m60⟩ : ∃ m : Nat, atI [V.int 60, V.int 31, V.int 2] d = some (.int (m : Nat)) ∧ 1 ≤ m ∧ m ≤ 60 := by
        obtain e | e | e : d = 0 ∨ d = 1 ∨ d = 2 := by omega
        · rw [e]; exact ⟨60, rfl, by decide, by decide⟩
        · rw [e]; exact ⟨31, rfl, by decide, by decide⟩
        · rw [e]; exact ⟨2, rfl, by decide, by decide⟩
      refine i_ixL (k4 _ _ rfl h3) em ?_
      have h4 := k4 _ _ rfl (s3 _ _ h2)
      walk_at "rd"
      refine ⟨p, L, _, cl, cs, m, rfl, m1, m60, p4, by omega, h4, c1, by omega, nm, fun v H5 t k5 p5 tt fit on => ?_⟩
      have h5 := k5 _ _ rfl h4
      walk_at "rd"
      refine ⟨p, L, _, cl, cs, v, t, rfl, p5, by omega, h5, c4, nm, tt, fit, on, fun H6 k6 p6 => ?_⟩
      refine ⟨true, rfl, iteF ?_⟩
      walk_at "rd"
      refine ⟨p, L, _, 100, rfl, by decide, by decide, p6, by omega, fun l1 H7 t1 k7 p7 h7 a1 b1 c1 => ?_⟩
      walk_at "rd"
      refine ⟨p, L, _, 99, rfl, p7, by omega, by decide, by decide, fun d8 H8 u0 u1 k8 p8 => ?_⟩
      walk_at "rd"
      have e8 : (1 : Int) + d8 = ((1 + d8.toNat : Nat) : Int) := by omega
      rw [e8]
      refine ⟨p, L, _, 1 + d8.toNat, rfl, by omega, by omega, p8, by omega, fun l2 H9 t2 k9 p9 h9 a2 b2 c2 => ?_⟩
      walk_at "rd"
      refine ⟨p, L, _, rfl, p9, by omega, fun l3 HA t3 kA pA hA a3 b3 c3 => ?_⟩
      walk_at "rd"
      refine ⟨size_of (Nat.le_of_ble_eq_true rfl), fun tp htp => ?_⟩
      obtain ⟨HB, eB, sB, hB⟩ := new_heap (o := .tup [.ref l1, .ref l2, .ref l3]) htp
      rw [eB]
      have w1 := sB _ _ (kA _ _ rfl (k9 _ _ rfl (k8 _ _ rfl h7)))
      have w2 := sB _ _ (kA _ _ rfl h9)
      have w3 := sB _ _ hA
      refine ⟨tp, rfl, ⟨_, SqT.of hB⟩, for_tup (K := K) (a := tp) (xs := [.ref l1, .ref l2, .ref l3]) (fun i σ H' => ∃ x2 x4, σ = [some (.ref a), some (.ref p), x2, some (.ref cl), x4, none] ∧ Same HB H') ⟨x2, none, rfl, Same.refl _⟩ ?_ ?_ ?_⟩
      · rintro i σ HC _ ⟨x2, x4, _, sC⟩
        exact SqT.of (sC _ _ hB)
      · rintro i x σ HC hx ⟨x2, x4, rfl, sC⟩
        obtain ⟨l, t, rfl, hl, tl0⟩ : ∃ l t, x = .ref l ∧ HB l = some (.lst ((wordsT t).map V.str)) ∧ Told t := by
          match i, hx with
          | 0, hx => cases hx; exact ⟨l1, t1, rfl, w1, a1, b1, c1⟩
          | 1, hx => cases hx; exact ⟨l2, t2, rfl, w2, a2, b2, c2⟩
          | 2, hx => cases hx; exact ⟨l3, t3, rfl, w3, a3, b3, c3⟩
        have good := plain_good tl0.pl
        have cl0 := plain_cols tl0.pl
        have hlC := sC _ _ hl
        have jn : ((wordsT t).map (·.length)).sum + (wordsT t).length * (" " : Str).length ≤ 16777216 := by
          have a := sum_le 175 (wordsT t) (word_len good)
          have b : ((" " : Str)).length = 1 := rfl
          have c := tl0.wz
          rw [b]
          omega
        walk_at "rd"
        refine i_m1 ?_
        walk_at "rd"
        refine ⟨⟨_, rfl⟩, ?_⟩
        walk_at "rd"
        refine ⟨_, l, wordsT t, rfl, rfl, .inl (SqL.of hlC), jn, ?_⟩
        walk_at "rd"
        refine ⟨t, rfl, good, by rw [cl0]; decide, tl0.sd, tl0.wz, fun g HD sD hg => ?_⟩
        walk_at "rd"
        refine ⟨g, t, rfl, hg, good, tl0.wz, fun HE sE => ?_⟩
        walk_at "rd"
        refine i_m1 ?_
        walk_at "rd"
        refine ⟨⟨_, rfl⟩, ?_⟩
        walk_at "rd"
        refine ⟨_, l, wordsT t, rfl, rfl, .inl (SqL.of (sE _ _ (sD _ _ hlC))), jn, ?_⟩
        walk_at "rd"
        rw [decide_eq_true rfl]
        refine iteF ?_
        exact ⟨_, _, rfl, fun b o z => sE _ _ (sD _ _ (sC _ _ z))⟩
      · rintro σ HC ⟨x2, x4, rfl, sC⟩
        walk_at "rd"
        refine ⟨size_of (Nat.le_of_ble_eq_true rfl), fun tq htq => ?_⟩
        obtain ⟨HD, eD, sD, hD⟩ := new_heap (o := .tup [.str "in k -", .str "~ missing in", .str "& always | never in or .."]) htq
        rw [eD]
        have eT : ([.str "in k -", .str "~ missing in", .str "& always | never in or .."] : List V) = (TT.map fun t => Txt.join " " (wordsT t)).map V.str := by rw [tt_texts]; rfl
        rw [eT] at hD
        refine ⟨tq, rfl, ⟨_, SqT.of hD⟩, fun DL hDn => ?_⟩
        obtain ⟨M1, em1, sm1, hm1⟩ := new_heap (o := .lst []) hDn
        refine lc_tup (K := K) (a := tq) (xs := (TT.map fun t => Txt.join " " (wordsT t)).map V.str) (fun i H' => ∃ vs : List V, Same HD H' ∧ H' DL = some (.lst vs) ∧ TrsP H' (TT.take i) vs) ⟨[], by rw [em1]; exact sm1, by rw [em1]; exact hm1, .nil⟩ ?_ ?_ ?_
        · rintro i H' _ ⟨vs, s2, _⟩
          exact SqT.of (s2 _ _ hD)
        · rintro i x H' hx ⟨vs, s2, h2, pt⟩
          have hi : i < TT.length := by
            have := (List.getElem?_eq_some_iff.mp hx).1
            simpa using this
          have ex : x = .str (Txt.join " " (wordsT TT[i])) := by
            rw [List.getElem?_map, List.getElem?_map, List.getElem?_eq_getElem hi] at hx
            exact (Option.some.inj hx).symm
          subst ex
          have good := tt_good TT[i] (List.getElem_mem hi)
          obtain ⟨f1, f2, f3⟩ := tt_fits TT[i] (List.getElem_mem hi)
          have ptl := Paired.length pt
          rw [List.length_take] at ptl
          walk_at "rd"
          refine ⟨rfl, i_yes (iteT ?_)⟩
          refine i_fldE ?_
          walk_at "rd"
          refine ⟨TT[i], rfl, good, f1, f2, f3, fun r H4 s4 hr4 => ?_⟩
          obtain ⟨dx, v4, q4, cs4, hx4, tt4, _⟩ := hr4
          have h4 := s4 _ _ h2
          have fx : Fix H4 (upd H4 DL (.lst (vs ++ [v4]))) := Fix.put h4
          have tz : TT.length = 3 := rfl
          refine ⟨r, D, dx, _, _, rfl, hx4, T.cl, T.nT, lk_tree, _, h4, size_lt (by omega), vs ++ [v4], Same.mut (fun b o z => s4 _ _ (s2 _ _ z)) hDn, upd_same, ?_⟩
          rw [List.take_succ_eq_append_getElem hi]
          exact ((pt.fix (Same.fix s4)).fix fx).app (.cons (tt4.fix fx) .nil)
        rintro H6 ⟨vs6, s6, hv6, pt6⟩
        have pt6 : TrsP H6 TT vs6 := pt6
        walk_at "rd"
        refine ⟨Nat.zero_le _, fun a1 ha1 => ?_⟩
        obtain ⟨J1, ej1, sj1, hj1⟩ := new_heap (o := .tup []) ha1
        rw [ej1]
        walk_at "rd"
        refine ⟨size_of (Nat.le_of_ble_eq_true rfl), fun a2 ha2 => ?_⟩
        obtain ⟨J2, ej2, sj2, hj2⟩ := new_heap (o := .tup [.str "within", .str "k", .ref a1]) ha2
        rw [ej2]
        walk_at "rd"
        refine ⟨size_of (Nat.le_of_ble_eq_true rfl), fun a3 ha3 => ?_⟩
        obtain ⟨J3, ej3, sj3, hj3⟩ := new_heap (o := .tup [.str "missing", .str "in"]) ha3
        rw [ej3]
        walk_at "rd"
        refine ⟨size_of (Nat.le_of_ble_eq_true rfl), fun a4 ha4 => ?_⟩
        obtain ⟨J4, ej4, sj4, hj4⟩ := new_heap (o := .tup [.str "not", .ref a3]) ha4
        rw [ej4]
        walk_at "rd"
        refine ⟨size_of (Nat.le_of_ble_eq_true rfl), fun a5 ha5 => ?_⟩
        obtain ⟨J5, ej5, sj5, hj5⟩ := new_heap (o := .tup [.str "always"]) ha5
        rw [ej5]
        walk_at "rd"
        refine ⟨size_of (Nat.le_of_ble_eq_true rfl), fun a6 ha6 => ?_⟩
        obtain ⟨J6, ej6, sj6, hj6⟩ := new_heap (o := .tup [.str "never"]) ha6
        rw [ej6]
        walk_at "rd"
        refine ⟨size_of (Nat.le_of_ble_eq_true rfl), fun a7 ha7 => ?_⟩
        obtain ⟨J7, ej7, sj7, hj7⟩ := new_heap (o := .tup [.non, .non]) ha7
        rw [ej7]
        walk_at "rd"
        refine ⟨size_of (Nat.le_of_ble_eq_true rfl), fun a8 ha8 => ?_⟩
        obtain ⟨J8, ej8, sj8, hj8⟩ := new_heap (o := .tup [.ref a7]) ha8
        rw [ej8]
        walk_at "rd"
        refine ⟨size_of (Nat.le_of_ble_eq_true rfl), fun a9 ha9 => ?_⟩
        obtain ⟨J9, ej9, sj9, hj9⟩ := new_heap (o := .tup [.str "within", .str "or", .ref a8]) ha9
        rw [ej9]
        walk_at "rd"
        refine ⟨size_of (Nat.le_of_ble_eq_true rfl), fun a10 ha10 => ?_⟩
        obtain ⟨J10, ej10, sj10, hj10⟩ := new_heap (o := .tup [.str "or", .ref a6, .ref a9]) ha10
        rw [ej10]
        walk_at "rd"
        refine ⟨size_of (Nat.le_of_ble_eq_true rfl), fun a11 ha11 => ?_⟩
        obtain ⟨J11, ej11, sj11, hj11⟩ := new_heap (o := .tup [.str "and", .ref a5, .ref a10]) ha11
        rw [ej11]
        walk_at "rd"
        refine ⟨size_of (Nat.le_of_ble_eq_true rfl), fun a12 ha12 => ?_⟩
        obtain ⟨J12, ej12, sj12, hj12⟩ := new_heap (o := .lst [.ref a2, .ref a4, .ref a11]) ha12
        rw [ej12]
        have g1 := sj12 _ _ (sj11 _ _ (sj10 _ _ (sj9 _ _ (sj8 _ _ (sj7 _ _ (sj6 _ _ (sj5 _ _ (sj4 _ _ (sj3 _ _ (sj2 _ _ (hj1)))))))))))
        have g2 := sj12 _ _ (sj11 _ _ (sj10 _ _ (sj9 _ _ (sj8 _ _ (sj7 _ _ (sj6 _ _ (sj5 _ _ (sj4 _ _ (sj3 _ _ (hj2))))))))))
        have g3 := sj12 _ _ (sj11 _ _ (sj10 _ _ (sj9 _ _ (sj8 _ _ (sj7 _ _ (sj6 _ _ (sj5 _ _ (sj4 _ _ (hj3)))))))))
        have g4 := sj12 _ _ (sj11 _ _ (sj10 _ _ (sj9 _ _ (sj8 _ _ (sj7 _ _ (sj6 _ _ (sj5 _ _ (hj4))))))))
        have g5 := sj12 _ _ (sj11 _ _ (sj10 _ _ (sj9 _ _ (sj8 _ _ (sj7 _ _ (sj6 _ _ (hj5)))))))
        have g6 := sj12 _ _ (sj11 _ _ (sj10 _ _ (sj9 _ _ (sj8 _ _ (sj7 _ _ (hj6))))))
        have g7 := sj12 _ _ (sj11 _ _ (sj10 _ _ (sj9 _ _ (sj8 _ _ (hj7)))))
        have g8 := sj12 _ _ (sj11 _ _ (sj10 _ _ (sj9 _ _ (hj8))))
        have g9 := sj12 _ _ (sj11 _ _ (sj10 _ _ (hj9)))
        have g10 := sj12 _ _ (sj11 _ _ (hj10))
        have g11 := sj12 _ _ (hj11)
        have sJ : Same H6 J12 := fun b o z => sj12 _ _ (sj11 _ _ (sj10 _ _ (sj9 _ _ (sj8 _ _ (sj7 _ _ (sj6 _ _ (sj5 _ _ (sj4 _ _ (sj3 _ _ (sj2 _ _ (sj1 _ _ (z))))))))))))
        have r1 : TreeAt J12 T1 (.ref a2) := ⟨a2, a1, rfl, g2, ⟨[], g1, .nil⟩, canon_nil⟩
        have r2 : TreeAt J12 T2 (.ref a4) := ⟨a4, .ref a3, rfl, g4, ⟨a3, rfl, g3⟩⟩
        have r3 : TreeAt J12 T3 (.ref a11) := ⟨a11, .ref a5, .ref a10, rfl, g11, ⟨a5, rfl, g5⟩, ⟨a10, .ref a6, .ref a9, rfl, g10, ⟨a6, rfl, g6⟩, ⟨a9, a8, rfl, g9, ⟨[.ref a7], g8, .cons ⟨a7, rfl, g7⟩ .nil⟩, canon_one full_ne⟩⟩⟩
        have dG : Dp K J12 (.ref a12) (.list (TT.map treeD)) := .lst (SqL.of hj12) (.cons (dpTr r1) (.cons (dpTr r2) (.cons (dpTr r3) .nil)))
        have dL : Dp K J12 (.ref DL) (.list (TT.map treeD)) := .lst (SqL.of (sJ _ _ hv6)) (dps_trs (pt6.fix (Same.fix sJ)))
        refine ⟨.list (TT.map treeD), .list (TT.map treeD), dL, dG, by decide +kernel, by decide +kernel, ?_⟩
        rw [show PyData.eqv (.list (TT.map treeD)) (.list (TT.map treeD)) = true from by decide +kernel]
        exact q J12
end
end Spk

set_option Elab.async false
set_option linter.all false
set_option maxRecDepth 100000
set_option maxHeartbeats 4000000
namespace Spk
open PySem L2
section
variable {K : PySem.W.Frag}
theorem kb_fshow {f : Addr} {fd : FuncData} (F : Fun K "show_filter" "show_filter" s_show_filter f fd) : KBinds K fd ["where"] ["where"] (fun us ws => us ++ ws) (fun us ws => us ++ ws) := by
  obtain ⟨oc, od, kV, doc, pm, an, cdv, ct, osl, rfl, lk, hcd⟩ := F.ex
  refine ⟨fun s us ws _ hl => ?_, fun r r2 => r.append r2⟩
  match us, ws, hl with
  | [], [u], _ => exact .of_eq rfl
  | [u], [], _ => exact .of_eq rfl
theorem kb_fread {f : Addr} {fd : FuncData} (F : Fun K "read_filter" "read_filter" s_read_filter f fd) : KBinds K fd ["text"] ["text"] (fun us ws => us ++ ws) (fun us ws => us ++ ws) := by
  obtain ⟨oc, od, kV, doc, pm, an, cdv, ct, osl, rfl, lk, hcd⟩ := F.ex
  refine ⟨fun s us ws _ hl => ?_, fun r r2 => r.append r2⟩
  match us, ws, hl with
  | [], [u], _ => exact .of_eq rfl
  | [u], [], _ => exact .of_eq rfl
end
end Spk

set_option Elab.async false
set_option linter.all false
set_option maxRecDepth 100000
set_option maxHeartbeats 1000000
namespace Spk
open PySem L2
/-! ### the facts by name -/
theorem ToldX.fa {w : World} {K : PySem.W.Frag} (c : ToldX w K) (i : Nat) {f : He.Fa} (h : plain[i]? = some f) : f.ok K = true := He5.SaysA.fact c.2.2 i h
theorem ToldX.fn {w : World} {K : PySem.W.Frag} (c : ToldX w K) (i : Nat) {a : PySem.W.Frag → Addr} {x q : Str} {st : Stmt} (h : defs[i]? = some (dfn a x q st)) : ∃ fd, Fun K x q st (a K) fd := by
  obtain ⟨fd, F⟩ := He5.SaysA.def_ c.2.2 i h
  exact ⟨fd, He5.fun_of F⟩
structure ClsQ (K : PySem.W.Frag) (C : Addr) : Prop where
  ne : PySem.W.findIn K (.ref C) "__ne__" = some (some (.builtin "object.__ne__"))
  ob : PySem.W.subIn K (.ref C) (.type "object") = some true
  sub : ∀ t, t ∈ six → PySem.W.subIn K (.ref C) (.type t) = some false
  kit : ∀ t, t ∈ six → PySem.W.kitOne K (.type t) (.ref C) = some false
  nf : ∀ t, t ∈ six → PySem.W.notFirst K C (.type t) = true
  cls : PySem.W.findIn K (.ref C) "__class__" = some (some (.builtin "object.__class__"))
  get : PySem.W.specialIn K (.builtin "object.__class__") "__get__" = some (some (.builtin "getset_descriptor.__get__"))
  tk : PySem.W.takesIn K (.builtin "object.__class__") = some true
  mro : PySem.W.mroIn K C (.type "object") = some true
  own : PySem.W.kitOne K (.ref C) (.ref C) = some true
theorem eq_ok {K : PySem.W.Frag} {C : Addr} (h : eqB K C = true) : ClsQ K C := by
  obtain ⟨h2, h⟩ := He.ba h
  obtain ⟨h3, h⟩ := He.ba h
  obtain ⟨h4, h⟩ := He.ba h
  obtain ⟨h5, h⟩ := He.ba h
  obtain ⟨h6, h⟩ := He.ba h
  obtain ⟨h7, h⟩ := He.ba h
  obtain ⟨h8, h⟩ := He.ba h
  obtain ⟨h9, h⟩ := He.ba h
  obtain ⟨h10, h11⟩ := He.ba h
  exact ⟨of_decide_eq_true h2, of_decide_eq_true h3, fun t z => of_decide_eq_true (List.all_eq_true.mp h4 t z), fun t z => of_decide_eq_true (List.all_eq_true.mp h5 t z), fun t z => List.all_eq_true.mp h6 t z, of_decide_eq_true h7, of_decide_eq_true h8, of_decide_eq_true h9, of_decide_eq_true h10, of_decide_eq_true h11⟩
/-- what is told of classmethods and properties -/
structure ClsC (K : PySem.W.Frag) (C : Addr) (ms : List Str) : Prop where
  rd : ClX.CRead K C (.type "type")
  met : ∀ m, m ∈ ms → ClX.CMet K C (.type "type") m (He.ma K C m) (He5.wf K C "classmethod" m)
theorem clm_ok {K : PySem.W.Frag} {C : Addr} {ms : List Str} (h : clmB K C ms = true) : ClsC K C ms := by
  obtain ⟨h1, h⟩ := He.ba h
  obtain ⟨h2, h3⟩ := He.ba h
  refine ⟨⟨h1, of_decide_eq_true h2⟩, fun m z => ?_⟩
  obtain ⟨a, b⟩ := He.ba (List.all_eq_true.mp h3 m z)
  exact He5.cmet_of a b
structure ClsX (K : PySem.W.Frag) : Prop where
  X_cr : ClsC K (He.ga K "Ranges") ["between", "empty"]
  X_er : ClsQ K (He.ga K "Ranges")
  X_sr : PySem.W.selfFirst K (He.ga K "Ranges") = true
  X_cx : ClsC K (He.ga K "Filter") ["within", "missing", "always", "never"]
  X_ex : ClsQ K (He.ga K "Filter")
  X_sx : PySem.W.selfFirst K (He.ga K "Filter") = true
  X_fxcall : PySem.W.fnIn K (He.ma K (He.ga K "Filter") "__call__") = true
  X_nSIGNS : (!(He.ga K "SIGNS" == sysModules)) = true
theorem more_ok {K : PySem.W.Frag} (h : moreB K = true) : ClsX K := by
  obtain ⟨h0, h⟩ := He.ba h
  obtain ⟨h1, h⟩ := He.ba h
  obtain ⟨h2, h⟩ := He.ba h
  obtain ⟨h3, h⟩ := He.ba h
  obtain ⟨h4, h⟩ := He.ba h
  obtain ⟨h5, h⟩ := He.ba h
  obtain ⟨h6, h⟩ := He.ba h
  obtain ⟨h7, h⟩ := He.ba h
  exact ⟨clm_ok h0, eq_ok h1, h2, clm_ok h3, eq_ok h4, h5, h6, h7⟩
theorem facts {P : Program} {w : World} {K : PySem.W.Frag} {h : Heap} {mg : Str → Option Value} {f : Addr} (X : K.In h) (G : h.Ns mainGlobals mg) (hfa : mg ("law" : Str) = some (.ref f)) (c : ToldX w K) :
    ∃ fd : FuncData, (∀ (s : Shared) (v : Value), BindsTo s fd ⟨[v], []⟩ [("_law_script", v)]) ∧ ∀ base : Heap, K.In base → base.Ns mainGlobals mg → FnG P w K mg base CX0 31 f fd ["_law_script"] (sp_law K) := by
  have g_show_ranges := He.glo_ok X G (c.fa 0 (f := .glo "show_ranges") rfl)
  have g_text_of_parts := He.glo_ok X G (c.fa 1 (f := .glo "text_of_parts") rfl)
  have g_text_of_part := He.glo_ok X G (c.fa 2 (f := .glo "text_of_part") rfl)
  have g_text_of_end := He.glo_ok X G (c.fa 3 (f := .glo "text_of_end") rfl)
  have g_show_filter := He.glo_ok X G (c.fa 4 (f := .glo "show_filter") rfl)
  have g_words_of_tree := He.glo_ok X G (c.fa 5 (f := .glo "words_of_tree") rfl)
  have g_start_of := He.glo_ok X G (c.fa 6 (f := .glo "start_of") rfl)
  have g_joined := He.glo_ok X G (c.fa 7 (f := .glo "joined") rfl)
  have g_touches := He.glo_ok X G (c.fa 8 (f := .glo "touches") rfl)
  have g_later_end := He.glo_ok X G (c.fa 9 (f := .glo "later_end") rfl)
  have g_in_parts := He.glo_ok X G (c.fa 10 (f := .glo "in_parts") rfl)
  have g_all_columns := He.glo_ok X G (c.fa 11 (f := .glo "all_columns") rfl)
  have g_truth_of := He.glo_ok X G (c.fa 12 (f := .glo "truth_of") rfl)
  have g_truth_within := He.glo_ok X G (c.fa 13 (f := .glo "truth_within") rfl)
  have g_both := He.glo_ok X G (c.fa 14 (f := .glo "both") rfl)
  have g_either := He.glo_ok X G (c.fa 15 (f := .glo "either") rfl)
  have g_negated := He.glo_ok X G (c.fa 16 (f := .glo "negated") rfl)
  have g_is_name := He.glo_ok X G (c.fa 17 (f := .glo "is_name") rfl)
  have g_closed := He.glo_ok X G (c.fa 18 (f := .glo "closed") rfl)
  have g_joined_by := He.glo_ok X G (c.fa 19 (f := .glo "joined_by") rfl)
  have g_number_in := He.glo_ok X G (c.fa 20 (f := .glo "number_in") rfl)
  have g_ranges_in := He.glo_ok X G (c.fa 21 (f := .glo "ranges_in") rfl)
  have g_stretch_in := He.glo_ok X G (c.fa 22 (f := .glo "stretch_in") rfl)
  have g_read_filter := He.glo_ok X G (c.fa 23 (f := .glo "read_filter") rfl)
  have g_phrases_of := He.glo_ok X G (c.fa 24 (f := .glo "phrases_of") rfl)
  have g_phrases_in := He.glo_ok X G (c.fa 25 (f := .glo "phrases_in") rfl)
  have g_end_of_line := He.glo_ok X G (c.fa 26 (f := .glo "end_of_line") rfl)
  have g_pen := He.glo_ok X G (c.fa 27 (f := .glo "_law_pen") rfl)
  have g_draw := He.glo_ok X G (c.fa 28 (f := .glo "_law_draw") rfl)
  have g_name := He.glo_ok X G (c.fa 29 (f := .glo "_law_name") rfl)
  have g_names := He.glo_ok X G (c.fa 30 (f := .glo "_law_names") rfl)
  have g_bound := He.glo_ok X G (c.fa 31 (f := .glo "_law_bound") rfl)
  have g_Lparts := He.glo_ok X G (c.fa 32 (f := .glo "_law_parts") rfl)
  have g_Lranges := He.glo_ok X G (c.fa 33 (f := .glo "_law_ranges") rfl)
  have g_parts_text := He.glo_ok X G (c.fa 34 (f := .glo "_law_parts_text") rfl)
  have g_leaf := He.glo_ok X G (c.fa 35 (f := .glo "_law_leaf") rfl)
  have g_tree := He.glo_ok X G (c.fa 36 (f := .glo "_law_tree") rfl)
  have g_filter := He.glo_ok X G (c.fa 37 (f := .glo "_law_filter") rfl)
  have g_words := He.glo_ok X G (c.fa 38 (f := .glo "_law_words") rfl)
  have g_flat := He.glo_ok X G (c.fa 39 (f := .glo "_law_flat") rfl)
  have g_right := He.glo_ok X G (c.fa 40 (f := .glo "_law_right") rfl)
  have g_deep := He.glo_ok X G (c.fa 41 (f := .glo "_law_deep") rfl)
  have g_long := He.glo_ok X G (c.fa 42 (f := .glo "_law_long") rfl)
  have g_law := He.glo_ok X G (c.fa 43 (f := .glo "law") rfl)
  have g_C := He.glo_ok X G (c.fa 44 (f := .glo "Ranges") rfl)
  have g_CF := He.glo_ok X G (c.fa 45 (f := .glo "Filter") rfl)
  have g_Phrase := He.glo_ok X G (c.fa 46 (f := .glo "Phrase") rfl)
  have g_SIGNS := He.glo_ok X G (c.fa 47 (f := .glo "SIGNS") rfl)
  have z_abs := He.free_ok X G (c.fa 48 (f := .free "abs") rfl)
  have z_all := He.free_ok X G (c.fa 49 (f := .free "all") rfl)
  have z_bool := He.free_ok X G (c.fa 50 (f := .free "bool") rfl)
  have z_enumerate := He.free_ok X G (c.fa 51 (f := .free "enumerate") rfl)
  have z_int := He.free_ok X G (c.fa 52 (f := .free "int") rfl)
  have z_isinstance := He.free_ok X G (c.fa 53 (f := .free "isinstance") rfl)
  have z_len := He.free_ok X G (c.fa 54 (f := .free "len") rfl)
  have z_list := He.free_ok X G (c.fa 55 (f := .free "list") rfl)
  have z_max := He.free_ok X G (c.fa 56 (f := .free "max") rfl)
  have z_range := He.free_ok X G (c.fa 57 (f := .free "range") rfl)
  have z_repr := He.free_ok X G (c.fa 58 (f := .free "repr") rfl)
  have z_set := He.free_ok X G (c.fa 59 (f := .free "set") rfl)
  have z_sorted := He.free_ok X G (c.fa 60 (f := .free "sorted") rfl)
  have z_str := He.free_ok X G (c.fa 61 (f := .free "str") rfl)
  have z_tuple := He.free_ok X G (c.fa 62 (f := .free "tuple") rfl)
  have gi_MOST_WORDS := He.int_ok X G (c.fa 63 (f := .int "MOST_WORDS" 400) rfl)
  have gi_MOST_SIGNS := He.int_ok X G (c.fa 64 (f := .int "MOST_SIGNS" 100) rfl)
  have gi_DIGITS_OF_BOUNDS := He.int_ok X G (c.fa 65 (f := .int "DIGITS_OF_BOUNDS" 12) rfl)
  have rCl := He.cls_ok (c.fa 66 (f := .cls "Ranges") rfl)
  have rNo_parts := He.noat_ok (c.fa 67 (f := .noat "Ranges" "parts") rfl)
  have rMk := He.mkr_ok (c.fa 68 (f := .mkr "Ranges") rfl)
  have mr_or := He.meth_ok (c.fa 69 (f := .meth "Ranges" "__or__") rfl)
  have mr_eq := He.meth_ok (c.fa 70 (f := .meth "Ranges" "__eq__") rfl)
  have xCl := He.cls_ok (c.fa 71 (f := .cls "Filter") rfl)
  have xNo_tree := He.noat_ok (c.fa 72 (f := .noat "Filter" "tree") rfl)
  have xNo_columns := He.noat_ok (c.fa 73 (f := .noat "Filter" "columns") rfl)
  have xMk := He.mkr_ok (c.fa 74 (f := .mkr "Filter") rfl)
  have mx_and := He.meth_ok (c.fa 75 (f := .meth "Filter" "__and__") rfl)
  have mx_or := He.meth_ok (c.fa 76 (f := .meth "Filter" "__or__") rfl)
  have mx_invert := He.meth_ok (c.fa 77 (f := .meth "Filter" "__invert__") rfl)
  have mx_eq := He.meth_ok (c.fa 78 (f := .meth "Filter" "__eq__") rfl)
  have mx_call := He.meth_ok (c.fa 79 (f := .meth "Filter" "__call__") rfl)
  have pCl := He.cls_ok (c.fa 80 (f := .cls "Phrase") rfl)
  have pNo_line := He.noat_ok (c.fa 81 (f := .noat "Phrase" "line") rfl)
  have pNo_words := He.noat_ok (c.fa 82 (f := .noat "Phrase" "words") rfl)
  have pNo_place := He.noat_ok (c.fa 83 (f := .noat "Phrase" "place") rfl)
  have pMk := He.mkr_ok (c.fa 84 (f := .mkr "Phrase") rfl)
  have mp_has_more := He.meth_ok (c.fa 85 (f := .meth "Phrase" "has_more") rfl)
  have mp_next_word := He.meth_ok (c.fa 86 (f := .meth "Phrase" "next_word") rfl)
  have mp_check := He.meth_ok (c.fa 87 (f := .meth "Phrase" "check") rfl)
  have mp_end := He.meth_ok (c.fa 88 (f := .meth "Phrase" "end") rfl)
  have mp_next_ranges := He.meth_ok (c.fa 89 (f := .meth "Phrase" "next_ranges") rfl)
  have mp_next_name := He.meth_ok (c.fa 90 (f := .meth "Phrase" "next_name") rfl)
  have mp_condition := He.meth_ok (c.fa 91 (f := .meth "Phrase" "condition") rfl)
  have mp_next_filter := He.meth_ok (c.fa 92 (f := .meth "Phrase" "next_filter") rfl)
  obtain ⟨X_cr, X_er, X_sr, X_cx, X_ex, X_sx, X_fxcall, X_nSIGNS⟩ := more_ok c.1
  obtain ⟨fd_show_ranges, F_show_ranges⟩ := c.fn 0 (a := at1 "show_ranges") (x := "show_ranges") (q := "show_ranges") (st := s_show_ranges) rfl
  have B_show_ranges := F_show_ranges.binds (ps := ["ranges"]) fun _ _ _ _ _ _ us hl => match us, hl with | [_], _ => rfl
  obtain ⟨fd_text_of_parts, F_text_of_parts⟩ := c.fn 1 (a := at1 "text_of_parts") (x := "text_of_parts") (q := "text_of_parts") (st := s_text_of_parts) rfl
  have B_text_of_parts := F_text_of_parts.binds (ps := ["parts"]) fun _ _ _ _ _ _ us hl => match us, hl with | [_], _ => rfl
  obtain ⟨fd_text_of_part, F_text_of_part⟩ := c.fn 2 (a := at1 "text_of_part") (x := "text_of_part") (q := "text_of_part") (st := s_text_of_part) rfl
  have B_text_of_part := F_text_of_part.binds (ps := ["low", "high"]) fun _ _ _ _ _ _ us hl => match us, hl with | [_, _], _ => rfl
  obtain ⟨fd_text_of_end, F_text_of_end⟩ := c.fn 3 (a := at1 "text_of_end") (x := "text_of_end") (q := "text_of_end") (st := s_text_of_end) rfl
  have B_text_of_end := F_text_of_end.binds (ps := ["end"]) fun _ _ _ _ _ _ us hl => match us, hl with | [_], _ => rfl
  obtain ⟨fd_show_filter, F_show_filter⟩ := c.fn 4 (a := at1 "show_filter") (x := "show_filter") (q := "show_filter") (st := s_show_filter) rfl
  have B_show_filter := F_show_filter.binds (ps := ["where"]) fun _ _ _ _ _ _ us hl => match us, hl with | [_], _ => rfl
  obtain ⟨fd_words_of_tree, F_words_of_tree⟩ := c.fn 5 (a := at1 "words_of_tree") (x := "words_of_tree") (q := "words_of_tree") (st := s_words_of_tree) rfl
  have B_words_of_tree := F_words_of_tree.binds (ps := ["tree"]) fun _ _ _ _ _ _ us hl => match us, hl with | [_], _ => rfl
  obtain ⟨fd_start_of, F_start_of⟩ := c.fn 6 (a := at1 "start_of") (x := "start_of") (q := "start_of") (st := s_start_of) rfl
  have B_start_of := F_start_of.binds (ps := ["stretch"]) fun _ _ _ _ _ _ us hl => match us, hl with | [_], _ => rfl
  obtain ⟨fd_joined, F_joined⟩ := c.fn 7 (a := at1 "joined") (x := "joined") (q := "joined") (st := s_joined) rfl
  have B_joined := F_joined.binds (ps := ["stretches"]) fun _ _ _ _ _ _ us hl => match us, hl with | [_], _ => rfl
  obtain ⟨fd_touches, F_touches⟩ := c.fn 8 (a := at1 "touches") (x := "touches") (q := "touches") (st := s_touches) rfl
  have B_touches := F_touches.binds (ps := ["part", "low"]) fun _ _ _ _ _ _ us hl => match us, hl with | [_, _], _ => rfl
  obtain ⟨fd_later_end, F_later_end⟩ := c.fn 9 (a := at1 "later_end") (x := "later_end") (q := "later_end") (st := s_later_end) rfl
  have B_later_end := F_later_end.binds (ps := ["one", "other"]) fun _ _ _ _ _ _ us hl => match us, hl with | [_, _], _ => rfl
  obtain ⟨fd_in_parts, F_in_parts⟩ := c.fn 10 (a := at1 "in_parts") (x := "in_parts") (q := "in_parts") (st := s_in_parts) rfl
  have B_in_parts := F_in_parts.binds (ps := ["parts", "number"]) fun _ _ _ _ _ _ us hl => match us, hl with | [_, _], _ => rfl
  obtain ⟨fd_all_columns, F_all_columns⟩ := c.fn 11 (a := at1 "all_columns") (x := "all_columns") (q := "all_columns") (st := s_all_columns) rfl
  have B_all_columns := F_all_columns.binds (ps := ["one", "other"]) fun _ _ _ _ _ _ us hl => match us, hl with | [_, _], _ => rfl
  obtain ⟨fd_truth_of, F_truth_of⟩ := c.fn 12 (a := at1 "truth_of") (x := "truth_of") (q := "truth_of") (st := s_truth_of) rfl
  have B_truth_of := F_truth_of.binds (ps := ["tree", "values"]) fun _ _ _ _ _ _ us hl => match us, hl with | [_, _], _ => rfl
  obtain ⟨fd_truth_within, F_truth_within⟩ := c.fn 13 (a := at1 "truth_within") (x := "truth_within") (q := "truth_within") (st := s_truth_within) rfl
  have B_truth_within := F_truth_within.binds (ps := ["value", "parts"]) fun _ _ _ _ _ _ us hl => match us, hl with | [_, _], _ => rfl
  obtain ⟨fd_both, F_both⟩ := c.fn 14 (a := at1 "both") (x := "both") (q := "both") (st := s_both) rfl
  have B_both := F_both.binds (ps := ["one", "other"]) fun _ _ _ _ _ _ us hl => match us, hl with | [_, _], _ => rfl
  obtain ⟨fd_either, F_either⟩ := c.fn 15 (a := at1 "either") (x := "either") (q := "either") (st := s_either) rfl
  have B_either := F_either.binds (ps := ["one", "other"]) fun _ _ _ _ _ _ us hl => match us, hl with | [_, _], _ => rfl
  obtain ⟨fd_negated, F_negated⟩ := c.fn 16 (a := at1 "negated") (x := "negated") (q := "negated") (st := s_negated) rfl
  have B_negated := F_negated.binds (ps := ["truth"]) fun _ _ _ _ _ _ us hl => match us, hl with | [_], _ => rfl
  obtain ⟨fd_is_name, F_is_name⟩ := c.fn 17 (a := at1 "is_name") (x := "is_name") (q := "is_name") (st := s_is_name) rfl
  have B_is_name := F_is_name.binds (ps := ["thing"]) fun _ _ _ _ _ _ us hl => match us, hl with | [_], _ => rfl
  obtain ⟨fd_closed, F_closed⟩ := c.fn 18 (a := at1 "closed") (x := "closed") (q := "closed") (st := s_closed) rfl
  have B_closed := F_closed.binds (ps := ["waiting", "made"]) fun _ _ _ _ _ _ us hl => match us, hl with | [_, _], _ => rfl
  obtain ⟨fd_joined_by, F_joined_by⟩ := c.fn 19 (a := at1 "joined_by") (x := "joined_by") (q := "joined_by") (st := s_joined_by) rfl
  have B_joined_by := F_joined_by.binds (ps := ["sign", "parts"]) fun _ _ _ _ _ _ us hl => match us, hl with | [_, _], _ => rfl
  obtain ⟨fd_number_in, F_number_in⟩ := c.fn 20 (a := at1 "number_in") (x := "number_in") (q := "number_in") (st := s_number_in) rfl
  have B_number_in := F_number_in.binds (ps := ["word", "digits"]) fun _ _ _ _ _ _ us hl => match us, hl with | [_, _], _ => rfl
  obtain ⟨fd_ranges_in, F_ranges_in⟩ := c.fn 21 (a := at1 "ranges_in") (x := "ranges_in") (q := "ranges_in") (st := s_ranges_in) rfl
  have B_ranges_in := F_ranges_in.binds (ps := ["word"]) fun _ _ _ _ _ _ us hl => match us, hl with | [_], _ => rfl
  obtain ⟨fd_stretch_in, F_stretch_in⟩ := c.fn 22 (a := at1 "stretch_in") (x := "stretch_in") (q := "stretch_in") (st := s_stretch_in) rfl
  have B_stretch_in := F_stretch_in.binds (ps := ["part"]) fun _ _ _ _ _ _ us hl => match us, hl with | [_], _ => rfl
  obtain ⟨fd_read_filter, F_read_filter⟩ := c.fn 23 (a := at1 "read_filter") (x := "read_filter") (q := "read_filter") (st := s_read_filter) rfl
  have B_read_filter := F_read_filter.binds (ps := ["text"]) fun _ _ _ _ _ _ us hl => match us, hl with | [_], _ => rfl
  obtain ⟨fd_phrases_of, F_phrases_of⟩ := c.fn 24 (a := at1 "phrases_of") (x := "phrases_of") (q := "phrases_of") (st := s_phrases_of) rfl
  have B_phrases_of := F_phrases_of.binds (ps := ["text"]) fun _ _ _ _ _ _ us hl => match us, hl with | [_], _ => rfl
  obtain ⟨fd_phrases_in, F_phrases_in⟩ := c.fn 25 (a := at1 "phrases_in") (x := "phrases_in") (q := "phrases_in") (st := s_phrases_in) rfl
  have B_phrases_in := F_phrases_in.binds (ps := ["lines"]) fun _ _ _ _ _ _ us hl => match us, hl with | [_], _ => rfl
  obtain ⟨fd_end_of_line, F_end_of_line⟩ := c.fn 26 (a := at1 "end_of_line") (x := "end_of_line") (q := "end_of_line") (st := s_end_of_line) rfl
  have B_end_of_line := F_end_of_line.binds (ps := ["phrases"]) fun _ _ _ _ _ _ us hl => match us, hl with | [_], _ => rfl
  obtain ⟨fd_pen, F_pen⟩ := c.fn 27 (a := at1 "_law_pen") (x := "_law_pen") (q := "_law_pen") (st := s_pen) rfl
  have B_pen := F_pen.binds (ps := ["_law_script"]) fun _ _ _ _ _ _ us hl => match us, hl with | [_], _ => rfl
  obtain ⟨fd_draw, F_draw⟩ := c.fn 28 (a := at1 "_law_draw") (x := "_law_draw") (q := "_law_draw") (st := s_draw) rfl
  have B_draw := F_draw.binds (ps := ["_law_pen_here", "_law_many"]) fun _ _ _ _ _ _ us hl => match us, hl with | [_, _], _ => rfl
  obtain ⟨fd_name, F_name⟩ := c.fn 29 (a := at1 "_law_name") (x := "_law_name") (q := "_law_name") (st := s_name) rfl
  have B_name := F_name.binds (ps := ["_law_pen_here"]) fun _ _ _ _ _ _ us hl => match us, hl with | [_], _ => rfl
  obtain ⟨fd_names, F_names⟩ := c.fn 30 (a := at1 "_law_names") (x := "_law_names") (q := "_law_names") (st := s_names) rfl
  have B_names := F_names.binds (ps := ["_law_pen_here", "_law_many", "_law_some"]) fun _ _ _ _ _ _ us hl => match us, hl with | [_, _, _], _ => rfl
  obtain ⟨fd_bound, F_bound⟩ := c.fn 31 (a := at1 "_law_bound") (x := "_law_bound") (q := "_law_bound") (st := s_bound) rfl
  have B_bound := F_bound.binds (ps := ["_law_pen_here"]) fun _ _ _ _ _ _ us hl => match us, hl with | [_], _ => rfl
  obtain ⟨fd_Lparts, F_Lparts⟩ := c.fn 32 (a := at1 "_law_parts") (x := "_law_parts") (q := "_law_parts") (st := s_Lparts) rfl
  have B_Lparts := F_Lparts.binds (ps := ["_law_pen_here", "_law_most"]) fun _ _ _ _ _ _ us hl => match us, hl with | [_, _], _ => rfl
  obtain ⟨fd_Lranges, F_Lranges⟩ := c.fn 33 (a := at1 "_law_ranges") (x := "_law_ranges") (q := "_law_ranges") (st := s_Lranges) rfl
  have B_Lranges := F_Lranges.binds (ps := ["_law_parts_here"]) fun _ _ _ _ _ _ us hl => match us, hl with | [_], _ => rfl
  obtain ⟨fd_parts_text, F_parts_text⟩ := c.fn 34 (a := at1 "_law_parts_text") (x := "_law_parts_text") (q := "_law_parts_text") (st := s_parts_text) rfl
  have B_parts_text := F_parts_text.binds (ps := ["_law_parts_here"]) fun _ _ _ _ _ _ us hl => match us, hl with | [_], _ => rfl
  obtain ⟨fd_leaf, F_leaf⟩ := c.fn 35 (a := at1 "_law_leaf") (x := "_law_leaf") (q := "_law_leaf") (st := s_leaf) rfl
  have B_leaf := F_leaf.binds (ps := ["_law_pen_here", "_law_columns"]) fun _ _ _ _ _ _ us hl => match us, hl with | [_, _], _ => rfl
  obtain ⟨fd_tree, F_tree⟩ := c.fn 36 (a := at1 "_law_tree") (x := "_law_tree") (q := "_law_tree") (st := s_tree) rfl
  have B_tree := F_tree.binds (ps := ["_law_pen_here", "_law_columns", "_law_many"]) fun _ _ _ _ _ _ us hl => match us, hl with | [_, _, _], _ => rfl
  obtain ⟨fd_filter, F_filter⟩ := c.fn 37 (a := at1 "_law_filter") (x := "_law_filter") (q := "_law_filter") (st := s_filter) rfl
  have B_filter := F_filter.binds (ps := ["_law_tree_here"]) fun _ _ _ _ _ _ us hl => match us, hl with | [_], _ => rfl
  obtain ⟨fd_words, F_words⟩ := c.fn 38 (a := at1 "_law_words") (x := "_law_words") (q := "_law_words") (st := s_words) rfl
  have B_words := F_words.binds (ps := ["_law_tree_here"]) fun _ _ _ _ _ _ us hl => match us, hl with | [_], _ => rfl
  obtain ⟨fd_flat, F_flat⟩ := c.fn 39 (a := at1 "_law_flat") (x := "_law_flat") (q := "_law_flat") (st := s_flat) rfl
  have B_flat := F_flat.binds (ps := ["_law_pen_here", "_law_columns", "_law_many"]) fun _ _ _ _ _ _ us hl => match us, hl with | [_, _, _], _ => rfl
  obtain ⟨fd_right, F_right⟩ := c.fn 40 (a := at1 "_law_right") (x := "_law_right") (q := "_law_right") (st := s_right) rfl
  have B_right := F_right.binds (ps := ["_law_pen_here", "_law_columns", "_law_tree_here"]) fun _ _ _ _ _ _ us hl => match us, hl with | [_, _, _], _ => rfl
  obtain ⟨fd_deep, F_deep⟩ := c.fn 41 (a := at1 "_law_deep") (x := "_law_deep") (q := "_law_deep") (st := s_deep) rfl
  have B_deep := F_deep.binds (ps := ["_law_pen_here", "_law_many"]) fun _ _ _ _ _ _ us hl => match us, hl with | [_, _], _ => rfl
  obtain ⟨fd_long, F_long⟩ := c.fn 42 (a := at1 "_law_long") (x := "_law_long") (q := "_law_long") (st := s_long) rfl
  have B_long := F_long.binds (ps := ["_law_pen_here"]) fun _ _ _ _ _ _ us hl => match us, hl with | [_], _ => rfl
  obtain ⟨fd_law, D_law⟩ := He5.SaysA.def_ c.2.2 43 (d := dfn (at1 "law") "law" "law" s_law) rfl
  have F_law : Fun K "law" "law" s_law (He.ga K "law") fd_law := He5.fun_of D_law
  have bl := FunD.bindsA (ps := ["_law_script"]) D_law fun _ _ _ _ _ _ us hl => match us, hl with | [_], _ => rfl
  obtain ⟨fd_rinit, F_rinit⟩ : ∃ fd, Fun K "__init__" "Ranges.__init__" s_Ranges__init (He.ma K (He.ga K "Ranges") "__init__") fd := c.fn 44 (a := atM "Ranges" "__init__") (x := "__init__") (q := "Ranges.__init__") (st := s_Ranges__init) rfl
  have B_rinit := F_rinit.binds (ps := ["self", "parts"]) fun _ _ _ _ _ _ us hl => match us, hl with | [_, _], _ => rfl
  obtain ⟨fd_ror, F_ror⟩ : ∃ fd, Fun K "__or__" "Ranges.__or__" s_Ranges__or (He.ma K (He.ga K "Ranges") "__or__") fd := c.fn 45 (a := atM "Ranges" "__or__") (x := "__or__") (q := "Ranges.__or__") (st := s_Ranges__or) rfl
  have B_ror := F_ror.binds (ps := ["self", "other"]) fun _ _ _ _ _ _ us hl => match us, hl with | [_, _], _ => rfl
  obtain ⟨fd_xinit, F_xinit⟩ : ∃ fd, Fun K "__init__" "Filter.__init__" s_Filter__init (He.ma K (He.ga K "Filter") "__init__") fd := c.fn 46 (a := atM "Filter" "__init__") (x := "__init__") (q := "Filter.__init__") (st := s_Filter__init) rfl
  have B_xinit := F_xinit.binds (ps := ["self", "tree", "columns"]) fun _ _ _ _ _ _ us hl => match us, hl with | [_, _, _], _ => rfl
  obtain ⟨fd_xand, F_xand⟩ : ∃ fd, Fun K "__and__" "Filter.__and__" s_Filter__and (He.ma K (He.ga K "Filter") "__and__") fd := c.fn 47 (a := atM "Filter" "__and__") (x := "__and__") (q := "Filter.__and__") (st := s_Filter__and) rfl
  have B_xand := F_xand.binds (ps := ["self", "other"]) fun _ _ _ _ _ _ us hl => match us, hl with | [_, _], _ => rfl
  obtain ⟨fd_xor, F_xor⟩ : ∃ fd, Fun K "__or__" "Filter.__or__" s_Filter__or (He.ma K (He.ga K "Filter") "__or__") fd := c.fn 48 (a := atM "Filter" "__or__") (x := "__or__") (q := "Filter.__or__") (st := s_Filter__or) rfl
  have B_xor := F_xor.binds (ps := ["self", "other"]) fun _ _ _ _ _ _ us hl => match us, hl with | [_, _], _ => rfl
  obtain ⟨fd_xinvert, F_xinvert⟩ : ∃ fd, Fun K "__invert__" "Filter.__invert__" s_Filter__invert (He.ma K (He.ga K "Filter") "__invert__") fd := c.fn 49 (a := atM "Filter" "__invert__") (x := "__invert__") (q := "Filter.__invert__") (st := s_Filter__invert) rfl
  have B_xinvert := F_xinvert.binds (ps := ["self"]) fun _ _ _ _ _ _ us hl => match us, hl with | [_], _ => rfl
  obtain ⟨fd_xeq, F_xeq⟩ : ∃ fd, Fun K "__eq__" "Filter.__eq__" s_Filter__eq (He.ma K (He.ga K "Filter") "__eq__") fd := c.fn 50 (a := atM "Filter" "__eq__") (x := "__eq__") (q := "Filter.__eq__") (st := s_Filter__eq) rfl
  have B_xeq := F_xeq.binds (ps := ["self", "other"]) fun _ _ _ _ _ _ us hl => match us, hl with | [_, _], _ => rfl
  obtain ⟨fd_xcall, F_xcall⟩ : ∃ fd, Fun K "__call__" "Filter.__call__" s_Filter__call (He.ma K (He.ga K "Filter") "__call__") fd := c.fn 51 (a := atM "Filter" "__call__") (x := "__call__") (q := "Filter.__call__") (st := s_Filter__call) rfl
  have B_xcall := F_xcall.binds (ps := ["self", "values"]) fun _ _ _ _ _ _ us hl => match us, hl with | [_, _], _ => rfl
  obtain ⟨fd_pinit, F_pinit⟩ : ∃ fd, Fun K "__init__" "Phrase.__init__" s_Phrase__init (He.ma K (He.ga K "Phrase") "__init__") fd := c.fn 52 (a := atM "Phrase" "__init__") (x := "__init__") (q := "Phrase.__init__") (st := s_Phrase__init) rfl
  have B_pinit := F_pinit.binds (ps := ["self", "line", "words"]) fun _ _ _ _ _ _ us hl => match us, hl with | [_, _, _], _ => rfl
  obtain ⟨fd_phas_more, F_phas_more⟩ : ∃ fd, Fun K "has_more" "Phrase.has_more" s_Phrase_has_more (He.ma K (He.ga K "Phrase") "has_more") fd := c.fn 53 (a := atM "Phrase" "has_more") (x := "has_more") (q := "Phrase.has_more") (st := s_Phrase_has_more) rfl
  have B_phas_more := F_phas_more.binds (ps := ["self"]) fun _ _ _ _ _ _ us hl => match us, hl with | [_], _ => rfl
  obtain ⟨fd_pnext_word, F_pnext_word⟩ : ∃ fd, Fun K "next_word" "Phrase.next_word" s_Phrase_next_word (He.ma K (He.ga K "Phrase") "next_word") fd := c.fn 54 (a := atM "Phrase" "next_word") (x := "next_word") (q := "Phrase.next_word") (st := s_Phrase_next_word) rfl
  have B_pnext_word := F_pnext_word.binds (ps := ["self"]) fun _ _ _ _ _ _ us hl => match us, hl with | [_], _ => rfl
  obtain ⟨fd_pcheck, F_pcheck⟩ : ∃ fd, Fun K "check" "Phrase.check" s_Phrase_check (He.ma K (He.ga K "Phrase") "check") fd := c.fn 55 (a := atM "Phrase" "check") (x := "check") (q := "Phrase.check") (st := s_Phrase_check) rfl
  have B_pcheck := F_pcheck.binds (ps := ["self", "stands"]) fun _ _ _ _ _ _ us hl => match us, hl with | [_, _], _ => rfl
  obtain ⟨fd_pend, F_pend⟩ : ∃ fd, Fun K "end" "Phrase.end" s_Phrase_end (He.ma K (He.ga K "Phrase") "end") fd := c.fn 56 (a := atM "Phrase" "end") (x := "end") (q := "Phrase.end") (st := s_Phrase_end) rfl
  have B_pend := F_pend.binds (ps := ["self"]) fun _ _ _ _ _ _ us hl => match us, hl with | [_], _ => rfl
  obtain ⟨fd_pnext_name, F_pnext_name⟩ : ∃ fd, Fun K "next_name" "Phrase.next_name" s_Phrase_next_name (He.ma K (He.ga K "Phrase") "next_name") fd := c.fn 57 (a := atM "Phrase" "next_name") (x := "next_name") (q := "Phrase.next_name") (st := s_Phrase_next_name) rfl
  have B_pnext_name := F_pnext_name.binds (ps := ["self"]) fun _ _ _ _ _ _ us hl => match us, hl with | [_], _ => rfl
  obtain ⟨fd_pnext_ranges, F_pnext_ranges⟩ : ∃ fd, Fun K "next_ranges" "Phrase.next_ranges" s_Phrase_next_ranges (He.ma K (He.ga K "Phrase") "next_ranges") fd := c.fn 58 (a := atM "Phrase" "next_ranges") (x := "next_ranges") (q := "Phrase.next_ranges") (st := s_Phrase_next_ranges) rfl
  have B_pnext_ranges := F_pnext_ranges.binds (ps := ["self"]) fun _ _ _ _ _ _ us hl => match us, hl with | [_], _ => rfl
  obtain ⟨fd_pnext_filter, F_pnext_filter⟩ : ∃ fd, Fun K "next_filter" "Phrase.next_filter" s_Phrase_next_filter (He.ma K (He.ga K "Phrase") "next_filter") fd := c.fn 59 (a := atM "Phrase" "next_filter") (x := "next_filter") (q := "Phrase.next_filter") (st := s_Phrase_next_filter) rfl
  have B_pnext_filter := F_pnext_filter.binds (ps := ["self"]) fun _ _ _ _ _ _ us hl => match us, hl with | [_], _ => rfl
  obtain ⟨fd_pcondition, F_pcondition⟩ : ∃ fd, Fun K "condition" "Phrase.condition" s_Phrase_condition (He.ma K (He.ga K "Phrase") "condition") fd := c.fn 60 (a := atM "Phrase" "condition") (x := "condition") (q := "Phrase.condition") (st := s_Phrase_condition) rfl
  have B_pcondition := F_pcondition.binds (ps := ["self", "word", "last"]) fun _ _ _ _ _ _ us hl => match us, hl with | [_, _, _], _ => rfl
  obtain ⟨fd_rbetween, F_rbetween⟩ : ∃ fd, Fun K "between" "Ranges.between" s_Ranges_between (He5.wf K (He.ga K "Ranges") "classmethod" "between") fd := c.fn 61 (a := atC "Ranges" "between") (x := "between") (q := "Ranges.between") (st := s_Ranges_between) rfl
  have B_rbetween := F_rbetween.binds (ps := ["cls", "low", "high"]) fun _ _ _ _ _ _ us hl => match us, hl with | [_, _, _], _ => rfl
  obtain ⟨fd_rempty, F_rempty⟩ : ∃ fd, Fun K "empty" "Ranges.empty" s_Ranges_empty (He5.wf K (He.ga K "Ranges") "classmethod" "empty") fd := c.fn 62 (a := atC "Ranges" "empty") (x := "empty") (q := "Ranges.empty") (st := s_Ranges_empty) rfl
  have B_rempty := F_rempty.binds (ps := ["cls"]) fun _ _ _ _ _ _ us hl => match us, hl with | [_], _ => rfl
  obtain ⟨fd_xwithin, F_xwithin⟩ : ∃ fd, Fun K "within" "Filter.within" s_Filter_within (He5.wf K (He.ga K "Filter") "classmethod" "within") fd := c.fn 63 (a := atC "Filter" "within") (x := "within") (q := "Filter.within") (st := s_Filter_within) rfl
  have B_xwithin := F_xwithin.binds (ps := ["cls", "column", "ranges"]) fun _ _ _ _ _ _ us hl => match us, hl with | [_, _, _], _ => rfl
  obtain ⟨fd_xmissing, F_xmissing⟩ : ∃ fd, Fun K "missing" "Filter.missing" s_Filter_missing (He5.wf K (He.ga K "Filter") "classmethod" "missing") fd := c.fn 64 (a := atC "Filter" "missing") (x := "missing") (q := "Filter.missing") (st := s_Filter_missing) rfl
  have B_xmissing := F_xmissing.binds (ps := ["cls", "column"]) fun _ _ _ _ _ _ us hl => match us, hl with | [_, _], _ => rfl
  obtain ⟨fd_xalways, F_xalways⟩ : ∃ fd, Fun K "always" "Filter.always" s_Filter_always (He5.wf K (He.ga K "Filter") "classmethod" "always") fd := c.fn 65 (a := atC "Filter" "always") (x := "always") (q := "Filter.always") (st := s_Filter_always) rfl
  have B_xalways := F_xalways.binds (ps := ["cls"]) fun _ _ _ _ _ _ us hl => match us, hl with | [_], _ => rfl
  obtain ⟨fd_xnever, F_xnever⟩ : ∃ fd, Fun K "never" "Filter.never" s_Filter_never (He5.wf K (He.ga K "Filter") "classmethod" "never") fd := c.fn 66 (a := atC "Filter" "never") (x := "never") (q := "Filter.never") (st := s_Filter_never) rfl
  have B_xnever := F_xnever.binds (ps := ["cls"]) fun _ _ _ _ _ _ us hl => match us, hl with | [_], _ => rfl
  generalize er : He.ga K "Ranges" = C at *
  generalize ex : He.ga K "Filter" = D at *
  generalize ep : He.ga K "Phrase" = CP at *
  have e := hfa.symm.trans g_law
  cases e
  obtain ⟨tW, g_MOST_WORDS⟩ := gi_MOST_WORDS
  obtain ⟨tS, g_MOST_SIGNS⟩ := gi_MOST_SIGNS
  obtain ⟨tD, g_DIGITS_OF_BOUNDS⟩ := gi_DIGITS_OF_BOUNDS
  have T : ClsT K mg C (He.ma K C "__init__") (He.ma K C "__eq__") := ⟨rCl, rNo_parts, rMk, g_C, X_sr, ⟨mr_eq.1, X_er.ne, mr_eq.2, ⟨X_er.ob, X_er.sub _ (by decide), X_er.sub _ (by decide), X_er.sub _ (by decide), X_er.sub _ (by decide), X_er.sub _ (by decide), X_er.sub _ (by decide)⟩⟩, X_er.cls, X_er.get, X_er.tk, X_er.mro, X_er.own, X_er.kit _ (by decide), X_er.kit _ (by decide), X_er.kit _ (by decide), X_er.kit _ (by decide), X_er.kit _ (by decide), X_er.kit _ (by decide)⟩
  have CM : ClsM K C (.type "type") _ _ _ _ (He.ma K C "__or__") := ⟨X_cr.rd, X_cr.met "empty" (by decide), X_cr.met "between" (by decide), X_sr, mr_or.1, mr_or.2⟩
  have TF : ClsF K mg D (He.ma K D "__init__") := ⟨xCl, xNo_tree, xNo_columns, xMk, g_CF⟩
  have CF : ClsG K D (.type "type") _ _ _ _ _ _ _ _ (He.ma K D "__and__") (He.ma K D "__or__") (He.ma K D "__invert__") (He.ma K D "__call__") := ⟨X_cx.rd, X_cx.met "within" (by decide), X_cx.met "missing" (by decide), X_cx.met "always" (by decide), X_cx.met "never" (by decide), X_sx, mx_and.1, mx_and.2, mx_or.1, mx_or.2, mx_invert.1, mx_invert.2, ⟨mx_call.1, mx_call.2, X_fxcall⟩⟩
  have U : ClsE K D (He.ma K D "__eq__") := ⟨⟨mx_eq.1, X_ex.ne, mx_eq.2, ⟨X_ex.ob, X_ex.sub _ (by decide), X_ex.sub _ (by decide), X_ex.sub _ (by decide), X_ex.sub _ (by decide), X_ex.sub _ (by decide), X_ex.sub _ (by decide)⟩⟩, X_ex.cls, X_ex.get, X_ex.tk, X_ex.mro, X_ex.own,
    X_ex.kit _ (by decide), X_ex.kit _ (by decide), X_ex.kit _ (by decide), X_ex.kit _ (by decide), X_ex.kit _ (by decide), X_ex.kit _ (by decide)⟩
  have TP : ClsP K mg CP (He.ma K CP "__init__") (He.ma K CP "has_more") (He.ma K CP "next_word") (He.ma K CP "check") (He.ma K CP "end") (He.ma K CP "next_ranges") (He.ma K CP "next_name") (He.ma K CP "condition") (He.ma K CP "next_filter") := ⟨pCl, pNo_line, pNo_words, pNo_place, pMk, g_Phrase, mp_has_more, mp_next_word, mp_check, mp_end, mp_next_ranges, mp_next_name, mp_condition, mp_next_filter⟩
  have DS : DW K w (He.ga K "SIGNS") SIGW := ⟨by simpa using X_nSIGNS, (List.cons.inj c.2.1).1, by decide⟩
  refine ⟨fd_law, fun s v => bl s [v] rfl, fun base _ _ => ?_⟩
  have G_tend := ok_tend (P := P) (w := w) (mg := mg) (base := base) F_text_of_end z_str
  have G_tpart := ok_tpart F_text_of_part F_text_of_end B_text_of_end g_text_of_end G_tend z_str
  have G_tparts := ok_tparts F_text_of_parts F_text_of_part B_text_of_part g_text_of_part G_tpart
  have G_show := ok_show F_show_ranges T F_text_of_parts B_text_of_parts g_text_of_parts G_tparts
  have G_num := ok_num (P := P) (w := w) (mg := mg) (base := base) F_number_in z_len z_all z_int
  have G_stretch := ok_stretch F_stretch_in F_number_in B_number_in g_number_in G_num g_DIGITS_OF_BOUNDS
  have G_joined := ok_joined (P := P) (w := w) (mg := mg) (base := base) F_joined F_start_of B_start_of g_start_of F_touches B_touches g_touches F_later_end B_later_end g_later_end z_max z_sorted z_tuple
  have R_empty : FnR P w K mg base CX0 3 (He5.wf K C "classmethod" "empty") (fun vs H Q E => sp_empty C (vs ++ []) H Q E) := FnOk.raw (ok_empty F_rempty F_rinit B_rinit T) B_rempty .nil
  have R_between : FnR P w K mg base CX0 3 (He5.wf K C "classmethod" "between") (fun vs H Q E => sp_between C (vs ++ []) H Q E) := FnOk.raw (ok_between F_rbetween F_rinit B_rinit T) B_rbetween .nil
  have R_or : FnR P w K mg base CX0 5 (He.ma K C "__or__") (fun vs H Q E => sp_or C (vs ++ []) H Q E) := FnOk.raw (ok_or F_ror F_rinit B_rinit T F_joined B_joined g_joined G_joined) B_ror .nil
  have G_ranges_in := ok_ranges_in F_ranges_in T CM R_empty F_rinit B_rinit F_stretch_in B_stretch_in g_stretch_in G_stretch F_joined B_joined g_joined G_joined F_show_ranges B_show_ranges g_show_ranges G_show
  have G_in_parts := ok_in_parts (P := P) (w := w) (mg := mg) (base := base) F_in_parts z_len
  have G_truth_within := ok_truth_within (P := P) (w := w) (mg := mg) (base := base) F_truth_within F_in_parts B_in_parts g_in_parts G_in_parts
  have G_both := ok_both (P := P) (w := w) (mg := mg) (base := base) F_both
  have G_either := ok_either (P := P) (w := w) (mg := mg) (base := base) F_either
  have G_negated := ok_negated (P := P) (w := w) (mg := mg) (base := base) F_negated
  have G_truth_of := ok_truth (P := P) (w := w) (mg := mg) (base := base) F_truth_of B_truth_of g_truth_of F_truth_within B_truth_within g_truth_within G_truth_within F_both B_both g_both G_both F_either B_either g_either G_either F_negated B_negated g_negated G_negated 22
  have G_all_columns := ok_all_columns (P := P) (w := w) (mg := mg) (base := base) F_all_columns z_tuple z_sorted z_set
  have RF_within : FnR P w K mg base CX0 3 _ (fun vs H Q E => sp_fwithin C D (vs ++ []) H Q E) := FnOk.raw (ok_fwithin F_xwithin F_xinit B_xinit TF T) B_xwithin .nil
  have RF_missing : FnR P w K mg base CX0 3 _ (fun vs H Q E => sp_fmissing D (vs ++ []) H Q E) := FnOk.raw (ok_fmissing F_xmissing F_xinit B_xinit TF) B_xmissing .nil
  have RF_always : FnR P w K mg base CX0 3 _ (fun vs H Q E => sp_falways D (vs ++ []) H Q E) := FnOk.raw (ok_falways F_xalways F_xinit B_xinit TF) B_xalways .nil
  have RF_never : FnR P w K mg base CX0 3 _ (fun vs H Q E => sp_fnever D (vs ++ []) H Q E) := FnOk.raw (ok_fnever F_xnever F_xinit B_xinit TF) B_xnever .nil
  have RF_and : FnR P w K mg base CX0 3 _ (fun vs H Q E => sp_fand D (vs ++ []) H Q E) := FnOk.raw (ok_fand F_xand F_xinit B_xinit TF F_all_columns B_all_columns g_all_columns G_all_columns) B_xand .nil
  have RF_or : FnR P w K mg base CX0 3 _ (fun vs H Q E => sp_for D (vs ++ []) H Q E) := FnOk.raw (ok_for F_xor F_xinit B_xinit TF F_all_columns B_all_columns g_all_columns G_all_columns) B_xor .nil
  have RF_inv : FnR P w K mg base CX0 3 _ (fun vs H Q E => sp_finv D (vs ++ []) H Q E) := FnOk.raw (ok_finv F_xinvert F_xinit B_xinit TF) B_xinvert .nil
  have RF_call : FnR P w K mg base CX0 26 _ (fun vs H Q E => sp_fcall D 22 (vs ++ []) H Q E) := FnOk.raw (ok_fcall (d := 22) F_xcall TF F_truth_of B_truth_of g_truth_of G_truth_of) B_xcall .nil
  have R_feq : FnR P w K mg base CX0 1 (He.ma K D "__eq__") (fun vs H Q E => sp_feq D (vs ++ []) H Q E) := FnOk.raw (ok_feq F_xeq TF U z_isinstance) B_xeq .nil
  have RPI : FnR P w K mg base CX0 1 (He.ma K CP "__init__") (spPI CP) := FnOk.raw (ok_pinit F_pinit TP) B_pinit .nil
  have RP_has_more : FnR P w K mg base CX0 1 (He.ma K CP "has_more") (fun vs H Q E => sp_more CP (vs ++ []) H Q E) := FnOk.raw (ok_more F_phas_more TP z_len) B_phas_more .nil
  have RP_next_word : FnR P w K mg base CX0 2 (He.ma K CP "next_word") (fun vs H Q E => sp_word CP (vs ++ []) H Q E) := FnOk.raw (ok_word (fdM := fd_phas_more) F_pnext_word TP TP RP_has_more z_len) B_pnext_word .nil
  have RP_check : FnR P w K mg base CX0 1 (He.ma K CP "check") (fun vs H Q E => sp_check (vs ++ []) H Q E) := FnOk.raw (ok_check F_pcheck) B_pcheck .nil
  have RP_end : FnR P w K mg base CX0 2 (He.ma K CP "end") (fun vs H Q E => sp_pend CP (vs ++ []) H Q E) := FnOk.raw (ok_pend F_pend TP TP RP_has_more) B_pend .nil
  have G_is_name := ok_isname (P := P) (w := w) (mg := mg) (base := base) F_is_name z_isinstance z_str z_len z_all
  have RP_next_name : FnR P w K mg base CX0 3 (He.ma K CP "next_name") (fun vs H Q E => sp_pname CP (vs ++ []) H Q E) := FnOk.raw (ok_pname F_pnext_name TP TP RP_next_word RP_check F_is_name B_is_name g_is_name G_is_name) B_pnext_name .nil
  have RP_next_ranges : FnR P w K mg base CX0 6 (He.ma K CP "next_ranges") (fun vs H Q E => sp_pnext C CP (vs ++ []) H Q E) := FnOk.raw (ok_pnext F_pnext_ranges TP TP RP_next_word RP_check F_ranges_in B_ranges_in g_ranges_in G_ranges_in) B_pnext_ranges .nil
  have G_pin := ok_pin (fdI := fd_pinit) F_phrases_in TP RPI z_enumerate
  have G_pof := ok_pof F_phrases_of F_phrases_in B_phrases_in g_phrases_in G_pin z_isinstance z_str
  have G_eol := ok_eol F_end_of_line TP TP RP_end z_len
  have G_jby := ok_jby F_joined_by CF RF_and RF_or RF_inv
  have G_closed := ok_closed F_closed g_SIGNS DS F_joined_by B_joined_by g_joined_by G_jby z_len
  have RP_condition : FnR P w K mg base CX0 7 (He.ma K CP "condition") (fun vs H Q E => sp_cond D CP (vs ++ []) H Q E) := FnOk.raw (ok_cond F_pcondition TP TP TF CF RP_check RP_next_name RP_next_ranges RF_within RF_missing RF_always RF_never) B_pcondition .nil
  have RP_next_filter : FnR P w K mg base CX0 8 (He.ma K CP "next_filter") (fun vs H Q E => sp_nfilter D CP (vs ++ []) H Q E) := FnOk.raw (ok_nfilter F_pnext_filter TP TP g_SIGNS DS g_MOST_WORDS g_MOST_SIGNS RP_next_word RP_check RP_condition F_closed B_closed g_closed G_closed z_len) B_pnext_filter .nil
  have G_wot := ok_words F_words_of_tree F_text_of_parts B_text_of_parts g_text_of_parts G_tparts z_list
  have G_fshow := ok_fshow F_show_filter TF F_words_of_tree B_words_of_tree g_words_of_tree G_wot
  have G_fread := ok_fread F_read_filter TP TP F_phrases_of B_phrases_of g_phrases_of G_pof F_end_of_line B_end_of_line g_end_of_line G_eol RP_next_filter
  have G_pen := ok_pen (P := P) (w := w) (mg := mg) (base := base) F_pen z_list
  have G_draw := ok_draw (P := P) (w := w) (mg := mg) (base := base) F_draw z_int z_len z_abs
  have G_name := ok_lname F_name F_draw B_draw g_draw G_draw z_len z_range
  have G_names := ok_lnames F_names F_name B_name g_name G_name z_int z_range
  have G_bound := ok_bound F_bound F_draw B_draw g_draw G_draw
  have G_ptext := ok_ptext (P := P) (w := w) (mg := mg) (base := base) F_parts_text z_str
  have G_Lranges := ok_rangesT F_Lranges T CM R_empty R_between R_or
  have G_Lparts := ok_parts F_Lparts F_draw B_draw g_draw G_draw F_bound B_bound g_bound G_bound z_range z_sorted z_len z_tuple
  have G_leaf := ok_leaf F_leaf F_draw B_draw g_draw G_draw F_Lparts B_Lparts g_Lparts G_Lparts z_len
  have G_tree := ok_ltree F_tree F_draw B_draw g_draw G_draw F_leaf B_leaf g_leaf G_leaf z_len z_int z_range
  have G_flat := ok_lflat F_flat F_draw B_draw g_draw G_draw F_leaf B_leaf g_leaf G_leaf z_len z_range
  have G_filter := ok_lfilter F_filter B_filter g_filter TF CF RF_within RF_missing RF_always RF_never RF_and RF_or RF_inv F_Lranges B_Lranges g_Lranges G_Lranges 22
  have G_words := ok_lwords F_words B_words g_words F_parts_text B_parts_text g_parts_text G_ptext z_list 22
  have G_right := ok_right F_right TF U CF R_feq RF_call F_filter B_filter g_filter G_filter F_words B_words g_words G_words F_show_filter B_show_filter g_show_filter G_fshow (kb_fshow F_show_filter) F_read_filter B_read_filter g_read_filter G_fread (kb_fread F_read_filter) F_draw B_draw g_draw G_draw F_bound B_bound g_bound G_bound z_range z_repr
  have G_deep := ok_ldeep F_deep F_draw B_draw g_draw G_draw z_range
  have G_long := ok_llong F_long F_draw B_draw g_draw G_draw z_len z_range
  exact ok_law F_law TF F_pen B_pen g_pen G_pen F_draw B_draw g_draw G_draw F_names B_names g_names G_names F_tree B_tree g_tree G_tree F_flat B_flat g_flat G_flat F_right B_right g_right G_right F_deep B_deep g_deep G_deep F_long B_long g_long G_long F_show_filter B_show_filter g_show_filter G_fshow F_read_filter B_read_filter g_read_filter G_fread z_range
end Spk
open PySem PySem.W PySem.Calls PyProof.Rows
theorem PySem.Challenge.cw_speaklast_k85_filters_as_texts_holds : PySem.Challenge.rw_speaklast_k85_filters_as_texts.Holds := by
  w_on; o_law
  refine HandSHeadRun.head_any (r := Spk.Rw) (q := view Spk.Rw.prog [62]) (H := Spk.hk) (ob := Spk.obT) (M := 9000) (loose := Spk.loose) (d := HandSHeadRun.topDef Spk.Rw.prog 62) (kwd := []) Spk.obT_eq
    (by kernel_rfl) (fun s => by kernel_rfl) Spk.runs (by kernel_rfl) (by kernel_rfl) (by kernel_rfl) (by rfl) (by first | assumption | decide +kernel) (by decide +kernel) ⟨rfl, rfl, rfl, rfl, rfl, by decide +kernel⟩ ?hw ?hc
  case hw => w_witness2
  case hc =>
    refine Spk.walk_g (l := PySem.Challenge.rw_speaklast_k85_filters_as_texts) (n := 63) (k := 31) (x := "_law_script") (CX := L2.CX0) rfl (by decide) (by kernel_rfl) ⟨rfl, by decide, by decide⟩ ?F (fun _ _ _ _ z => z)
    intro w mg fa h Y G hmg0
    obtain ⟨K, KX, c⟩ := Y
    have hmg : mg ("law" : PySem.Str) = some (.ref fa) := by
      have e : (HandSHeadRun.topDef Spk.Rw.prog 62).name = ("law" : PySem.Str) := by kernel_rfl
      rw [← e]
      exact hmg0
    obtain ⟨fd, hb, hF⟩ := Spk.facts (P := (PySem.Challenge.rw_speaklast_k85_filters_as_texts).prog) (w := w) KX G hmg c
    exact ⟨K, fd, Spk.sp_law K, KX, hb, fun H a ns hl _ hS => ⟨a, ns, rfl, hS, hl, fun _ => rfl⟩, hF⟩

