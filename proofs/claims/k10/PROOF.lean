import PyProof.Rows.All
import Wide.All
import OpenK.AllK
import Wide.FinOn
import HandS.ForMost
import HandS.SortKw
import HandS.More
import HandS.OwnEq
import HandS.Keys
import KE.SortKeyHeap
import HandS.IsInst
import HandS.TupAny
import HandS.Wide
import HandS.ClsMeth
import HandS.Star
import HandS.CallLocal
import HandS.Codes
import KE.GoesMore
import HandS.Style
import HandS.Conv
import HandS.SetFor
import HandS.SetTxt0
import HandS.Strs
import HandS.MakeKwOnly
import KE.KStar
import HandS.Zip
import HandS.Walk
import HandS.Deep
import HandS.Head0
import HandS.Head1
import HandS.Head2
import HandS.HeadEnd
import HandS.HeadHook1
import HandS.HeadHook2
import HandS.HeadNt
import PySem.Challenge.RW_speaklast_k10_rows_of_tables
set_option Elab.async false
set_option linter.all false
set_option maxRecDepth 100000
set_option maxHeartbeats 2000000
namespace Spk
open PySem PySem.Spec PyProof.Rows PySem.W L2

/-! ## sorted(xs, key=f), f a def of the program that keeps an L2 promise -/
theorem heap_without (h : Heap) (k : Addr) : ∃ g : Heap, g.get? k = none ∧ ∀ b, b ≠ k → g.get? b = h.get? b := by
  by_cases hk : k < h.objs.size
  · refine ⟨{ h with objs := h.objs.set k ⟨.none, none, .freed, #[]⟩ hk }, ?_, fun b hb => ?_⟩
    · unfold Heap.get?
      simp
    · unfold Heap.get?
      simp only [Array.getElem?_set, if_neg (Ne.symm hb)]
  · refine ⟨h, ?_, fun _ _ => rfl⟩
    unfold Heap.get?
    rw [Array.getElem?_eq_none (Nat.le_of_not_lt hk)]

mutual
theorem dp_same {K : Frag} {H H' : Hp} (e : Same H H') : ∀ (d : PyData) (v : V), Dp K H v d → Dp K H' v d
  | .none, _, h => by cases h; exact .non
  | .bool b, _, h => by cases h; exact .bl b
  | .int i, _, h => by cases h; exact .int i
  | .str x, _, h => by cases h; exact .str x
  | .list ds, _, h => by
    cases h with
    | lst s a => exact .lst (SqL.ext s e) (dps_same e ds _ a)
  | .tuple ds, _, h => by
    cases h with
    | tup s a => exact .tup (SqT.ext s e) (dps_same e ds _ a)
  | .dict _, _, h => by cases h
theorem dps_same {K : Frag} {H H' : Hp} (e : Same H H') : ∀ (ds : List PyData) (vs : List V), DpAll K H vs ds → DpAll K H' vs ds
  | [], _, h => by cases h; exact .nil
  | d :: ds, _, h => by
    cases h with
    | cons a b => exact .cons (dp_same e d _ a) (dps_same e ds _ b)
end

/-- a def that keeps a promise, called somewhere below the running body -/
theorem call_at {X : Cx} {n : Nat} {f : Addr} {sp : Sp} (F : FnR X.prog X.w X.K X.mg X.base CX0 n f sp) {A' : Around} (sb : Sub X n A') {pins : List (Addr × Obj)} {s : Shared} {σ : L2.St} {H : Hp} (I : Inv X pins σ H s)
    {vs : List V} {us : List Value} {Q : VK} {E : Value → Shared → Prop} (r : Vals vs us) (h : sp vs H Q E0) : wpAny (model X.prog X.w) A' (call (.ref f) us) (EP X pins σ Q) E s := by
  have e0 : Env0 X.prog X.w X.K X.mg X.base A' X.stack s H := by
    have e := I.env0
    exact ⟨by rw [sb.fr]; exact e.frames, e.mod, e.bs, e.bsz, e.funs, e.frf, e.hok, e.bare⟩
  refine wpAny_call (codeAny_mono (F A' X.stack s H us vs Q E0 sb.room e0 r h) fun r s' hq => ?_)
  cases r with
  | error e => exact False.elim hq
  | ok fl =>
    cases fl with
    | ret w => exact I.after hq
    | next => exact False.elim hq
    | brk => exact False.elim hq
    | cont => exact False.elim hq

/-- the keys told so far -/
def KeysIn (K : Frag) (H : Hp) : List Value → List PyData → Prop := EachIs fun u d => ∃ v, RelV v u ∧ Dp K H v d

structure KeyLoop (X : Cx) (pins : List (Addr × Obj)) (σ : L2.St) (H : Hp) (a kS : Addr) (e1 : Nat) (kz : List PyData) (i : Nat) (s' : Shared) : Prop where
  ex : ∃ (H' : Hp) (kA : Array Value) (e : Nat), Inv X pins σ H' s' ∧ Same H H' ∧ FpOk X pins H' a ∧ FpOk X pins H' kS ∧ s'.heap.get? kS = some (seqObj "list" kA e) ∧
    s'.heap.get? a = some (seqObj "list" #[] e1) ∧ KeysIn X.K H' kA.toList (kz.take i)

theorem key_turn {X : Cx} {n : Nat} {f : Addr} {sp : Sp} (F : FnR X.prog X.w X.K X.mg X.base CX0 n f sp) {A' : Around} (sb : Sub X n A') {pins : List (Addr × Obj)} {σ : L2.St} {H : Hp} {a kS : Addr} {e1 : Nat} {kz : List PyData} {i : Nat} {s' : Shared}
    (hka : kS ≠ a) {x : V} {u : Value} {d : PyData} (ru : RelV x u) (hd : kz[i]? = some d) (turn : ∀ H', Same H H' → sp [x] H' (fun v H'' => Same H' H'' ∧ Dp X.K H'' v d) E0) (J : KeyLoop X pins σ H a kS e1 kz i s') {E : Value → Shared → Prop} :
    wpAny (model X.prog X.w) A' (call (.ref f) [u]) (fun v s'' => ∃ (kA : Array Value) (e : Nat), s''.heap.get? kS = some (seqObj "list" kA e) ∧ kA.size ≤ i ∧
      ∀ h' : Heap, (∀ b o, b ≠ kS → s''.heap.get? b = some o → h'.get? b = some o) → (∃ e', h'.get? kS = some (seqObj "list" (kA.push v) e')) → KeyLoop X pins σ H a kS e1 kz (i + 1) { s'' with heap := h' }) E s' := by
  obtain ⟨H', kA, e, I, sm, fa, fk, nk, na, ks⟩ := J.ex
  have Ip := I.pinned (fp := [a, kS]) (fun b hb => by
      rcases List.mem_cons.mp hb with rfl | hb
      · exact fa
      · rw [List.mem_singleton.mp hb]; exact fk) (fun b hb => by
      rcases List.mem_cons.mp hb with rfl | hb
      · exact ⟨_, na, fun v z => nomatch z⟩
      · rw [List.mem_singleton.mp hb]; exact ⟨_, nk, fun v z => nomatch z⟩)
  refine wpAny_mono (call_at F sb Ip (.cons ru .nil) (turn H' sm)) (fun v s'' he => ?_) fun _ _ z => z
  obtain ⟨w, H2, I2, rw2, sm2, dp⟩ := he
  have pa := I2.pin (a, _) (List.mem_append_right _ (List.mem_append_right _ (mem_pinsAt (by simp) na)))
  have pk := I2.pin (kS, _) (List.mem_append_right _ (List.mem_append_right _ (mem_pinsAt (by simp) nk)))
  have I3 := I2.unpinned
  have hsz : kA.size ≤ i := by
    have h1 := ks.length
    rw [Array.length_toList, List.length_take] at h1
    omega
  have fk2 : FpOk X pins H2 kS := ⟨pk.2.1, fk.2⟩
  have fa2 : FpOk X pins H2 a := ⟨pa.2.1, fa.2⟩
  refine ⟨kA, e, pk.1, hsz, fun h' keep ⟨e', hk'⟩ => ⟨⟨H2, kA.push v, e', ?_, fun b o q => sm2 b o (sm b o q), fa2, fk2, hk', keep a _ (Ne.symm hka) pa.1, ?_⟩⟩⟩
  · exact I3.turnedL (t' := s''.toks) (ch := [kS]) (fun b o hb q => keep b o (by simpa using hb) q) (fun b hb => by rw [List.mem_singleton.mp hb]; exact fk2)
  · have ek : kz.take (i + 1) = kz.take i ++ [d] := by rw [List.take_add_one, hd]; simp
    have ea : (kA.push v).toList = kA.toList ++ [v] := by simp
    rw [ea, ek]
    unfold KeysIn
    refine each_snoc ⟨w, rw2, dp⟩ ?_
    exact EachIs.mono (fun u d ⟨z, rz, dz⟩ => ⟨z, rz, dp_same sm2 d z dz⟩) ks

/-- the items in the order of their keys -/
def byKeys (xs : List V) (kz : List PyData) : List V := ((xs.zip kz).mergeSort (dataLe false (·.2))).map (·.1)

theorem each_vals : ∀ {vs : List Value} {bs : List (V × PyData)}, EachIs (fun u (b : V × PyData) => RelV b.1 u) vs bs → Vals (bs.map (·.1)) vs := by
  intro vs bs h
  induction h with
  | nil => exact .nil
  | cons r _ ih => exact .cons r ih
theorem each_zip : ∀ {xs : List V} {vs : List Value} {kz : List PyData}, Vals xs vs → kz.length = xs.length → EachIs (fun u (b : V × PyData) => RelV b.1 u) vs (xs.zip kz)
  | _, _, [], .nil, _ => .nil
  | _, _, d :: kz, .cons r t, h => .cons r (each_zip t (by simpa using h))
  | _, _, [], .cons _ _, h => by simp at h
  | _, _, _ :: _, .nil, h => by simp at h

theorem sort_rest {X : Cx} {n : Nat} {f : Addr} {sp : Sp} (F : FnR X.prog X.w X.K X.mg X.base CX0 n f sp) {A' : Around} (sb : Sub X n A') {pins : List (Addr × Obj)} {σ : L2.St} {H : Hp} {a kS : Addr} {e1 : Nat} {kz : List PyData} {s : Shared} {xs : List V} {vs : List Value}
    (hka : kS ≠ a) (r : Vals xs vs) (hlen : kz.length = xs.length) (hZ : xs.length ≤ sizeLine) (hal : AllAlike kz) (hsk : Sortable kz) (hdep : ∀ d, d ∈ kz → A'.units + d.depth < cLine)
    (turn : ∀ (i : Nat) x d, xs[i]? = some x → kz[i]? = some d → ∀ H', Same H H' → sp [x] H' (fun v H'' => Same H' H'' ∧ Dp X.K H'' v d) E0)
    (J : KeyLoop X pins σ H a kS e1 kz 0 s) {P : PySem.Fin → Shared → Prop} {E : Value → Shared → Prop}
    (q : ∀ (H' : Hp) (s' : Shared) (out : List Value) (c : Nat), Inv X pins σ H' s' → Same H H' → FpOk X pins H' a → s'.heap.get? a = some (seqObj "list" out.toArray c) → Vals (byKeys xs kz) out → P (.done (.ret .none)) s') :
    wpAny (model X.prog X.w) A' (ksk_rest a (.ref f) false vs.toArray e1 (.ref kS)) P E s := by
  have hvl : vs.length = xs.length := r.length.symm
  unfold ksk_rest
  refine wpAny_bind (wpAny_rule ?_)
  rw [← Array.forIn_toList]
  refine wpAny_bind (ksk_fold (fun i s' => KeyLoop X pins σ H a kS e1 kz i s') vs 0 s J ?step ?done)
  case step =>
    intro j u s' hu J'
    simp only [Nat.zero_add] at J' ⊢
    have hj : j < vs.length := (List.getElem?_eq_some_iff.mp hu).1
    have hjx : j < xs.length := by omega
    obtain ⟨u', hu', ru⟩ := r.get (i := j) (List.getElem?_eq_getElem hjx)
    rw [hu] at hu'
    cases hu'
    have hjk : j < kz.length := by omega
    refine wpAny_bind (wpAny_attempt (wpAny_mono (key_turn F sb hka ru (List.getElem?_eq_getElem hjk) (turn j _ _ (List.getElem?_eq_getElem hjx) (List.getElem?_eq_getElem hjk)) J') (fun v s'' he => ?_) fun _ _ hF => hF))
    obtain ⟨kA, e, nk, hs, go⟩ := he
    try dsimp only
    have s1 := Heap.SameBut.update s''.heap kS (Obj.mapSeq (·.push v))
    have hks : kA.size ≤ sizeLine := by omega
    refine wpAny_bind (listUpdate_at nk rfl ?_ hks (Nat.le_trans (Nat.le_of_eq (Array.size_push ..)) (Nat.succ_le_succ hks)))
    exact wpAny_pure ⟨rfl, go _ (fun b o hb z => (s1.2 b hb).trans z) ⟨_, get?_update_seq nk (·.push v)⟩⟩
  case done =>
    intro s' J'
    obtain ⟨H', kA, e, I, sm, fa, fk, nk, na, ks⟩ := J'.ex
    rw [Nat.zero_add, hvl, ← hlen, List.take_length] at ks
    have hk' : EachIs (fun v k => ∃ as, Reads s'.heap v k as) kA.toList kz := EachIs.mono (fun u d ⟨z, rz, dz⟩ => Dp.reads I d z u dz rz) ks
    have hsz : kA.size = vs.length := by
      have h1 := hk'.length
      rw [Array.length_toList] at h1
      omega
    refine wpAny_bind (listItems_at nk rfl ?_)
    obtain ⟨g, g0, g1⟩ := heap_without s'.heap kS
    have kp : KeepsBut a g s'.heap := fun b o _ z => by
      by_cases hb : b = kS
      · rw [hb, g0] at z; cases z
      · rw [← g1 b hb]; exact z
    refine keyH_end (κ := dataKind s'.heap kz) (h₁ := g) kp g0 nk na hka (SortsAt.data hk' hal hsk hdep) hsz (by omega) fun h3 tk3 c k3 n3 => ?_
    have keep : ∀ b o, b ∉ [a, kS] → s'.heap.get? b = some o → h3.get? b = some o := fun b o hb z => by
      simp only [List.mem_cons, List.not_mem_nil, or_false, not_or] at hb
      exact k3 b o hb.1 (by rw [g1 b hb.2]; exact z)
    refine q H' _ _ c (I.turnedL (ch := [a, kS]) keep (fun b hb => ?_)) sm fa n3 ?_
    · rcases List.mem_cons.mp hb with rfl | hb
      · exact fa
      · rw [List.mem_singleton.mp hb]; exact fk
    · have ko : KeyedOut false ((xs.zip kz).map (·.2)) vs (sortVals (dataKind s'.heap kz) false kA.toList vs) := by
        rw [List.map_snd_zip (by omega)]
        exact ⟨s'.heap, kA.toList, hal, rfl, hk'⟩
      exact each_vals (keyedOut_each (·.2) ko (each_zip r hlen))

theorem sort_tree {X : Cx} {n : Nat} {f : Addr} {sp : Sp} (F : FnR X.prog X.w X.K X.mg X.base CX0 n f sp) {A' : Around} (sb : Sub X n A') {pins : List (Addr × Obj)} {σ : L2.St} {H : Hp} {kz : List PyData} {s : Shared} {xs : List V} {vs : List Value}
    (I : Inv X pins σ H s) (r : Vals xs vs) (hlen : kz.length = xs.length) (hZ : xs.length ≤ sizeLine) (hal : AllAlike kz) (hsk : Sortable kz) (hdep : ∀ d, d ∈ kz → A'.units + d.depth < cLine)
    (turn : ∀ (i : Nat) x d, xs[i]? = some x → kz[i]? = some d → ∀ H', Same H H' → sp [x] H' (fun v H'' => Same H' H'' ∧ Dp X.K H'' v d) E0)
    {P : PySem.Fin → Shared → Prop} {E : Value → Shared → Prop}
    (q : ∀ (H' : Hp) (s' : Shared), Inv X pins σ (upd H' s.heap.objs.size (.lst (byKeys xs kz))) s' → Same H H' → H' s.heap.objs.size = none → P (.done (.ret .none)) s') :
    wpAny (model X.prog X.w) A' (ksk_tree s.heap.objs.size (.ref f) false) P E { s with heap := s.heap.push (seqObj "list" vs.toArray 0) } := by
  have hvl : vs.length = xs.length := r.length.symm
  have hvz : vs.toArray.size ≤ sizeLine := by rw [List.size_toArray]; omega
  have ho : (s.heap.push (seqObj "list" vs.toArray 0)).get? s.heap.objs.size = some (seqObj "list" vs.toArray 0) := Heap.get?_push_size _ rfl
  have s1 := Heap.SameBut.update (s.heap.push (seqObj "list" vs.toArray 0)) s.heap.objs.size (Obj.mapSeq fun _ => (#[] : Array Value))
  obtain ⟨e1, ho1⟩ : ∃ e1, ((s.heap.push (seqObj "list" vs.toArray 0)).update s.heap.objs.size (Obj.mapSeq fun _ => (#[] : Array Value))).get? s.heap.objs.size = some (seqObj "list" #[] e1) :=
    ⟨_, get?_update_seq ho fun _ => #[]⟩
  have hk : (((s.heap.push (seqObj "list" vs.toArray 0)).update s.heap.objs.size (Obj.mapSeq fun _ => (#[] : Array Value))).push (seqObj "tuple" vs.toArray 0)).objs.size = s.heap.objs.size + 2 := by
    rw [size_push', Heap.size_update, size_push']
  have Ha : H s.heap.objs.size = none := I.hok.fresh (Nat.le_refl _)
  have Hk : H (s.heap.objs.size + 2) = none := I.hok.fresh (Nat.le_add_right _ _)
  unfold ksk_tree
  refine wpAny_bind (listItems_at ho rfl ?_)
  refine wpAny_bind (listUpdate_at ho rfl ?_ hvz (Nat.zero_le _))
  refine wpAny_bind (seqEpoch_at ho1 rfl ?_)
  refine wpAny_bind (wpAny_newTuple ?_ (by show vs.length ≤ _; omega))
  refine wpAny_bind (wpAny_newList ?_ (Nat.zero_le _))
  refine wpAny_holding ?_
  rw [hk]
  refine sort_rest F sb (pins := pins) (σ := σ) (H := H) (a := s.heap.objs.size) (kS := s.heap.objs.size + 2) (Nat.ne_of_gt (Nat.lt_add_of_pos_right (by decide))) r hlen hZ hal hsk hdep turn ⟨H, #[], 0, ?_, Same.refl H, I.fpOk (Nat.le_refl _) Ha, I.fpOk (Nat.le_add_right _ _) Hk, ?_, ?_, ?_⟩ ?_
  · exact I.kept (t' := s.toks) fun b o e => by
      refine Heap.get?_push_of_some _ (Heap.get?_push_of_some _ ?_)
      rw [s1.2 b (Nat.ne_of_lt (Heap.lt_size e))]
      exact Heap.get?_push_of_some _ e
  · have := Heap.get?_push_size (((s.heap.push (seqObj "list" vs.toArray 0)).update s.heap.objs.size (Obj.mapSeq fun _ => (#[] : Array Value))).push (seqObj "tuple" vs.toArray 0)) (o := seqObj "list" #[] 0) rfl
    rw [hk] at this
    exact this
  · exact Heap.get?_push_of_some _ (Heap.get?_push_of_some _ ho1)
  · rw [List.take_zero]
    exact EachIs.nil
  · intro H' s' out c I' sm fa na ro
    refine q H' s' ?_ sm fa.1
    have z : (byKeys xs kz).length ≤ sizeLine := by
      unfold byKeys
      rw [List.length_map, List.length_mergeSort, List.length_zip]
      omega
    exact I'.take (it := s.heap.objs.size) (t' := s'.toks) (fun b ob _ e => e) fa ⟨z, out, c, ro, na⟩

/-- sorted(xs, key=f), xs a list or a tuple: what it asks -/
def rSortKey (K : Frag) (f : Addr) (sp : Sp) : List V → List V → Hp → VK → Prop := fun vs zs H Q => ∃ (l : Addr) (xs : List V) (kz : List PyData), vs = [V.ref l] ∧ zs = [V.ref f] ∧ (SqL K H l xs ∨ SqT K H l xs) ∧
  kz.length = xs.length ∧ AllAlike kz ∧ Sortable kz ∧ (∀ d, d ∈ kz → d.depth ≤ 100) ∧
  (∀ (i : Nat) x d, xs[i]? = some x → kz[i]? = some d → ∀ H', Same H H' → sp [x] H' (fun v H'' => Same H' H'' ∧ Dp K H'' v d) E0) ∧
  ∀ (H' : Hp) (p : Addr), Same H H' → H' p = none → Q (.ref p) (upd H' p (.lst (byKeys xs kz)))

theorem cr_sortKey {X : Cx} {n : Nat} {f : Addr} {sp : Sp} (F : FnR X.prog X.w X.K X.mg X.base CX0 n f sp) (hr : Room (n + 2) X.A) : CallRK X (.builtin "sorted") [Str.ofString "key"] (rSortKey X.K f sp) := by
  intro pins s σ H vs zs us ws Q I r1 r2 h
  obtain ⟨l, xs, kz, rfl, rfl, hl, hlen, hal, hsk, hdep, turn, q⟩ := h
  obtain ⟨u, rfl, ru⟩ := r1.one
  obtain ⟨y, rfl, ry⟩ := r2.one
  cases ru
  cases ry
  show wpAny (model X.prog X.w) X.A (call (.builtin "sorted") [.ref l] [(Str.ofString "key", .ref f)]) (EP X pins σ Q) X.xe s
  have sb : Sub X n X.A.in1.in1 := Sub.in1 (Sub.in1 ⟨hr, rfl⟩)
  obtain ⟨T, o, its, k, hT, ho, hc, hd, r, z⟩ : ∃ (T : String) (o : Obj) (its : List Value) (k : Nat), (T = "list" ∨ T = "tuple") ∧ s.heap.get? l = some o ∧ o.cls = .type T ∧ o.data = .seq its.toArray k ∧ Vals xs its ∧ xs.length ≤ sizeLine := by
    rcases hl with hl | hl
    · obtain ⟨its, r, ⟨o, k, ho, hc, _, hd⟩, z⟩ := I.list hl
      exact ⟨"list", o, its, k, .inl rfl, ho, hc, hd, r, z⟩
    · obtain ⟨its, r, ⟨o, ho, hc, k, hd⟩, z⟩ := I.tuple hl
      exact ⟨"tuple", o, its, k, .inr rfl, ho, hc, hd, r, z⟩
  have hsz : its.length ≤ sizeLine := by rw [← r.length]; exact z
  refine call_function_entry_kw kind_sorted plain_sorted entry_sorted (ksk_s1 _ _) ?_
  unfold Builtin.«sorted»
  refine wpAny_bind (m := checkCount "sorted" 1 1 _) (wpAny_pure ?_)
  refine wpAny_bind (wpAny_collect_seq l hT ho hc hd (fun h' hk => ?_) (by rw [List.size_toArray]; exact hsz))
  have I1 : Inv X pins σ H { s with heap := h' } := I.kept (t' := s.toks) hk
  refine wpAny_bind (wpAny_newList ?_ hsz)
  refine wpAny_bind (wpAny_holding (wpAny_call_entry_kw slot_list_sort ⟨_, Heap.get?_push_size h' rfl, rfl⟩ entry_list_sort ?body (ksk_l1 _ _)))
  case body =>
    rw [ksk_t1]
    refine sort_tree F (s := { s with heap := h' }) sb I1 r hlen z hal hsk (fun d hd => ?_) turn fun H' s' J sm hn => ?_
    · have h1 := hr.un
      have h2 := hdep d hd
      show X.A.units + 1 + 1 + d.depth < cLine
      omega
    · exact ⟨.none, rfl, wpAny_pure ⟨_, rfl, ⟨V.ref h'.objs.size, _, J, rfl, q H' _ sm hn⟩⟩⟩
end Spk

set_option Elab.async false
set_option linter.all false
set_option maxRecDepth 100000
set_option maxHeartbeats 2000000
namespace Spk
open PySem PySem.Spec PyProof.Rows PySem.W L2

/-! ## operators of a class of the program's own -/
section
variable {X : Cx} {n : Nat} {C f : Addr} {sp : Sp}

theorem relR (a : Addr) : RelV (.ref a) (.ref a) := rfl
theorem relB (b : Bool) : RelV (.bl b) (.bool b) := rfl
theorem rel_back {w : V} {r : Value} {Q : Value → Shared → Prop} {s' : Shared} (h : RelV w r) (q : Q r s') : PySem.W.CmpBack Q r s' := by
  cases w with
  | non => cases h; exact q
  | bl b => cases h; exact q
  | int i => obtain ⟨t, rfl⟩ := h; exact q
  | str x => obtain ⟨t, rfl⟩ := h; exact q
  | byt x => obtain ⟨t, rfl⟩ := h; exact q
  | flt x => obtain ⟨t, rfl⟩ := h; exact q
  | ref a => cases h; exact q
  | ty n => cases h; exact q
theorem sub0 {k : Nat} (hr : Room k X.A) : Sub X k X.A := ⟨hr, rfl⟩

/-- an instance as the library's rules want it -/
theorem inst_of {pins : List (Addr × Obj)} {s : Shared} {σ : L2.St} {H : Hp} {a dx : Addr} {fs : List (Str × V)} (I : Inv X pins σ H s) (h : H a = some (.ins C dx fs)) :
    ∃ od, InstAt s.heap a (instObj C dx) C (some od) := by
  obtain ⟨mA, O, _⟩ := ins_get I.hok h
  obtain ⟨od, J, _⟩ := O.look
  exact ⟨od, J⟩

/-- a op b, both instances of C, by C's method -/
def rBin (C : Addr) (sp : Sp) : R2 := fun x y H Q => ∃ a b dx dy fs gs, x = .ref a ∧ y = .ref b ∧ H a = some (.ins C dx fs) ∧ H b = some (.ins C dy gs) ∧ sp [.ref a, .ref b] H Q E0
theorem op_own {op : Operator} (F : FnR X.prog X.w X.K X.mg X.base CX0 n f sp) (hr : Room n X.A) (hc : selfFirst X.K C = true) (hs : findIn X.K (.ref C) (PySem.dunder op.info.2) = some (some (.ref f))) (hf : isFn X.K (.ref f) = true) :
    OpR X (binaryOp op) (rBin C sp) := by
  intro pins s σ H x y v u Q I rx ry h
  obtain ⟨a, b, dx, dy, fs, gs, rfl, rfl, ha, hb, q⟩ := h
  cases rx
  cases ry
  obtain ⟨oa, ja⟩ := inst_of I ha
  obtain ⟨ob, jb⟩ := inst_of I hb
  obtain ⟨m, hF⟩ := I.fr
  refine binop_K hF I.ok.mod.kin ja jb.type hc hs hf ?_
  refine wpAny_mono (call_at F (sub0 hr) I (.cons (relR _) (.cons (relR _) .nil)) q) (fun r s' z => ?_) fun _ _ z => z
  obtain ⟨w, H', I', rw', q'⟩ := id z
  exact rel_back rw' z

/-- ~a -/
def rUno (C : Addr) (sp : Sp) : V → Hp → VK → Prop := fun x H Q => ∃ a dx fs, x = .ref a ∧ H a = some (.ins C dx fs) ∧ sp [.ref a] H Q E0
theorem un_own (F : FnR X.prog X.w X.K X.mg X.base CX0 n f sp) (hr : Room n X.A) (hs : findIn X.K (.ref C) "__invert__" = some (some (.ref f))) (hf : isFn X.K (.ref f) = true) :
    UnR X (unaryOp .Invert) (rUno C sp) := by
  intro pins s σ H x v Q I rx h
  obtain ⟨a, dx, fs, rfl, ha, q⟩ := h
  cases rx
  obtain ⟨oa, ja⟩ := inst_of I ha
  obtain ⟨m, hF⟩ := I.fr
  exact ksp_inv hF I.ok.mod.kin ja hs hf (call_at F (sub0 hr) I (.cons (relR _) .nil) q)

/-- x in a, x not in a -/
def rInO (C : Addr) (sp : Sp) (neg : Bool) : R2 := fun x y H Q => ∃ b dy gs, y = .ref b ∧ H b = some (.ins C dy gs) ∧ sp [.ref b, x] H (fun v H' => ∃ k, v = .bl k ∧ Q (.bl (if neg then !k else k)) H') E0
theorem op_inO (F : FnR X.prog X.w X.K X.mg X.base CX0 n f sp) (hr : Room n X.A) (hs : findIn X.K (.ref C) "__contains__" = some (some (.ref f))) (hf : isFn X.K (.ref f) = true) :
    OpR X (compareOp .In) (rInO C sp false) := by
  intro pins s σ H x y v u Q I rx ry h
  obtain ⟨b, dy, gs, rfl, hb, q⟩ := h
  cases ry
  obtain ⟨ob, jb⟩ := inst_of I hb
  obtain ⟨m, hF⟩ := I.fr
  refine in_K hF I.ok.mod.kin jb hs hf ?_
  refine wpAny_mono (call_at F (sub0 hr) I (.cons (relR _) (.cons rx .nil)) q) (fun r s' z => ?_) fun _ _ z => z
  obtain ⟨w, H', I', rw', k, rfl, q'⟩ := z
  cases rw'
  exact wpAny_truthy_bool ⟨_, H', I', relB _, q'⟩
theorem op_notInO (F : FnR X.prog X.w X.K X.mg X.base CX0 n f sp) (hr : Room n X.A) (hs : findIn X.K (.ref C) "__contains__" = some (some (.ref f))) (hf : isFn X.K (.ref f) = true) :
    OpR X (compareOp .NotIn) (rInO C sp true) := by
  intro pins s σ H x y v u Q I rx ry h
  obtain ⟨b, dy, gs, rfl, hb, q⟩ := h
  cases ry
  obtain ⟨ob, jb⟩ := inst_of I hb
  obtain ⟨m, hF⟩ := I.fr
  refine notIn_K hF I.ok.mod.kin jb hs hf ?_
  refine wpAny_mono (call_at F (sub0 hr) I (.cons (relR _) (.cons rx .nil)) q) (fun r s' z => ?_) fun _ _ z => z
  obtain ⟨w, H', I', rw', k, rfl, q'⟩ := z
  cases rw'
  exact wpAny_truthy_bool ⟨_, H', I', relB _, q'⟩

/-- a == y, a an instance of C with its own ==, y anything of a known type that is no subclass of C -/
def rEqO (K : Frag) (C : Addr) (sp : Sp) : R2 := fun x y H Q => ∃ a dx fs t, x = .ref a ∧ H a = some (.ins C dx fs) ∧ TyX K H y t ∧ notFirst K C t = true ∧ sp [.ref a, y] H (fun v H' => ∃ k, v = .bl k ∧ Q (.bl k) H') E0
theorem op_eqO (F : FnR X.prog X.w X.K X.mg X.base CX0 n f sp) (hr : Room n X.A) (hs : findIn X.K (.ref C) "__eq__" = some (some (.ref f))) (hf : isFn X.K (.ref f) = true) :
    OpR X (compareOp .Eq) (rEqO X.K C sp) := by
  intro pins s σ H x y v u Q I rx ry h
  obtain ⟨a, dx, fs, t, rfl, ha, ty, nf, q⟩ := h
  cases rx
  obtain ⟨oa, ja⟩ := inst_of I ha
  obtain ⟨m, hF⟩ := I.fr
  obtain ⟨P, kx, hp, _⟩ := kit_of I ry ty
  show wpAny (model X.prog X.w) X.A (richCompare .Eq (.ref a) u) (EP X pins σ Q) X.xe s
  refine cmp_K (op := .Eq) hr.units0 hF I.ok.mod.kin ja (kx.ty _ _ I.kIn hp) nf hs hf ?_
  refine wpAny_mono (call_at F (sub0 hr) I (.cons (relR _) (.cons ry .nil)) q) (fun r s' z => ?_) fun _ _ z => z
  obtain ⟨w, H', I', rw', k, rfl, q'⟩ := z
  cases rw'
  exact ⟨_, H', I', relB _, q'⟩

/-! ### a != y: object.__ne__ turns the own == round -/
theorem ifBoundB {M : Model} {A : Around} {E : Value → Shared → Prop} {s : Shared} {K : Frag} {x : Addr} {ox : Obj} {od : Option Obj} {name : Str} {id : String} {args : List Value} {Q : Option Value → Shared → Prop} (Xk : K.In s.heap) (I : InstAt s.heap x ox C od)
    (hs : findIn K (.ref C) name = some (some (.builtin id))) (hb : ∀ self, bindSpecial (.builtin id) self = pure (.builtin id, [self]))
    (h : wpAny M A (call (.builtin id) (.ref x :: args)) (fun v => Q (some v)) E s) : wpAny M A (callSpecialIfBound? (.ref x) name args) Q E s := by
  simp only [callSpecialIfBound?, bindSpecialIfBound?]
  refine wpAny_holding (wpAny_bind (wpAny_bind (wpAny_bind (I.type.here ((looks_findIn Xk hs).here ?_)))))
  simp only [hb]
  have fin : wpAny M A (call (.builtin id) ([.ref x] ++ args) >>= fun v => pure (some v)) Q E s :=
    wpAny_bind (wpAny_mono h (fun v s' z => wpAny_pure z) fun _ _ z => z)
  refine wpAny_bind (wpAny_askSetting (wpAny_ite ?_))
  split
  · exact wpAny_bind (wpAny_pure (wpAny_pure fin))
  · exact wpAny_tryCatch (wpAny_bind (wpAny_pure (wpAny_pure fin)))

theorem call_ne {pins : List (Addr × Obj)} {s : Shared} {σ : L2.St} {H : Hp} {a dx : Addr} {fs : List (Str × V)} {y : V} {u : Value} {Q : VK} {E : Value → Shared → Prop} {A : Around} (F : FnR X.prog X.w X.K X.mg X.base CX0 n f sp) (sb : Sub X (n + 1) A)
    (hs : findIn X.K (.ref C) "__eq__" = some (some (.ref f))) (hf : isFn X.K (.ref f) = true) (hob : subIn X.K (.ref C) (.type "object") = some true)
    (I : Inv X pins σ H s) (ha : H a = some (.ins C dx fs)) (ry : RelV y u) (q : sp [.ref a, y] H (fun v H' => ∃ k, v = .bl k ∧ Q (.bl (!k)) H') E0) :
    wpAny (model X.prog X.w) A (call (.builtin "object.__ne__") [.ref a, u]) (EP X pins σ fun v H' => (∃ k, v = .bl k) ∧ Q v H') E s := by
  obtain ⟨oa, ja⟩ := inst_of I ha
  have li : Looks (model X.prog X.w) s.heap (isInstance (.ref a) (.type "object")) true := ja.type.andThen (looks_subIn I.kIn hob)
  refine wpAny_call (codeAny_call_builtin PySem.F.cmp_object.ne.plain PySem.F.cmpEntry_ne (check_slot PySem.F.cmpKind_ne PySem.F.cmpSplit_ne li (PySem.F.cmpArgs_ne _ _) ?_))
  have body : wpAny (model X.prog X.w) A.in1 (Builtin.«object.__ne__» ⟨[.ref a, u], []⟩) (fun fin s' => ∃ v, fin = .done (.ret v) ∧ EP X pins σ (fun v H' => (∃ k, v = .bl k) ∧ Q v H') v s') (fun _ _ => False) s := by
    unfold Builtin.«object.__ne__»
    have hu : A.in1.units < cLine := sb.in1.room.units0
    refine wpAny_bind (wpAny_pure ?_)
    dsimp only
    refine wpAny_bind (wpAny_cRoomFor hu ?_)
    refine wpAny_bind (ifBound_K I.kIn ja hs hf (wpAny_mono (call_at F sb.in1 I (.cons (relR _) (.cons ry .nil)) q) (fun r s' z => ?_) fun _ _ z => z))
    obtain ⟨w, H', I', rw', k, rfl, q'⟩ := z
    cases rw'
    dsimp only
    refine wpAny_bind (wpAny_truthy_bool ?_)
    exact wpAny_pure ⟨_, rfl, _, H', I', relB _, ⟨_, rfl⟩, q'⟩
  refine wpAny_mono body (fun fin s' z => ?_) fun _ _ z => z.elim
  obtain ⟨v, rfl, z⟩ := z
  exact z
end
end Spk

set_option Elab.async false
set_option linter.all false
set_option maxRecDepth 100000
set_option maxHeartbeats 2000000
namespace Spk
open PySem PySem.Spec PyProof.Rows PySem.W L2
open AutoSeq1 (wpAny_loadPart')
open MeetsSeq MeetsSeq2 MeetsSeq3 SeqRoads2

/-! ## built-in == and != decline an instance of an own class -/
section
variable {prog : Program} {w : World} {x C dx : Addr}
theorem int_eq_dec (b : Int) (u : Tok) : Meets (Builtin.«int.__eq__» ⟨[.int b u, .ref x], []⟩) (fun _ R s => s.heap.get? x = some (instObj C dx) ∧ R (.ok (.ret .notImplemented)) s) :=
  .of_wp fun prog w A R s h => by obtain ⟨hp, g, d, tk, os⟩ := s; obtain ⟨hl, h⟩ := h; unfold instObj at hl; wp_walk using wpAny_loadPart' hl, wpAny_load hl; exact ⟨_, rfl, h⟩
theorem int_ne_dec (b : Int) (u : Tok) : Meets (Builtin.«int.__ne__» ⟨[.int b u, .ref x], []⟩) (fun _ R s => s.heap.get? x = some (instObj C dx) ∧ R (.ok (.ret .notImplemented)) s) :=
  .of_wp fun prog w A R s h => by obtain ⟨hp, g, d, tk, os⟩ := s; obtain ⟨hl, h⟩ := h; unfold instObj at hl; wp_walk using wpAny_loadPart' hl, wpAny_load hl; exact ⟨_, rfl, h⟩
theorem bool_eq_dec (b : Bool) : Meets (Builtin.«int.__eq__» ⟨[.bool b, .ref x], []⟩) (fun _ R s => s.heap.get? x = some (instObj C dx) ∧ R (.ok (.ret .notImplemented)) s) :=
  .of_wp fun prog w A R s h => by obtain ⟨hp, g, d, tk, os⟩ := s; obtain ⟨hl, h⟩ := h; unfold instObj at hl; wp_walk using wpAny_loadPart' hl, wpAny_load hl; exact ⟨_, rfl, h⟩
theorem bool_ne_dec (b : Bool) : Meets (Builtin.«int.__ne__» ⟨[.bool b, .ref x], []⟩) (fun _ R s => s.heap.get? x = some (instObj C dx) ∧ R (.ok (.ret .notImplemented)) s) :=
  .of_wp fun prog w A R s h => by obtain ⟨hp, g, d, tk, os⟩ := s; obtain ⟨hl, h⟩ := h; unfold instObj at hl; wp_walk using wpAny_loadPart' hl, wpAny_load hl; exact ⟨_, rfl, h⟩
theorem str_eq_dec (b : Str) (u : Tok) : Meets (Builtin.«str.__eq__» ⟨[.str b u, .ref x], []⟩) (fun _ R s => s.heap.get? x = some (instObj C dx) ∧ R (.ok (.ret .notImplemented)) s) :=
  .of_wp fun prog w A R s h => by obtain ⟨hp, g, d, tk, os⟩ := s; obtain ⟨hl, h⟩ := h; unfold instObj at hl; wp_walk using wpAny_loadPart' hl, wpAny_load hl; exact ⟨_, rfl, h⟩
theorem str_ne_dec (b : Str) (u : Tok) : Meets (Builtin.«str.__ne__» ⟨[.str b u, .ref x], []⟩) (fun _ R s => s.heap.get? x = some (instObj C dx) ∧ R (.ok (.ret .notImplemented)) s) :=
  .of_wp fun prog w A R s h => by obtain ⟨hp, g, d, tk, os⟩ := s; obtain ⟨hl, h⟩ := h; unfold instObj at hl; wp_walk using wpAny_loadPart' hl, wpAny_load hl; exact ⟨_, rfl, h⟩
end

/-- values of built-in kinds that an instance is compared with -/
inductive Odd (H : Hp) : V → String → Prop where
  | non : Odd H .non "NoneType"
  | bl (b : Bool) : Odd H (.bl b) "bool"
  | int (i : Int) : Odd H (.int i) "int"
  | str (x : Str) : Odd H (.str x) "str"
  | lst {a : Addr} {xs : List V} (h : H a = some (.lst xs)) : Odd H (.ref a) "list"
  | tup {a : Addr} {xs : List V} (h : H a = some (.tup xs)) : Odd H (.ref a) "tuple"
theorem Odd.ty {K : Frag} {H : Hp} {y : V} {T : String} (h : Odd H y T) : TyX K H y (.type T) := by
  cases h with
  | non => exact .base .non
  | bl b => exact .base (.bl b)
  | int i => exact .base (.int i)
  | str x => exact .base (.str x)
  | lst h => exact .base (.lst h)
  | tup h => exact .base (.tup h)

/-- what the text says of a class: it is over no built-in type -/
structure Bare (K : Frag) (C : Addr) : Prop where
  o : subIn K (.ref C) (.type "object") = some true
  n : subIn K (.ref C) (.type "NoneType") = some false
  b : subIn K (.ref C) (.type "bool") = some false
  i : subIn K (.ref C) (.type "int") = some false
  s : subIn K (.ref C) (.type "str") = some false
  l : subIn K (.ref C) (.type "list") = some false
  t : subIn K (.ref C) (.type "tuple") = some false
theorem Bare.odd {K : Frag} {C : Addr} {H : Hp} {y : V} {T : String} (B : Bare K C) (h : Odd H y T) : subIn K (.ref C) (.type T) = some false := by
  cases h with
  | non => exact B.n
  | bl b => exact B.b
  | int i => exact B.i
  | str x => exact B.s
  | lst h => exact B.l
  | tup h => exact B.t

section
variable {X : Cx} {pins : List (Addr × Obj)} {s : Shared} {σ : L2.St} {H : Hp} {a C dx : Addr} {fs : List (Str × V)} {y : V} {u : Value} {T : String} {A : Around} {E : Value → Shared → Prop} {Q : Option Value → Shared → Prop}
theorem list_dec {l : Addr} {T : String} {name : Str} {id : String} {B : Builtin} (I : Inv X pins σ H s) (ha : H a = some (.ins C dx fs)) (hno : subIn X.K (.ref C) (.type T) = some false) (slot : Slot T name id) (hT : s.TypeIs (.ref l) T)
    (entry : entryFor table id = some B) (args : argsOk id ⟨[.ref l, .ref a], []⟩)
    (hB : ∀ (A : Around) (P : PySem.Fin → Shared → Prop) (E : Value → Shared → Prop), Looks (model X.prog X.w) s.heap (isInstance (.ref a) (.type T)) false → P (.done (.ret .notImplemented)) s → wpAny (model X.prog X.w) A (B ⟨[.ref l, .ref a], []⟩) P E s)
    (q : Q none s) : wpAny (model X.prog X.w) A (tryCompare (.ref l) name (.ref a)) Q E s := by
  obtain ⟨oa, ja⟩ := inst_of I ha
  have li : Looks (model X.prog X.w) s.heap (isInstance (.ref a) (.type T)) false := ja.type.andThen (looks_subIn I.kIn hno)
  refine wpAny_tryCompare_declines hT slot ?_
  refine GQ.call_here slot hT entry args ?_
  exact hB _ _ _ li ⟨rfl, q⟩
theorem try_dec_eq (B : Bare X.K C) (I : Inv X pins σ H s) (ha : H a = some (.ins C dx fs)) (o : Odd H y T) (ry : RelV y u) (q : Q none s) : wpAny (model X.prog X.w) A (tryCompare u "__eq__" (.ref a)) Q E s := by
  obtain ⟨oa, ja⟩ := inst_of I ha
  cases o with
  | non =>
    cases ry
    exact wpAny_tryCompare_declines (T := "NoneType") rfl PySem.F.slot_NoneType_eq (call_gives PySem.F.slot_NoneType_eq rfl PySem.F.entry_NoneType_eq (PySem.F.args_NoneType_eq_2 _ _) (SeqAt.NoneType___eq___none_ref_0 a) (show _ ∧ _ from ⟨rfl, q⟩))
  | bl b =>
    cases ry
    exact wpAny_tryCompare_declines (T := "bool") rfl PySem.F.slot_bool_eq (call_meets PySem.F.slot_bool_eq rfl PySem.F.entry_int_eq (PySem.F.args_int_eq_2 _ _) (bool_eq_dec (C := C) (dx := dx) b) ⟨ja.at_, rfl, q⟩)
  | int i =>
    obtain ⟨t, rfl⟩ := ry
    exact wpAny_tryCompare_declines (T := "int") (typeIs_int s i t) PySem.F.slot_int_eq (call_meets PySem.F.slot_int_eq (typeIs_int s i t) PySem.F.entry_int_eq (PySem.F.args_int_eq_2 _ _) (int_eq_dec (C := C) (dx := dx) i t) ⟨ja.at_, rfl, q⟩)
  | str x =>
    obtain ⟨t, rfl⟩ := ry
    exact wpAny_tryCompare_declines (T := "str") (typeIs_str s x t) PySem.F.slot_str_eq (call_meets PySem.F.slot_str_eq (typeIs_str s x t) PySem.F.entry_str_eq (PySem.F.args_str_eq_2 _ _) (str_eq_dec (C := C) (dx := dx) x t) ⟨ja.at_, rfl, q⟩)
  | lst h =>
    cases ry
    obtain ⟨_, its, k, _, e⟩ := (show ObjOk X.prog X.w H s.heap _ (.lst _) from I.hok _ _ h)
    refine list_dec I ha B.l PySem.F.slot_list_eq ⟨_, e, rfl⟩ PySem.F.entry_list_eq (PySem.F.args_list_eq_2 _ _) (fun A P E li q => ?_) q
    obtain ⟨hp, g, d, tk, os⟩ := s
    wp_walk using li.here
    exact q
  | tup h =>
    cases ry
    obtain ⟨_, its, _, o, e, c⟩ := (show ObjOk X.prog X.w H s.heap _ (.tup _) from I.hok _ _ h)
    refine list_dec I ha B.t PySem.F.slot_tuple_eq ⟨_, e, c.1⟩ PySem.F.entry_tuple_eq (PySem.F.args_tuple_eq_2 _ _) (fun A P E li q => ?_) q
    obtain ⟨hp, g, d, tk, os⟩ := s
    wp_walk using li.here
    exact q
theorem try_dec_ne (B : Bare X.K C) (I : Inv X pins σ H s) (ha : H a = some (.ins C dx fs)) (o : Odd H y T) (ry : RelV y u) (q : Q none s) : wpAny (model X.prog X.w) A (tryCompare u "__ne__" (.ref a)) Q E s := by
  obtain ⟨oa, ja⟩ := inst_of I ha
  cases o with
  | non =>
    cases ry
    exact wpAny_tryCompare_declines (T := "NoneType") rfl PySem.F.slot_NoneType_ne (call_gives PySem.F.slot_NoneType_ne rfl PySem.F.entry_NoneType_ne (PySem.F.args_NoneType_ne_2 _ _) (SeqAt.NoneType___ne___none_ref_0 a) (show _ ∧ _ from ⟨rfl, q⟩))
  | bl b =>
    cases ry
    exact wpAny_tryCompare_declines (T := "bool") rfl PySem.F.slot_bool_ne (call_meets PySem.F.slot_bool_ne rfl PySem.F.entry_int_ne (PySem.F.args_int_ne_2 _ _) (bool_ne_dec (C := C) (dx := dx) b) ⟨ja.at_, rfl, q⟩)
  | int i =>
    obtain ⟨t, rfl⟩ := ry
    exact wpAny_tryCompare_declines (T := "int") (typeIs_int s i t) PySem.F.slot_int_ne (call_meets PySem.F.slot_int_ne (typeIs_int s i t) PySem.F.entry_int_ne (PySem.F.args_int_ne_2 _ _) (int_ne_dec (C := C) (dx := dx) i t) ⟨ja.at_, rfl, q⟩)
  | str x =>
    obtain ⟨t, rfl⟩ := ry
    exact wpAny_tryCompare_declines (T := "str") (typeIs_str s x t) PySem.F.slot_str_ne (call_meets PySem.F.slot_str_ne (typeIs_str s x t) PySem.F.entry_str_ne (PySem.F.args_str_ne_2 _ _) (str_ne_dec (C := C) (dx := dx) x t) ⟨ja.at_, rfl, q⟩)
  | lst h =>
    cases ry
    obtain ⟨_, its, k, _, e⟩ := (show ObjOk X.prog X.w H s.heap _ (.lst _) from I.hok _ _ h)
    refine list_dec I ha B.l PySem.F.slot_list_ne ⟨_, e, rfl⟩ PySem.F.entry_list_ne (PySem.F.args_list_ne_2 _ _) (fun A P E li q => ?_) q
    obtain ⟨hp, g, d, tk, os⟩ := s
    wp_walk using li.here
    exact q
  | tup h =>
    cases ry
    obtain ⟨_, its, _, o, e, c⟩ := (show ObjOk X.prog X.w H s.heap _ (.tup _) from I.hok _ _ h)
    refine list_dec I ha B.t PySem.F.slot_tuple_ne ⟨_, e, c.1⟩ PySem.F.entry_tuple_ne (PySem.F.args_tuple_ne_2 _ _) (fun A P E li q => ?_) q
    obtain ⟨hp, g, d, tk, os⟩ := s
    wp_walk using li.here
    exact q
end

/-! ### the comparison itself -/
section
variable {X : Cx} {n : Nat} {C f : Addr} {sp : Sp}
theorem rc_right {op : CmpOp} {M : Model} {A : Around} {E : Value → Shared → Prop} {s : Shared} {u b : Value} {T : String} {Q : Value → Shared → Prop} (h1 : oneThing? op u b = none) (hu : A.units < cLine)
    (lu : Looks M s.heap (typeOf u) (.type T)) (lb : Looks M s.heap (typeOf b) (.ref C)) (ls : Looks M s.heap (isSubtype (.ref C) (.type T)) false)
    (d : ∀ Q' : Option Value → Shared → Prop, Q' none s → wpAny M A (tryCompare u (cmpInfo op).2.1 b) Q' E s)
    (h : wpAny M A (tryCompare b (cmpInfo op).2.2 u) (fun r s' => ∃ v, r = some v ∧ Q v s') E s) : wpAny M A (richCompare op u b) Q E s := by
  unfold richCompare
  simp only [h1]
  refine wpAny_holding (wpAny_bind (wpAny_cRoomFor hu ?_))
  refine wpAny_bind (lu.here (wpAny_bind (lb.here ?_)))
  rw [if_pos (by simp)]
  refine wpAny_bind (ls.here ?_)
  simp only [Bool.false_eq_true, if_false]
  refine wpAny_bind (d _ ?_)
  simp only [Bool.not_false, if_true]
  refine wpAny_bind (wpAny_mono h (fun r s' z => ?_) fun _ _ z => z)
  obtain ⟨v, rfl, q⟩ := z
  exact wpAny_pure q
theorem rc_left {op : CmpOp} {M : Model} {A : Around} {E : Value → Shared → Prop} {s : Shared} {a b tb : Value} {Q : Value → Shared → Prop} (h1 : oneThing? op a b = none) (hu : A.units < cLine)
    (la : Looks M s.heap (typeOf a) (.ref C)) (lb : Looks M s.heap (typeOf b) tb) (ls : tb = .ref C ∨ Looks M s.heap (isSubtype tb (.ref C)) false)
    (h : wpAny M A (tryCompare a (cmpInfo op).2.1 b) (fun r s' => ∃ v, r = some v ∧ Q v s') E s) : wpAny M A (richCompare op a b) Q E s := by
  unfold richCompare
  simp only [h1]
  refine wpAny_holding (wpAny_bind (wpAny_cRoomFor hu ?_))
  refine wpAny_bind (la.here (wpAny_bind (lb.here ?_)))
  have go : ∀ k : Sem Bool, Looks M s.heap k false → wpAny M A (do
      let rightFirst ← k
      if rightFirst then
        if let some v ← tryCompare b (cmpInfo op).2.2 a then rule "compare.subclass-reflected-first"; return v
      if let some v ← tryCompare a (cmpInfo op).2.1 b then return v
      if !rightFirst then
        if let some v ← tryCompare b (cmpInfo op).2.2 a then return v
      match op with
      | .Eq => rule "compare.eq-identity"; return .bool (← isSame a b)
      | .NotEq => rule "compare.ne-identity"; return .bool (!(← isSame a b))
      | _ =>
        rule "compare.unsupported"
        raiseError "TypeError" s!"'{(cmpInfo op).1}' not supported between instances of '{← typeNameOf a}' and '{← typeNameOf b}'") Q E s := by
    intro k lk
    refine wpAny_bind (lk.here ?_)
    simp only [Bool.false_eq_true, if_false]
    refine wpAny_bind (wpAny_mono h (fun r s' z => ?_) fun _ _ z => z)
    obtain ⟨v, rfl, q⟩ := z
    exact wpAny_pure q
  rcases ls with rfl | ls
  · rw [if_neg (by simp)]
    exact go _ .now
  · by_cases e : (Value.ref C != tb) = true
    · rw [if_pos e]
      exact go _ ls
    · rw [if_neg e]
      exact go _ .now

theorem try_ne {pins : List (Addr × Obj)} {s : Shared} {σ : L2.St} {H : Hp} {a dx : Addr} {fs : List (Str × V)} {y : V} {u : Value} {Q : VK} {E : Value → Shared → Prop} (F : FnR X.prog X.w X.K X.mg X.base CX0 n f sp) (hr : Room (n + 1) X.A)
    (hs : findIn X.K (.ref C) "__eq__" = some (some (.ref f))) (hn : findIn X.K (.ref C) "__ne__" = some (some (.builtin "object.__ne__"))) (hf : isFn X.K (.ref f) = true) (B : Bare X.K C)
    (I : Inv X pins σ H s) (ha : H a = some (.ins C dx fs)) (ry : RelV y u) (q : sp [.ref a, y] H (fun v H' => ∃ k, v = .bl k ∧ Q (.bl (!k)) H') E0) :
    wpAny (model X.prog X.w) X.A (tryCompare (.ref a) "__ne__" u) (fun r s' => ∃ v, r = some v ∧ EP X pins σ Q v s') E s := by
  obtain ⟨oa, ja⟩ := inst_of I ha
  unfold tryCompare
  refine wpAny_bind (ifBoundB I.kIn ja hn PySem.F.cmp_object.ne.bind (wpAny_mono (call_ne F (sub0 hr) hs hf B.o I ha ry q) (fun v s' z => ?_) fun _ _ z => z))
  obtain ⟨w, H', I', rw', ⟨k, rfl⟩, q'⟩ := z
  cases rw'
  exact wpAny_pure ⟨_, rfl, _, H', I', relB _, q'⟩

/-- what the text says of a class with its own == and none of the other comparisons -/
structure OwnEq (K : Frag) (C f : Addr) : Prop where
  eq : findIn K (.ref C) "__eq__" = some (some (.ref f))
  ne : findIn K (.ref C) "__ne__" = some (some (.builtin "object.__ne__"))
  fn : isFn K (.ref f) = true
  bare : Bare K C

/-- a != y, a an instance of C -/
def rNeO (K : Frag) (C : Addr) (sp : Sp) : R2 := fun x y H Q => ∃ a dx fs t, x = .ref a ∧ H a = some (.ins C dx fs) ∧ TyX K H y t ∧ notFirst K C t = true ∧ sp [.ref a, y] H (fun v H' => ∃ k, v = .bl k ∧ Q (.bl (!k)) H') E0
theorem op_neO (F : FnR X.prog X.w X.K X.mg X.base CX0 n f sp) (hr : Room (n + 1) X.A) (O : OwnEq X.K C f) : OpR X (compareOp .NotEq) (rNeO X.K C sp) := by
  intro pins s σ H x y v u Q I rx ry h
  obtain ⟨a, dx, fs, t, rfl, ha, ty, nf, q⟩ := h
  cases rx
  obtain ⟨oa, ja⟩ := inst_of I ha
  obtain ⟨P, kx, hp, _⟩ := kit_of I ry ty
  show wpAny (model X.prog X.w) X.A (richCompare .NotEq (.ref a) u) (EP X pins σ Q) X.xe s
  refine rc_left (op := .NotEq) (C := C) (tb := t) (oneThing_ref ..) hr.units0 ja.type (kx.ty _ _ I.kIn hp) ?_ (try_ne F hr O.eq O.ne O.fn O.bare I ha ry q)
  rcases Bool.or_eq_true_iff.mp nf with e | e
  · exact .inl (beq_iff_eq.mp e)
  · exact .inr (looks_subIn I.kIn (beq_iff_eq.mp e))

/-- y == a, y != a, y of a built-in kind, a an instance of C -/
def rEqR (K : Frag) (C : Addr) (sp : Sp) : R2 := fun y x H Q => ∃ a dx fs T, x = .ref a ∧ H a = some (.ins C dx fs) ∧ Odd H y T ∧ sp [.ref a, y] H (fun v H' => ∃ k, v = .bl k ∧ Q (.bl k) H') E0
def rNeR (K : Frag) (C : Addr) (sp : Sp) : R2 := fun y x H Q => ∃ a dx fs T, x = .ref a ∧ H a = some (.ins C dx fs) ∧ Odd H y T ∧ sp [.ref a, y] H (fun v H' => ∃ k, v = .bl k ∧ Q (.bl (!k)) H') E0
theorem one_odd {op : CmpOp} {H : Hp} {y : V} {T : String} {u : Value} {a : Addr} (o : Odd H y T) (ry : RelV y u) : oneThing? op u (.ref a) = none := by
  cases o with
  | non => cases ry; rfl
  | bl b => cases ry; rfl
  | int i => obtain ⟨t, rfl⟩ := ry; rfl
  | str x => obtain ⟨t, rfl⟩ := ry; rfl
  | lst h => cases ry; exact oneThing_ref ..
  | tup h => cases ry; exact oneThing_ref ..
theorem op_eqR (F : FnR X.prog X.w X.K X.mg X.base CX0 n f sp) (hr : Room (n + 1) X.A) (O : OwnEq X.K C f) : OpR X (compareOp .Eq) (rEqR X.K C sp) := by
  intro pins s σ H y x u v Q I ry rx h
  obtain ⟨a, dx, fs, T, rfl, ha, o, q⟩ := h
  cases rx
  obtain ⟨oa, ja⟩ := inst_of I ha
  obtain ⟨P, kx, hp, _⟩ := kit_of I ry (o.ty (K := X.K))
  show wpAny (model X.prog X.w) X.A (richCompare .Eq u (.ref a)) (EP X pins σ Q) X.xe s
  refine rc_right (op := .Eq) (C := C) (T := T) (one_odd o ry) hr.units0 (kx.ty _ _ I.kIn hp) ja.type (looks_subIn I.kIn (O.bare.odd o)) (fun Q' z => try_dec_eq O.bare I ha o ry z) ?_
  unfold tryCompare
  refine wpAny_bind (ifBound_K I.kIn ja O.eq O.fn (wpAny_mono (call_at F (sub0 (hr.mono (Nat.le_succ _))) I (.cons (relR _) (.cons ry .nil)) q) (fun r s' z => ?_) fun _ _ z => z))
  obtain ⟨w, H', I', rw', k, rfl, q'⟩ := z
  cases rw'
  exact wpAny_pure ⟨_, rfl, _, H', I', relB _, q'⟩
theorem op_neR (F : FnR X.prog X.w X.K X.mg X.base CX0 n f sp) (hr : Room (n + 1) X.A) (O : OwnEq X.K C f) : OpR X (compareOp .NotEq) (rNeR X.K C sp) := by
  intro pins s σ H y x u v Q I ry rx h
  obtain ⟨a, dx, fs, T, rfl, ha, o, q⟩ := h
  cases rx
  obtain ⟨oa, ja⟩ := inst_of I ha
  obtain ⟨P, kx, hp, _⟩ := kit_of I ry (o.ty (K := X.K))
  show wpAny (model X.prog X.w) X.A (richCompare .NotEq u (.ref a)) (EP X pins σ Q) X.xe s
  exact rc_right (op := .NotEq) (C := C) (T := T) (one_odd o ry) hr.units0 (kx.ty _ _ I.kIn hp) ja.type (looks_subIn I.kIn (O.bare.odd o)) (fun Q' z => try_dec_ne O.bare I ha o ry z) (try_ne F hr O.eq O.ne O.fn O.bare I ha ry q)
end
end Spk

set_option Elab.async false
set_option linter.all false
set_option maxRecDepth 100000
set_option maxHeartbeats 2000000
namespace Spk
open PySem PySem.Spec PyProof.Rows PySem.W L2
open PySem.Sem (wp)

/-! ## bool(t) of a tuple, bool(a) and the truth of an instance by its own __bool__ -/
theorem bool_new_in {prog : Program} {w : World} (x : Value) : MeetsIn prog w (Builtin.«bool.__new__» ⟨[.type "bool", x], []⟩)
    (fun A R s => wpAny (model prog w) A.in1 (truthy x) (fun b s' => R (.ok (.ret (.bool b))) s') (fun e s' => R (.error e) s') s) := fun A R s h => by
  have f1 := F.conv_sub_bool
  obtain ⟨hp, g, d, tk, os⟩ := s
  repeat (any_goals (first | assumption | (with_reducible refine wpAny_bind (m := truthy x) (wpAny_mono h (fun b s' z => ?_) fun _ _ z => z)) | wp_step))
  all_goals first | exact ⟨_, rfl, z⟩ | exact z | skip

section
variable {X : Cx} {n : Nat} {C f : Addr} {sp : Sp}
theorem call_bool_by {A : Around} {E : Value → Shared → Prop} {s : Shared} {x : Value} {Q : Value → Shared → Prop} (h : wpAny (model X.prog X.w) A.in1.in1 (truthy x) (fun b s' => Q (.bool b) s') E s) :
    wpAny (model X.prog X.w) A (call (.type "bool") [x]) Q E s :=
  callType_newIn PySem.F.called_bool PySem.F.newNe_bool (PySem.F.typeCall_bool_1 x) (PySem.F.newCall_bool_1 x) (fun obj => PySem.F.args_object_init_2 obj x) PySem.F.entry_bool_new (bool_new_in x)
    (wpAny_mono h (fun b s' z => ⟨rfl, z⟩) fun _ _ z => z)

/-- bool(t), t a tuple -/
theorem call_boolT : CallR X (.type "bool") (fun xs H Q => ∃ (a : Addr) (zs : List V), xs = [.ref a] ∧ SqT X.K H a zs ∧ Q (.bl (!zs.isEmpty)) H) := by
  intro pins s σ H xs us Q I r h
  obtain ⟨a, zs, rfl, hq, q⟩ := h
  obtain rfl := Vals.ref1 r
  obtain ⟨its, rv, pl, hz⟩ := I.tuple hq
  have hl := line63
  have hlen := rv.length
  refine call_bool_by (truthy_tuple pl (by simp only [List.size_toArray]; omega) ?_)
  exact ⟨.bl (!zs.isEmpty), H, I.tok _, by rw [isEmpty_of rv]; rfl, q⟩

/-- the truth of an instance of C -/
def rTruO (C : Addr) (sp : Sp) : V → Hp → (Bool → Hp → Prop) → Prop := fun x H Q => ∃ a dx fs, x = .ref a ∧ H a = some (.ins C dx fs) ∧ sp [.ref a] H (fun v H' => ∃ k, v = .bl k ∧ Q k H') E0
theorem truthy_own {A : Around} {E : Value → Shared → Prop} {pins : List (Addr × Obj)} {s : Shared} {σ : L2.St} {H : Hp} {x : V} {u : Value} {Q : Bool → Hp → Prop} (F : FnR X.prog X.w X.K X.mg X.base CX0 n f sp) (sb : Sub X n A)
    (hs : findIn X.K (.ref C) "__bool__" = some (some (.ref f))) (hf : isFn X.K (.ref f) = true) (I : Inv X pins σ H s) (rx : RelV x u) (h : rTruO C sp x H Q) : wpAny (model X.prog X.w) A (truthy u) (TP X pins σ Q) E s := by
  obtain ⟨a, dx, fs, rfl, ha, q⟩ := h
  cases rx
  obtain ⟨oa, ja⟩ := inst_of I ha
  obtain ⟨m, hF⟩ := I.fr
  refine truthy_K hF I.ok.mod.kin ja hs hf (wpAny_mono (call_at F sb I (.cons (relR _) .nil) q) (fun r s' z => ?_) fun _ _ z => z)
  obtain ⟨w, H', I', rw', k, rfl, q'⟩ := z
  cases rw'
  exact ⟨H', I', q'⟩
/-- bool(a) -/
theorem call_boolO (F : FnR X.prog X.w X.K X.mg X.base CX0 n f sp) (hr : Room (n + 2) X.A) (hs : findIn X.K (.ref C) "__bool__" = some (some (.ref f))) (hf : isFn X.K (.ref f) = true) :
    CallR X (.type "bool") (fun xs H Q => ∃ x, xs = [x] ∧ rTruO C sp x H (fun k H' => Q (.bl k) H')) := by
  intro pins s σ H xs us Q I r h
  obtain ⟨x, rfl, h⟩ := h
  obtain ⟨u, rfl, ru⟩ := r.one
  refine call_bool_by (wpAny_mono (truthy_own F (Sub.in1 (Sub.in1 (sub0 hr))) hs hf I ru h) (fun b s' z => ?_) fun _ _ z => z)
  obtain ⟨H', I', q'⟩ := z
  exact ⟨_, H', I', relB _, q'⟩
end
end Spk

set_option linter.all false
namespace Spk
abbrev Stc := Option Int × Option Int
def has1 (s : Stc) (n : Int) : Bool := (match s.1 with | none => true | some l => decide (l ≤ n)) && (match s.2 with | none => true | some h => decide (n ≤ h))
def hasL (ss : List Stc) (n : Int) : Bool := ss.any fun s => has1 s n
def NE (s : Stc) : Prop := ∀ l h, s.1 = some l → s.2 = some h → l ≤ h
def Apart (a b : Stc) : Prop := ∃ h l, a.2 = some h ∧ b.1 = some l ∧ h + 1 < l
structure Canon (ps : List Stc) : Prop where
  ne : ∀ s, s ∈ ps → NE s
  ap : ps.Pairwise Apart
def touchB (hi lo : Option Int) : Bool := match lo, hi with
  | none, _ => true
  | _, none => true
  | some l, some h => decide (l ≤ h + 1)
def laterE (a b : Option Int) : Option Int := match a, b with
  | none, _ => none
  | _, none => none
  | some x, some y => some (if y > x then y else x)
def joinF (acc : List Stc) (s : Stc) : List Stc := match acc.getLast? with
  | none => acc ++ [s]
  | some p => if touchB p.2 s.1 = true then acc.dropLast ++ [(p.1, laterE p.2 s.2)] else acc ++ [s]
def lowLe (a b : Option Int) : Prop := match a, b with
  | none, _ => True
  | some _, none => False
  | some i, some j => i ≤ j
theorem has1_of {s : Stc} {n : Int} (h1 : ∀ k, s.1 = some k → k ≤ n) (h2 : ∀ k, s.2 = some k → n ≤ k) : has1 s n = true := by
  obtain ⟨l, r⟩ := s
  cases l <;> cases r <;> simp_all [has1]
theorem hasL_append (a b : List Stc) (n : Int) : hasL (a ++ b) n = (hasL a n || hasL b n) := by simp [hasL, List.any_append]
theorem hasL_one (s : Stc) (n : Int) : hasL [s] n = has1 s n := by simp [hasL]
theorem hasL_cons (s : Stc) (b : List Stc) (n : Int) : hasL (s :: b) n = (has1 s n || hasL b n) := by simp [hasL]
theorem hasL_nil (n : Int) : hasL [] n = false := rfl

theorem join_has (p s : Stc) (n : Int) (hp : NE p) (hs : NE s) (hl : lowLe p.1 s.1) (ht : touchB p.2 s.1 = true) : has1 (p.1, laterE p.2 s.2) n = (has1 p n || has1 s n) := by
  obtain ⟨pl, ph⟩ := p
  obtain ⟨sl, sh⟩ := s
  rw [Bool.eq_iff_iff]
  cases pl <;> cases ph <;> cases sl <;> cases sh <;> simp_all [has1, laterE, touchB, lowLe, NE]
  all_goals (try split)
  all_goals (try omega)
theorem join_ne (p s : Stc) (hp : NE p) : NE (p.1, laterE p.2 s.2) := by
  obtain ⟨pl, ph⟩ := p
  obtain ⟨sl, sh⟩ := s
  intro l h h1 h2
  cases ph <;> cases sh <;> simp_all [laterE]
  have := hp l _ rfl rfl
  split at h2 <;> omega
theorem notouch {p s : Stc} (h : touchB p.2 s.1 = false) : Apart p s := by
  obtain ⟨pl, ph⟩ := p
  obtain ⟨sl, sh⟩ := s
  cases ph <;> cases sl <;> simp_all [touchB, Apart]
theorem apart_trans {a p s : Stc} (h1 : Apart a p) (hp : NE p) (h2 : Apart p s) : Apart a s := by
  obtain ⟨h, l, e1, e2, q⟩ := h1
  obtain ⟨h', l', e3, e4, q'⟩ := h2
  have := hp l h' e2 e3
  exact ⟨h, l', e1, e4, by omega⟩
theorem canon_snoc {acc : List Stc} {p s : Stc} (h : Canon (acc ++ [p])) (hs : NE s) (ha : Apart p s) : Canon (acc ++ [p] ++ [s]) := by
  refine ⟨fun x hx => ?_, ?_⟩
  · rcases List.mem_append.mp hx with hx | hx
    · exact h.ne x hx
    · rw [List.mem_singleton.mp hx]; exact hs
  · refine List.pairwise_append.mpr ⟨h.ap, List.pairwise_singleton .., fun a ha' b hb => ?_⟩
    rw [List.mem_singleton.mp hb]
    rcases List.mem_append.mp ha' with q | q
    · exact apart_trans ((List.pairwise_append.mp h.ap).2.2 a q p (by simp)) (h.ne p (by simp)) ha
    · rw [List.mem_singleton.mp q]; exact ha
theorem canon_last {acc : List Stc} {p s : Stc} (h : Canon (acc ++ [p])) : Canon (acc ++ [(p.1, laterE p.2 s.2)]) := by
  refine ⟨fun x hx => ?_, ?_⟩
  · rcases List.mem_append.mp hx with hx | hx
    · exact h.ne x (List.mem_append_left _ hx)
    · rw [List.mem_singleton.mp hx]; exact join_ne p s (h.ne p (by simp))
  · refine List.pairwise_append.mpr ⟨(List.pairwise_append.mp h.ap).1, List.pairwise_singleton .., fun a ha b hb => ?_⟩
    rw [List.mem_singleton.mp hb]
    exact (List.pairwise_append.mp h.ap).2.2 a ha p (by simp)
/-- one step of the joining -/
theorem join_step {acc pre : List Stc} {s : Stc} (hc : Canon acc) (hm : ∀ n, hasL acc n = hasL pre n) (hl : ∀ a, a ∈ acc → lowLe a.1 s.1) (hs : NE s) :
    Canon (joinF acc s) ∧ (∀ n, hasL (joinF acc s) n = hasL (pre ++ [s]) n) ∧ ∀ a, a ∈ joinF acc s → a.1 = s.1 ∨ ∃ b, b ∈ acc ∧ a.1 = b.1 := by
  rcases List.eq_nil_or_concat acc with rfl | ⟨ac, p, rfl⟩
  · refine ⟨⟨fun x hx => ?_, ?_⟩, fun n => ?_, fun a ha => ?_⟩
    · have : x = s := by simpa [joinF] using hx
      rw [this]; exact hs
    · simp [joinF]
    · rw [hasL_append, ← hm n]; simp [joinF, hasL]
    · left
      have : a = s := by simpa [joinF] using ha
      rw [this]
  · simp only [List.concat_eq_append] at *
    have hg : (ac ++ [p]).getLast? = some p := by simp
    unfold joinF
    rw [hg]
    dsimp only
    by_cases ht : touchB p.2 s.1 = true
    · rw [if_pos ht, List.dropLast_concat]
      refine ⟨canon_last (s := s) hc, fun n => ?_, fun a ha => ?_⟩
      · have h1 := hm n
        rw [hasL_append, hasL_one] at h1
        rw [hasL_append, hasL_one, hasL_append, hasL_one, join_has p s n (hc.ne p (by simp)) hs (hl p (by simp)) ht, ← h1, Bool.or_assoc]
      · right
        rcases List.mem_append.mp ha with ha | ha
        · exact ⟨a, by simp [ha], rfl⟩
        · rw [List.mem_singleton.mp ha]; exact ⟨p, by simp, rfl⟩
    · rw [if_neg ht]
      have ht' : touchB p.2 s.1 = false := by simpa using ht
      refine ⟨canon_snoc hc hs (notouch ht'), fun n => ?_, fun a ha => ?_⟩
      · rw [hasL_append (ac ++ [p]) [s], hasL_append pre [s], hm n]
      · rcases List.mem_append.mp ha with ha | ha
        · right; exact ⟨a, ha, rfl⟩
        · left; rw [List.mem_singleton.mp ha]
theorem lowLe_trans {a b c : Option Int} (h1 : lowLe a b) (h2 : lowLe b c) : lowLe a c := by
  cases a <;> cases b <;> cases c <;> simp_all [lowLe]
  omega
/-- the invariant of the loop -/
structure Joins (acc pre rest : List Stc) : Prop where
  canon : Canon acc
  has : ∀ n, hasL acc n = hasL pre n
  low : ∀ a, a ∈ acc → ∀ s, s ∈ rest → lowLe a.1 s.1
theorem joins_step {acc pre rest : List Stc} {s : Stc} (h : Joins acc pre (s :: rest)) (hs : NE s) (hw : (s :: rest).Pairwise fun a b => lowLe a.1 b.1) : Joins (joinF acc s) (pre ++ [s]) rest := by
  obtain ⟨c, m, l⟩ := join_step h.canon h.has (fun a ha => h.low a ha s (by simp)) hs
  refine ⟨c, m, fun a ha t ht => ?_⟩
  have hst : lowLe s.1 t.1 := (List.pairwise_cons.mp hw).1 t ht
  rcases l a ha with e | ⟨b, hb, e⟩
  · rw [e]; exact hst
  · rw [e]; exact h.low b hb t (by simp [ht])

/-! ### one set, one list of parts -/
theorem canon_tail {s : Stc} {ps : List Stc} (h : Canon (s :: ps)) : Canon ps := ⟨fun x hx => h.ne x (by simp [hx]), (List.pairwise_cons.mp h.ap).2⟩
/-- nothing of the later parts lies at or ahead of the number behind the first one's end -/
theorem later_no {s : Stc} {ps : List Stc} (h : Canon (s :: ps)) {n e : Int} (he : s.2 = some e) (hn : n ≤ e + 1) : hasL ps n = false := by
  unfold hasL
  rw [List.any_eq_false]
  intro t ht
  obtain ⟨h', l, e1, e2, q⟩ := (List.pairwise_cons.mp h.ap).1 t ht
  rw [he] at e1
  cases e1
  simp only [has1, e2, Bool.and_eq_true, decide_eq_true_eq, not_and]
  intro h1
  omega
theorem no_later {s : Stc} {ps : List Stc} (h : Canon (s :: ps)) (he : s.2 = none) : ps = [] := by
  cases ps with
  | nil => rfl
  | cons t ps =>
    obtain ⟨h', l, e1, _⟩ := (List.pairwise_cons.mp h.ap).1 t (by simp)
    rw [he] at e1
    cases e1
/-- ahead of the first part's low end there is nothing -/
theorem ahead_no {s : Stc} {ps : List Stc} (h : Canon (s :: ps)) {n l : Int} (hl : s.1 = some l) (hn : n < l) : hasL (s :: ps) n = false := by
  rw [hasL_cons]
  have h1 : has1 s n = false := by
    simp only [has1, hl, Bool.and_eq_false_iff, decide_eq_false_iff_not]
    left
    omega
  rw [h1, Bool.false_or]
  cases e : s.2 with
  | none => rw [no_later h e]; rfl
  | some x =>
    have := h.ne s (by simp) l x hl e
    exact later_no h e (by omega)
theorem has_low {s : Stc} (h : NE s) {l : Int} (hl : s.1 = some l) : has1 s l = true := by
  cases e : s.2 with
  | none => simp [has1, hl, e]
  | some x =>
    have := h l x hl e
    simp [has1, hl, e, this]
theorem has_some {s : Stc} (h : NE s) (m : Int) : ∃ n, n ≤ m ∧ (s.1 = none → has1 s n = true) := by
  cases e : s.2 with
  | none => exact ⟨m, Int.le_refl _, fun h1 => by simp [has1, h1, e]⟩
  | some x =>
    by_cases q : m ≤ x
    · exact ⟨m, Int.le_refl _, fun h1 => by simp [has1, h1, e, q]⟩
    · exact ⟨x, by omega, fun h1 => by simp [has1, h1, e]⟩
theorem ne_has {s : Stc} (h : NE s) : ∃ n, has1 s n = true := by
  cases e : s.1 with
  | none =>
    obtain ⟨n, _, q⟩ := has_some h 0
    exact ⟨n, q e⟩
  | some l => exact ⟨l, has_low h e⟩
theorem low_same {s t : Stc} {ps qs : List Stc} (h : Canon (s :: ps)) (h' : Canon (t :: qs)) (e : ∀ n, hasL (s :: ps) n = hasL (t :: qs) n) : lowLe t.1 s.1 := by
  cases hs : s.1 with
  | none =>
    cases ht : t.1 with
    | none => trivial
    | some l =>
      obtain ⟨n, hn, q⟩ := has_some (h.ne s (by simp)) (l - 1)
      have h1 := e n
      rw [ahead_no h' ht (by omega), hasL_cons, q hs] at h1
      simp at h1
  | some a =>
    cases ht : t.1 with
    | none => trivial
    | some b =>
      by_cases q : b ≤ a
      · exact q
      · have h1 := e a
        rw [ahead_no h' ht (by omega), hasL_cons, has_low (h.ne s (by simp)) hs] at h1
        simp at h1
theorem lowLe_antisymm {a b : Option Int} (h1 : lowLe a b) (h2 : lowLe b a) : a = b := by
  cases a <;> cases b <;> simp_all [lowLe]
  omega
/-- behind the end of the first one there is a number that is not in it -/
theorem high_same {s t : Stc} {ps qs : List Stc} (h : Canon (s :: ps)) (h' : Canon (t :: qs)) (e : ∀ n, hasL (s :: ps) n = hasL (t :: qs) n) (hl : s.1 = t.1) {x : Int} (hx : s.2 = some x) : ∃ y, t.2 = some y ∧ y ≤ x := by
  have h1 := e (x + 1)
  have n1 : has1 s (x + 1) = false := by
    simp only [has1, hx, Bool.and_eq_false_iff, decide_eq_false_iff_not]
    right
    omega
  rw [hasL_cons, n1, later_no h hx (Int.le_refl _), hasL_cons] at h1
  have h2 : has1 t (x + 1) = false := by
    cases q : has1 t (x + 1) with
    | false => rfl
    | true => rw [q] at h1; simp at h1
  have low : ∀ l, t.1 = some l → l ≤ x + 1 := fun l hl' => by
    rw [← hl] at hl'
    have := h.ne s (by simp) l x hl' hx
    omega
  cases ht : t.2 with
  | none =>
    exfalso
    cases hl' : t.1 with
    | none => simp [has1, hl', ht] at h2
    | some l =>
      have := low l hl'
      simp [has1, hl', ht, this] at h2
  | some y =>
    refine ⟨y, rfl, ?_⟩
    by_cases q : y ≤ x
    · exact q
    · exfalso
      have q' : x + 1 ≤ y := by omega
      cases hl' : t.1 with
      | none => simp [has1, hl', ht, q'] at h2
      | some l =>
        have := low l hl'
        simp [has1, hl', ht, this, q'] at h2
theorem canon_unique : ∀ {ps qs : List Stc}, Canon ps → Canon qs → (∀ n, hasL ps n = hasL qs n) → ps = qs
  | [], [], _, _, _ => rfl
  | [], t :: qs, _, h', e => by
    obtain ⟨n, q⟩ := ne_has (h'.ne t (by simp))
    have := e n
    rw [hasL_cons, q] at this
    simp [hasL_nil] at this
  | s :: ps, [], h, _, e => by
    obtain ⟨n, q⟩ := ne_has (h.ne s (by simp))
    have := e n
    rw [hasL_cons, q] at this
    simp [hasL_nil] at this
  | s :: ps, t :: qs, h, h', e => by
    have hl : s.1 = t.1 := lowLe_antisymm (low_same h' h fun n => (e n).symm) (low_same h h' e)
    have hh : s.2 = t.2 := by
      cases hs : s.2 with
      | none =>
        cases ht : t.2 with
        | none => rfl
        | some y =>
          obtain ⟨z, q, _⟩ := high_same h' h (fun n => (e n).symm) hl.symm ht
          rw [hs] at q; cases q
      | some x =>
        obtain ⟨y, hy, q⟩ := high_same h h' e hl hs
        obtain ⟨z, hz, q'⟩ := high_same h' h (fun n => (e n).symm) hl.symm hy
        rw [hs] at hz
        cases hz
        rw [hy]
        congr 1
        omega
    have est : s = t := Prod.ext hl hh
    subst est
    refine congrArg _ (canon_unique (canon_tail h) (canon_tail h') fun n => ?_)
    cases hs : s.2 with
    | none => rw [no_later h hs, no_later h' hs]
    | some x =>
      by_cases q : n ≤ x + 1
      · rw [later_no h hs q, later_no h' hs q]
      · have n1 : has1 s n = false := by
          simp only [has1, hs, Bool.and_eq_false_iff, decide_eq_false_iff_not]
          right
          omega
        have := e n
        rwa [hasL_cons, hasL_cons, n1, Bool.false_or, Bool.false_or] at this

/-! ### the halving search -/
theorem search_low {ps : List Stc} (h : Canon ps) {m : Nat} {s : Stc} (hm : ps[m]? = some s) {l n : Int} (hl : s.1 = some l) (hn : n < l) {j : Nat} {t : Stc} (hj : m ≤ j) (ht : ps[j]? = some t) : has1 t n = false := by
  have hs := h.ne s (List.mem_of_getElem? hm)
  by_cases e : m = j
  · subst e
    rw [hm] at ht
    cases ht
    simp only [has1, hl, Bool.and_eq_false_iff, decide_eq_false_iff_not]
    left
    omega
  · obtain ⟨h1, h2, h3⟩ := List.getElem?_eq_some_iff.mp hm |>.elim fun a b => (⟨a, b, trivial⟩ : ∃ (a : m < ps.length) (_ : ps[m] = s), True)
    obtain ⟨g1, g2⟩ := List.getElem?_eq_some_iff.mp ht
    have := List.pairwise_iff_getElem.mp h.ap m j h1 g1 (by omega)
    rw [h2, g2] at this
    obtain ⟨x, y, e1, e2, q⟩ := this
    have := hs l x hl e1
    simp only [has1, e2, Bool.and_eq_false_iff, decide_eq_false_iff_not]
    left
    omega
theorem search_high {ps : List Stc} (h : Canon ps) {m : Nat} {s : Stc} (hm : ps[m]? = some s) {l n : Int} (hl : s.2 = some l) (hn : l < n) {j : Nat} {t : Stc} (hj : j ≤ m) (ht : ps[j]? = some t) : has1 t n = false := by
  have hs := h.ne s (List.mem_of_getElem? hm)
  by_cases e : j = m
  · subst e
    rw [hm] at ht
    cases ht
    simp only [has1, hl, Bool.and_eq_false_iff, decide_eq_false_iff_not]
    right
    omega
  · obtain ⟨h1, h2⟩ := List.getElem?_eq_some_iff.mp hm
    obtain ⟨g1, g2⟩ := List.getElem?_eq_some_iff.mp ht
    have := List.pairwise_iff_getElem.mp h.ap j m g1 h1 (by omega)
    rw [h2, g2] at this
    obtain ⟨x, y, e1, e2, q⟩ := this
    have := hs y l e2 hl
    simp only [has1, e1, Bool.and_eq_false_iff, decide_eq_false_iff_not]
    right
    omega

/-! ### the points at which two sets are looked at -/
def endsOf (s : Stc) : List Int := (match s.1 with | none => [] | some l => [l - 1, l, l + 1]) ++ (match s.2 with | none => [] | some h => [h - 1, h, h + 1])
def points (ss : List Stc) : List Int := [0, 1, -1, 10000000000000, -10000000000000] ++ ss.flatMap endsOf
/-- the cuts: the first numbers behind which something changes -/
def cutsOf (s : Stc) : List Int := (match s.1 with | none => [] | some l => [l]) ++ (match s.2 with | none => [] | some h => [h + 1])
def cuts (ss : List Stc) : List Int := ss.flatMap cutsOf
theorem cut_point {ss : List Stc} {c : Int} (h : c ∈ cuts ss) : c ∈ points ss ∧ c - 1 ∈ points ss := by
  obtain ⟨s, hs, hc⟩ := List.mem_flatMap.mp h
  have key : c ∈ endsOf s ∧ c - 1 ∈ endsOf s := by
    obtain ⟨l, r⟩ := s
    cases l <;> cases r <;> simp_all [cutsOf, endsOf] <;> omega
  exact ⟨List.mem_append_right _ (List.mem_flatMap.mpr ⟨s, hs, key.1⟩), List.mem_append_right _ (List.mem_flatMap.mpr ⟨s, hs, key.2⟩)⟩
theorem has_by_cuts {s : Stc} {n m : Int} (h : ∀ c, c ∈ cutsOf s → (c ≤ n ↔ c ≤ m)) : has1 s n = has1 s m := by
  obtain ⟨l, r⟩ := s
  rw [Bool.eq_iff_iff]
  cases l <;> cases r <;> simp_all [cutsOf, has1] <;> omega
theorem hasL_by_cuts {ss : List Stc} {n m : Int} (h : ∀ c, c ∈ cuts ss → (c ≤ n ↔ c ≤ m)) : hasL ss n = hasL ss m := by
  induction ss with
  | nil => rfl
  | cons s ss ih =>
    rw [hasL_cons, hasL_cons, has_by_cuts (s := s) fun c hc => h c (List.mem_flatMap.mpr ⟨s, by simp, hc⟩), ih fun c hc => h c ?_]
    obtain ⟨t, ht, hc⟩ := List.mem_flatMap.mp hc
    exact List.mem_flatMap.mpr ⟨t, by simp [ht], hc⟩
theorem greatest {l : List Int} {n : Int} (h : ∃ c, c ∈ l ∧ c ≤ n) : ∃ c, c ∈ l ∧ c ≤ n ∧ ∀ d, d ∈ l → d ≤ n → d ≤ c := by
  induction l with
  | nil => obtain ⟨c, hc, _⟩ := h; simp at hc
  | cons a l ih =>
    by_cases q : ∃ c, c ∈ l ∧ c ≤ n
    · obtain ⟨c, hc, hn, m⟩ := ih q
      by_cases qa : a ≤ n ∧ c ≤ a
      · refine ⟨a, by simp, qa.1, fun d hd hdn => ?_⟩
        rcases List.mem_cons.mp hd with rfl | hd
        · exact Int.le_refl _
        · have := m d hd hdn; omega
      · refine ⟨c, by simp [hc], hn, fun d hd hdn => ?_⟩
        rcases List.mem_cons.mp hd with rfl | hd
        · omega
        · exact m d hd hdn
    · obtain ⟨c, hc, hn⟩ := h
      rcases List.mem_cons.mp hc with rfl | hc
      · refine ⟨c, by simp, hn, fun d hd hdn => ?_⟩
        rcases List.mem_cons.mp hd with rfl | hd
        · exact Int.le_refl _
        · exact absurd ⟨d, hd, hdn⟩ q
      · exact absurd ⟨c, hc, hn⟩ q
theorem least {l : List Int} (h : l ≠ []) : ∃ c, c ∈ l ∧ ∀ d, d ∈ l → c ≤ d := by
  induction l with
  | nil => exact absurd rfl h
  | cons a l ih =>
    by_cases q : l = []
    · subst q
      exact ⟨a, by simp, fun d hd => by rw [List.mem_singleton.mp hd]; exact Int.le_refl _⟩
    · obtain ⟨c, hc, m⟩ := ih q
      by_cases qa : a ≤ c
      · refine ⟨a, by simp, fun d hd => ?_⟩
        rcases List.mem_cons.mp hd with rfl | hd
        · exact Int.le_refl _
        · have := m d hd; omega
      · refine ⟨c, by simp [hc], fun d hd => ?_⟩
        rcases List.mem_cons.mp hd with rfl | hd
        · omega
        · exact m d hd
/-- each number has a point that no stretch tells from it -/
theorem point_of (ss : List Stc) (n : Int) : ∃ m, m ∈ points ss ∧ ∀ c, c ∈ cuts ss → (c ≤ n ↔ c ≤ m) := by
  by_cases q : ∃ c, c ∈ cuts ss ∧ c ≤ n
  · obtain ⟨c, hc, hn, m⟩ := greatest q
    refine ⟨c, (cut_point hc).1, fun d hd => ⟨fun h => m d hd h, fun h => by omega⟩⟩
  · by_cases q0 : cuts ss = []
    · refine ⟨0, by simp [points], fun c hc => ?_⟩
      rw [q0] at hc
      simp at hc
    · obtain ⟨c, hc, m⟩ := least q0
      refine ⟨c - 1, (cut_point hc).2, fun d hd => ⟨fun h => absurd ⟨d, hd, h⟩ q, fun h => ?_⟩⟩
      have := m d hd
      omega
theorem cuts_append (a b : List Stc) : cuts (a ++ b) = cuts a ++ cuts b := by simp [cuts, List.flatMap_append]
/-- sets that agree at the points of both are the same -/
theorem agree_all {a b : List Stc} (h : ∀ m, m ∈ points (a ++ b) → hasL a m = hasL b m) (n : Int) : hasL a n = hasL b n := by
  obtain ⟨m, hm, hc⟩ := point_of (a ++ b) n
  rw [cuts_append] at hc
  rw [hasL_by_cuts (ss := a) fun c q => hc c (List.mem_append_left _ q), hasL_by_cuts (ss := b) fun c q => hc c (List.mem_append_right _ q)]
  exact h m hm
end Spk

set_option Elab.async false
set_option linter.all false
set_option maxRecDepth 100000
set_option maxHeartbeats 1000000
namespace Spk
open PySem L2

/-! ## readings by steps: one lemma a construct -/
section
variable {σ : L2.St} {H : Hp} {D : Ends} {ta tb te : TE} {Q : VK} {t u : TS} {tt uu : TT} {v x y : V} {i : Nat} {K : PySem.W.Frag}
theorem i_seq (h : t { D with nx := u D } σ H) : tSeq t u D σ H := h
theorem i_next (h : D.nx σ H) : tNext D σ H := h
theorem i_asg {g : TG} (h : te σ H fun x H1 => g x σ H1 D.nx) : tAsg te g D σ H := h
theorem i_name {P : L2.St → Hp → Prop} (h : P (σ.set i (some v)) H) : gName i v σ H P := h
theorem i_ret (h : te σ H D.rt) : tRet te D σ H := h
theorem i_drop (h : te σ H fun _ H1 => D.nx σ H1) : tDrop te D σ H := h
theorem i_ifS (h : tt σ H fun b H1 => if b = true then t D σ H1 else u D σ H1) : tIfS tt t u D σ H := h
theorem i_if (h : tt σ H fun c H1 => if c = true then ta σ H1 Q else tb σ H1 Q) : tIf tt ta tb σ H Q := h
theorem i_var (h : σ[i]? = some (some v)) (q : Q v H) : tVar i σ H Q := ⟨v, h, q⟩
theorem i_c (q : Q v H) : tC v σ H Q := q
theorem i_op {r : R2} (h : ta σ H fun x H1 => tb σ H1 fun y H2 => r x y H2 Q) : tOp r ta tb σ H Q := h
theorem i_un {r : V → Hp → VK → Prop} (h : ta σ H fun x H1 => r x H1 Q) : tUn r ta σ H Q := h
theorem i_rI0 {g : Int → Int → V} {a b : Int} (q : Q (g a b) H) : rI0 g (.int a) (.int b) H Q := ⟨a, b, rfl, rfl, q⟩
theorem i_rI {C : Int → Int → Prop} {g : Int → Int → V} {a b : Int} (hc : C a b) (q : Q (g a b) H) : rI C g (.int a) (.int b) H Q := ⟨a, b, rfl, rfl, hc, q⟩
theorem i_rU {g : Int → V} {a : Int} (q : Q (g a) H) : rU g (.int a) H Q := ⟨a, rfl, q⟩
theorem i_rEq (hs : scal x y = true) (q : Q (.bl (decide (x = y))) H) : rEq x y H Q := ⟨hs, q⟩
theorem i_rNe (hs : scal x y = true) (q : Q (.bl (!decide (x = y))) H) : rNe x y H Q := ⟨hs, q⟩
theorem i_test {P : Bool → Hp → Prop} (h : ta σ H fun x H' => ∃ k, x = .bl k ∧ P k H') : tTest ta σ H P := h
theorem i_tB {P : Bool → Hp → Prop} (h : ta σ H fun x H' => ∃ k, x = .bl k ∧ P k H') : tB ta σ H P := h
theorem i_and {P : Bool → Hp → Prop} (h : tt σ H fun c H1 => if c = true then uu σ H1 P else P false H1) : tAnd tt uu σ H P := h
theorem i_or {P : Bool → Hp → Prop} (h : tt σ H fun c H1 => if c = true then P true H1 else uu σ H1 P) : tOr tt uu σ H P := h
theorem i_not {P : Bool → Hp → Prop} (h : tt σ H fun c H1 => P (!c) H1) : tNot tt σ H P := h
theorem i_andV (h : ta σ H fun x H1 => ∃ c, x = .bl c ∧ if c = true then tb σ H1 Q else Q (.bl false) H1) : tAndV ta tb σ H Q := h
theorem i_orV (h : ta σ H fun x H1 => ∃ c, x = .bl c ∧ if c = true then Q (.bl true) H1 else tb σ H1 Q) : tOrV ta tb σ H Q := h
theorem i_notV (h : ta σ H fun x H1 => ∃ c, x = .bl c ∧ Q (.bl (!c)) H1) : tNotV ta σ H Q := h
theorem i_nil {P : List V → Hp → Prop} (h : P [] H) : tNil σ H P := h
theorem i_cons {tr : TA} {P : List V → Hp → Prop} (h : ta σ H fun x H1 => tr σ H1 fun xs H2 => P (x :: xs) H2) : tCons ta tr σ H P := h
theorem i_cb {r : List V → Hp → VK → Prop} {ts : TA} (h : ts σ H fun vs H1 => r vs H1 Q) : tCB r ts σ H Q := h
theorem i_call {sp : Sp} {E : XK} {ts : TA} (h : ts σ H fun vs H1 => sp (vs ++ []) H1 Q E) : tCall sp [] E ts σ H Q := h
theorem i_bl {c : Bool} {P : Bool → Prop} (h : P c) : ∃ k, V.bl c = .bl k ∧ P k := ⟨c, rfl, h⟩
/-- a new object: the heap behind it is only known by what stood and what is new -/
theorem i_new {o : HO} (h : ∀ p H1, Same H H1 → H p = none → H1 p = some o → Q (.ref p) H1) : ∀ p, H p = none → Q (.ref p) (upd H p o) := fun p hp =>
  h p _ (fun b u e => by rw [upd_ne (ne_of_none e hp)]; exact e) hp upd_same
theorem i_tup {ts : TA} (h : ts σ H fun xs H1 => xs.length ≤ sizeLine ∧ ∀ p, H1 p = none → Q (.ref p) (upd H1 p (.tup xs))) : tTup ts σ H Q := h
theorem i_lst {ts : TA} (h : ts σ H fun xs H1 => xs.length ≤ sizeLine ∧ ∀ p, H1 p = none → Q (.ref p) (upd H1 p (.lst xs))) : tLst ts σ H Q := h
theorem i_sz {xs : List V} {o : HO} (hn : xs.length ≤ 1000) (h : ∀ p H1, Same H H1 → H p = none → H1 p = some o → Q (.ref p) H1) : xs.length ≤ sizeLine ∧ ∀ p, H p = none → Q (.ref p) (upd H p o) :=
  ⟨Nat.le_trans hn (by decide), i_new h⟩
theorem new_heap {o : HO} {p : Addr} (hp : H p = none) : ∃ H1, upd H p o = H1 ∧ Same H H1 ∧ H1 p = some o := ⟨_, rfl, fun b u e => by rw [upd_ne (ne_of_none e hp)]; exact e, upd_same⟩
theorem size_of {n : Nat} (h : n ≤ 100000) : n ≤ sizeLine := Nat.le_trans h (by decide)
theorem size_lt {n : Nat} (h : n ≤ 100000) : n < sizeLine := Nat.lt_of_le_of_lt h (by decide)
theorem i_ixT {p : Addr} {xs : List V} {a : Int} (h : H p = some (.tup xs)) (hv : atI xs a = some v) (q : Q v H) : rIxT K (.ref p) (.int a) H Q := ⟨p, xs, a, v, rfl, rfl, SqT.of h, hv, q⟩
theorem i_ixL {p : Addr} {xs : List V} {a : Int} (h : H p = some (.lst xs)) (hv : atI xs a = some v) (q : Q v H) : rIxL K (.ref p) (.int a) H Q := ⟨p, xs, a, v, rfl, rfl, SqL.of h, hv, q⟩
/-- a for's body and what follows, from the walk on -/
def forK (g : TG) (tb : TS) (D : Ends) (σ : L2.St) : It → Hp → Prop := fun J H1 => ∃ W : Nat → Nat → L2.St → Hp → Prop, (∃ m, W 0 m σ H1) ∧
  ∀ i m σ H, W i m σ H → (J.stop i H ∧ D.nx σ H) ∨ (J.go i H ∧ ∃ N : L2.St → Hp → Prop, (∀ σ' H', N σ' H' → ∃ m', m' < m ∧ W (i + 1) m' σ' H') ∧
    ∀ x H', J.yld i H x H' → g x σ H' fun σ2 H2 => tb { D with nx := N, ct := N, bk := D.nx } σ2 H2)
theorem i_for {wi : TI} {g : TG} (h : wi σ H (forK g t D σ)) : tFor wi g t D σ H := h
theorem i_iL {R : It → Hp → Prop} (h : te σ H fun x H1 => ∃ a, x = .ref a ∧ (∃ xs, SqL K H1 a xs) ∧ R (Itl K a) H1) : iList K te σ H R := h
theorem i_iT {R : It → Hp → Prop} (h : te σ H fun x H1 => ∃ a, x = .ref a ∧ (∃ xs, SqT K H1 a xs) ∧ R (Itt K a) H1) : iTup K te σ H R := h
theorem i_yes {P : Bool → Hp → Prop} (h : P true H) : tYes σ H P := h
theorem i_gsub {to ti : TE} {ts : TSet} {P : L2.St → Hp → Prop} (h : to σ H fun o H1 => ti σ H1 fun i H2 => ts o i v H2 fun H3 => P σ H3) : gSub to ti ts v σ H P := h
theorem pow_ok {a b : Nat} (ha : a ≤ 1000000) (hb : b ≤ 1000000) : CPow (b : Int) (a : Int) := ⟨by omega, by omega, by omega⟩
theorem cmulL {i j : Int} (h : decide (-(2 ^ 64) < i ∧ i < 2 ^ 64) = true) : CMul i j := .inl (of_decide_eq_true h)
theorem i_setL {p : Addr} {xs : List V} {k : Int} {j : Nat} {P : Hp → Prop} (h : H p = some (.lst xs)) (hj : ixN xs.length k = some j) (q : P (upd H p (.lst (xs.set j v)))) : rSetL (.ref p) (.int k) v H P := ⟨p, xs, k, j, rfl, rfl, h, hj, q⟩
theorem i_rng1 {ts : TA} {R : It → Hp → Prop} (h : ts σ H fun vs H1 => ∃ j : Int, vs = [.int j] ∧ -(2 ^ 62) ≤ j ∧ j < 2 ^ 62 ∧ R (Itr 0 j.toNat) H1) : iRng1 ts σ H R := h
theorem i_cut0 (h : t { D with nx := fun σ' H' => σ' = σ ∧ H' = H } σ H) (k : u D σ H) : C8.tCut t u D σ H := ⟨_, h, fun σ' H' e => by rw [e.1, e.2]; exact k⟩
theorem i_cm {C : Addr} {sp : Sp} {E : XK} {ts : TA} (h : te σ H fun x H1 => x = .ref C ∧ ts σ H1 fun vs H2 => sp (.ref C :: vs) H2 Q E) : ClX.tCMeth C sp E te ts σ H Q := h
theorem i_ckw {r : List V → List V → Hp → VK → Prop} {ts tk : TA} (h : ts σ H fun vs H1 => tk σ H1 fun zs H2 => r vs zs H2 Q) : tCKw r ts tk σ H Q := h
theorem i_bm {T : String} {r : V → List V → Hp → VK → Prop} {ts : TA} (h : te σ H fun x H1 => tyV K T x H1 ∧ ts σ H1 fun xs H2 => r x xs H2 Q) : tBM K T r te ts σ H Q := h
theorem i_bm0 {T : String} {r : V → List V → Hp → VK → Prop} (h : te σ H fun x H1 => tyV K T x H1 ∧ r x [] H1 Q) : tBM0 K T r te σ H Q := h
theorem i_tyL {p : Addr} {xs : List V} {A : Prop} (h : H p = some (.lst xs)) (q : A) : tyV K "list" (.ref p) H ∧ A := ⟨.inl ⟨rfl, _, SqL.of h⟩, q⟩
theorem i_app {p : Addr} {xs : List V} (h : H p = some (.lst xs)) (hz : xs.length ≤ 100000) (q : Q .non (upd H p (.lst (xs ++ [v])))) : rAppend (.ref p) [v] H Q := ⟨p, xs, v, rfl, rfl, h, size_lt hz, q⟩
theorem i_pop {p : Addr} {xs : List V} (h : H p = some (.lst (xs ++ [v]))) (q : Q v (upd H p (.lst xs))) : rPop (.ref p) [] H Q := ⟨p, _, v, rfl, rfl, h, by simp, by rw [List.dropLast_concat]; exact q⟩
theorem i_truL {p : Addr} {xs : List V} {P : Bool → Hp → Prop} (h : H p = some (.lst xs)) (q : P (!xs.isEmpty) H) : ∃ k, TruV K (.ref p) H k ∧ P k H := ⟨_, .inl ⟨xs, SqL.of h, rfl⟩, q⟩
theorem i_gtup {p : Addr} {xs : List V} {n : Nat} {g : TGs} {P : L2.St → Hp → Prop} (h : H p = some (.tup xs)) (hn : xs.length = n) (q : g xs σ H P) : gTup K n g (.ref p) σ H P := ⟨p, xs, rfl, SqT.of h, hn, q⟩
theorem i_gcons {g : TG} {gs : TGs} {vs : List V} {P : L2.St → Hp → Prop} (q : g v σ H fun σ' H' => gs vs σ' H' P) : gCons g gs (v :: vs) σ H P := ⟨v, vs, rfl, q⟩
theorem i_gnil {P : L2.St → Hp → Prop} (q : P σ H) : gNil [] σ H P := ⟨rfl, q⟩
theorem i_par {ts : TA} {a b : Nat} (h : ts σ H fun vs H1 => ∃ v w, vs = [v, w] ∧ D.nx ((σ.set a (some v)).set b (some w)) H1) : tPar a b ts D σ H := h
theorem ite_d {c A B : Prop} [Decidable c] (h1 : c → A) (h2 : ¬ c → B) : if decide c = true then A else B := by
  by_cases h : c
  · rw [decide_eq_true h, if_pos rfl]; exact h1 h
  · rw [decide_eq_false h, if_neg (by decide)]; exact h2 h
theorem ite_nd {c A B : Prop} [Decidable c] (h1 : ¬ c → A) (h2 : c → B) : if (!decide c) = true then A else B := by
  by_cases h : c
  · rw [decide_eq_true h, if_neg (by decide)]; exact h2 h
  · rw [decide_eq_false h, if_pos (by decide)]; exact h1 h
end
theorem sm_up {H H' : Hp} {a : Addr} {o : HO} (s : Same H H') (h : H a = some o) : H' a = some o := s a o h

/-! ## the data: stretches, parts, sets -/
abbrev ov : Option Int → V := fun o => match o with
  | none => .non
  | some i => .int i
def kx (s : Stc) : Int := match s.1 with | none => 0 | some _ => 1
def ky (s : Stc) : Int := match s.1 with | none => 0 | some i => i
def key (s : Stc) : List V := [.int (kx s), .int (ky s)]
def keyD (s : Stc) : PyData := .tuple [.int (kx s), .int (ky s)]
/-- v is a tuple (low, high) -/
def TupS (H : Hp) (v : V) (s : Stc) : Prop := ∃ a, v = .ref a ∧ H a = some (.tup [ov s.1, ov s.2])
/-- the values are stretches, one by one -/
def Tups (H : Hp) : List V → List Stc → Prop := Paired (TupS H)
theorem TupS.up {H H' : Hp} {v : V} {s : Stc} (e : Same H H') (h : TupS H v s) : TupS H' v s := by
  obtain ⟨a, rfl, h⟩ := h
  exact ⟨a, rfl, e _ _ h⟩
theorem Tups.up {H H' : Hp} {vs : List V} {ss : List Stc} (e : Same H H') (h : Tups H vs ss) : Tups H' vs ss := Paired.mapP h fun _ _ z => z.up e

theorem tups_zip {H : Hp} {xs : List V} {ss : List Stc} (h : Tups H xs ss) : ∀ b, b ∈ xs.zip ss → TupS H b.1 b.2 := by
  induction h with
  | nil => intro b hb; simp at hb
  | cons r t ih =>
    intro b hb
    rw [List.zip_cons_cons] at hb
    rcases List.mem_cons.mp hb with rfl | hb
    · exact r
    · exact ih b hb
theorem tups_of {H : Hp} : ∀ {bs : List (V × Stc)}, (∀ b, b ∈ bs → TupS H b.1 b.2) → Tups H (bs.map (·.1)) (bs.map (·.2))
  | [], _ => .nil
  | b :: bs, h => .cons (h b (by simp)) (tups_of fun c hc => h c (by simp [hc]))
theorem kxy_le {a b : Stc} (h : kx a < kx b ∨ (kx a = kx b ∧ ky a ≤ ky b)) : lowLe a.1 b.1 := by
  obtain ⟨l, r⟩ := a
  obtain ⟨l', r'⟩ := b
  cases l <;> cases l' <;> simp_all [kx, ky, lowLe]
/-- what sorted by start_of gives: the same stretches, by their low ends -/
theorem sorted_low {H : Hp} {xs : List V} {ss : List Stc} (h : Tups H xs ss) : ∃ ss', Tups H (byKeys xs (ss.map keyD)) ss' ∧ ss'.Perm ss ∧ ss'.Pairwise fun a b => lowLe a.1 b.1 := by
  have hlen : xs.length = ss.length := Paired.length h
  have e1 : xs.zip (ss.map keyD) = (xs.zip ss).map fun b => (b.1, keyD b.2) := by rw [List.zip_map_right]; rfl
  have hle : PySem.W.dataLe false (fun b : V × Stc => keyD b.2) = fun p q => decide (kx p.2 < kx q.2 ∨ (kx p.2 = kx q.2 ∧ ky p.2 ≤ ky q.2)) := PySem.W.dataLe_ii (fun b : V × Stc => kx b.2) fun b => ky b.2
  have e2 : byKeys xs (ss.map keyD) = ((xs.zip ss).mergeSort (PySem.W.dataLe false fun b : V × Stc => keyD b.2)).map (·.1) := by
    unfold byKeys
    rw [e1, ← List.map_mergeSort (f := fun b : V × Stc => (b.1, keyD b.2)) (r := PySem.W.dataLe false fun b : V × Stc => keyD b.2) (s := PySem.W.dataLe false fun b : V × PyData => b.2) (fun _ _ _ _ => rfl), List.map_map]
    rfl
  rw [e2, hle]
  have pm := List.mergeSort_perm (xs.zip ss) fun p q => decide (kx p.2 < kx q.2 ∨ (kx p.2 = kx q.2 ∧ ky p.2 ≤ ky q.2))
  have pw := List.pairwise_mergeSort (le := fun p q : V × Stc => decide (kx p.2 < kx q.2 ∨ (kx p.2 = kx q.2 ∧ ky p.2 ≤ ky q.2)))
    (fun a b c h1 h2 => by simp only [decide_eq_true_eq] at *; omega) (fun a b => by simp only [Bool.or_eq_true, decide_eq_true_eq]; omega) (xs.zip ss)
  refine ⟨_, tups_of fun b hb => tups_zip h b (pm.mem_iff.mp hb), ?_, ?_⟩
  · have := pm.map (·.2)
    rwa [List.map_snd_zip (by omega)] at this
  · refine List.pairwise_map.mpr (pw.imp fun {a b} hab => kxy_le (by simpa using hab))
theorem keys_alike (ss : List Stc) : PySem.W.AllAlike (ss.map keyD) := PySem.W.AllAlike.of fun _ _ => by simp [keyD, PySem.W.alike, PySem.W.alikeAll]
theorem keys_sort (ss : List Stc) : PySem.W.Sortable (ss.map keyD) := PySem.W.Sortable.tuples fun _ => ⟨_, _, rfl⟩
theorem keys_deep (ss : List Stc) : ∀ d, d ∈ ss.map keyD → d.depth ≤ 100 := fun d hd => by
  obtain ⟨s, _, rfl⟩ := List.mem_map.mp hd
  simp [keyD, PyData.depth, PyData.depthAll]

/-! ## cls(..) of a local name, C.m() without arguments -/
section
open PySem.Spec PyProof.Rows ClX StX
variable {X : Cx} {CX : CXT} {k i : Nat} {f C p g : Addr} {mc : Value} {sp : Sp} {E : XK} {x m : Str} {q pos apos : Pos} {e o : Expr} {es : List Expr} {ta : TE} {t : TA}
def tMakeL (i : Nat) (C : Addr) (sp : Sp) (E : XK) (t : TA) : TE := fun σ H Q => σ[i]? = some (some (.ref C)) ∧ tMakeR C sp E t σ H Q
theorem pe_makeL (M : Mk X.K C f) (F : FnR X.prog X.w X.K X.mg X.base CX k f sp) (hr : Room (k + 1) X.A) (hN : X.N[i]? = some x) (hv : Vis X.env.scope x) (hx : Passes CX X E) (ha : PA X (e :: es) t)
    (hdb : (x == ("__debug__" : Str)) = false := by decide) (hcd : (x == ("__classdict__" : Str)) = false := by decide)
    (he : starEach (e :: es) X.env = (false, eval e X.env) :: starEach es X.env := by rfl) (hpl : (backTo pos (starEach es X.env)).any (·.1) = false := by rfl) : PE X (.Call (.Name x q) (e :: es) [] pos) (tMakeL i C sp E t) := by
  refine ⟨fun pins s σ H Q I h => ?_⟩
  obtain ⟨hs, ht⟩ := h
  have ld := (pe_var (pos := q) hN hv hdb hcd).run pins s σ H (fun v H1 => v = .ref C ∧ H1 = H) I ⟨.ref C, hs, rfl, rfl⟩
  refine wpAny_Call_Name_kw (thn ld fun u s1 ⟨v, H1, I1, r1, q1⟩ => ?_)
  obtain ⟨rfl, rfl⟩ := q1
  cases r1
  refine PySem.W.callWith_K (h₀ := X.base) I.ok.mod.kin M.kp (thn (ha.run pos pins s1 σ _ _ I1 ht) fun us s2 ⟨vs, H2, I2, r, z⟩ => ⟨I2.kIn, ?_⟩) he hpl
  exact run_makeR M F hr hx I2 r z
theorem pe_cmeth0 {pl : Sem Bool} (he : PE X o ta) (r : CRead X.K C mc) (c : CMet X.K C mc m p g) (F : FnR X.prog X.w X.K X.mg X.base CX k g sp) (hr : Room k X.A) (hx : Passes CX X E)
    (ht : eval (.Call (.Attribute o m apos) [] [] pos) X.env = (do
      let ov ← eval o X.env
      standAt apos.atName
      let (f, first) ← holding [ov] (getMethod ov m pl)
      callWith pos f first (backTo pos (starEach [] X.env)) (backToKw pos (keywordEach [] X.env))) := by rfl) : PE X (.Call (.Attribute o m apos) [] [] pos) (tCMeth C sp E ta tNil) := by
  refine ⟨fun pins s σ H Q I h => ?_⟩
  refine PySem.W.methodCall_KW (pl := pl) (thn (he.run pins s σ H _ I h) fun u s1 ⟨x, H1, I1, rx, ex, z⟩ => ?_) ht
  subst ex
  obtain rfl : u = Value.ref C := rx
  refine getmethcm_ok I1 r c fun s2 I2 => ?_
  exact PySem.W.callWith_M0 (first := []) ⟨pin_at I2, I2.kIn⟩ c.fi (run_cm F hr hx I2 .nil z)
end

/-- def f(a, .., *v) by its text -/
theorem _root_.L2.Fun.okStar {P : Program} {w : World} {K : PySem.W.Frag} {mg : Str → Option Value} {base : Heap} {x qual pv : Str} {st : Stmt} {f : Addr} {fd : FuncData} {N ps : List Str} {k : Nat} {sp : Sp} (F : Fun K x qual st f fd) (S : FnScope N (ps ++ [pv]) (defScope st))
    (hb : ∀ (kV doc pm : Value) (an : Option Addr) (cdv ct : Value) (us rest : List Value), us.length = ps.length →
      bindArgs (PySem.W.fnOf x qual (defArgs st) (defBody st) (defScope st) .none kV doc pm an cdv ct) ⟨us ++ rest, []⟩ = (newTuple rest >>= fun t => pure (ps.zip us ++ [(pv, t)])))
    (hbody : ∀ (cdv : Value) (A : Around) (outer : List Env) (s : Shared) (H : Hp) (vs : List V) (Q : VK) (E : XK), Room k (A.deeper (PyProof.Rows.envOfC qual (defScope st) s.heap.objs.size f cdv)) → sp vs H Q E →
      ∃ t, PSs (cxOf CX0 P w K mg base N qual (defScope st) f cdv A outer s H E).nox (defBody st) t ∧ t { nx := fun _ H' => Q .non H', rt := Q } (L2.start N vs) H) :
    FnR P w K mg base CX0 (k + 1) f (fun vs H Q E => ∃ ws rest, vs = ws ++ rest ∧ ws.length = ps.length ∧ rest.length ≤ sizeLine ∧ ∀ p, H p = none → sp (ws ++ [V.ref p]) (upd H p (.tup rest)) Q E) := by
  obtain ⟨oc, od, kV, doc, pm, an, cdv, ct, osl, rfl, lk, hcd⟩ := F.ex
  refine StX.fn_star lk hcd S StX.cxUp_none (hb kV doc pm an cdv ct) fun A outer s H vs Q E hr hsp => ?_
  obtain ⟨t, h, q⟩ := hbody cdv A outer s H vs Q E hr hsp
  exact ⟨t, h.nox, q⟩
end Spk

set_option Elab.async false
set_option linter.all false
set_option maxRecDepth 100000
set_option maxHeartbeats 2000000
namespace Spk
open PySem PySem.Spec PyProof.Rows L2
open AutoSeq1 (wpAny_loadPart')

/-! ## for i, x in enumerate(t), t a tuple -/
abbrev itO (l : Addr) : Obj := { cls := .type "tuple_iterator", data := .fields #[.ref l, .int 0 0] }
abbrev enO (k : Addr) : Obj := { cls := .type "enumerate", data := .fields #[.none, .bool false, .ref k, rawInt 0, .none, .none] }
set_option maxHeartbeats 4000000 in
theorem enum_newT (l : Addr) (items : Array Value) (n : Nat) (dd : Option Addr) (sl : Array (Option Value)) : Meets (Builtin.«enumerate.__new__» ⟨[.type "enumerate", .ref l], []⟩) (fun _ R s =>
      s.heap.get? l = some { cls := .type "tuple", dict := dd, data := .seq items n, slots := sl } ∧ R (.ok (.ret (.ref (s.heap.push (itO l)).objs.size))) { s with heap := (s.heap.push (itO l)).push (enO s.heap.objs.size) }) :=
  .of_wp fun prog w A R s h => by
    obtain ⟨hp, g, d, tk, os⟩ := s
    obtain ⟨hl, h⟩ := h
    have hT : hp.IsTuple l items := ⟨_, hl, rfl, n, rfl⟩
    have hsub := sub_enumerate
    wp_walk using wpAny_loadPart' hl
    refine wpAny_stack_any fun st => wpAny_pure ?_
    split
    · rename_i c _ _ _ _ _
      cases (c == Value.type "enumerate") <;> (wp_walk using wpAny_loadPart' hl, wpAny_pyIter_tuple hT; exact ⟨_, rfl, h⟩)
    · (wp_walk using wpAny_loadPart' hl, wpAny_pyIter_tuple hT); exact ⟨_, rfl, h⟩

theorem call_enumT {prog : Program} {w : World} {A : Around} {E : Value → Shared → Prop} {s : Shared} {l : Addr} {items : Array Value} {Q : Value → Shared → Prop} (hL : s.heap.IsTuple l items)
    (h : ∀ h', IsEnum h' (s.heap.objs.size + 1) s.heap.objs.size 0 .none → h'.IsTupleIter s.heap.objs.size l 0 → (∀ b o, s.heap.get? b = some o → h'.get? b = some o) → Q (.ref (s.heap.objs.size + 1)) { s with heap := h' }) :
    wpAny (model prog w) A (call (.type "enumerate") [.ref l]) Q E s := by
  obtain ⟨⟨c, dct, dt, sl⟩, hl, hc, n, hd⟩ := hL
  replace hc : c = .type "tuple" := hc
  replace hd : dt = .seq items n := hd
  subst hc hd
  have hz : (s.heap.push (itO l)).objs.size = s.heap.objs.size + 1 := Heap.size_push ..
  have he : IsEnum ((s.heap.push (itO l)).push (enO s.heap.objs.size)) (s.heap.objs.size + 1) s.heap.objs.size 0 .none := by
    have := Heap.get?_push_size (s.heap.push (itO l)) (o := enO s.heap.objs.size) rfl
    rw [hz] at this
    exact this
  have fin := h _ he ⟨_, Heap.get?_push_of_some _ (Heap.get?_push_size _ rfl), rfl, rfl⟩ fun b o x => Heap.get?_push_of_some _ (Heap.get?_push_of_some _ x)
  refine callType_new PySem.F.called_enumerate (by decide) (PySem.F.typeCall_enumerate_1 _) (PySem.F.newCall_enumerate_1 _) (fun obj => PySem.F.args_object_init_2 obj _) PySem.F.entry_enumerate_new (enum_newT l items n dct sl) ⟨hl, ?_⟩
  show _ ∧ _
  rw [hz]
  exact ⟨⟨_, he, rfl⟩, fin⟩
/-- the tuple at a, each item in a new pair -/
def IteT (K : PySem.W.Frag) (a : Addr) : It where
  go := fun i H => ∃ (xs : List V) (x : V), SqT K H a xs ∧ xs[i]? = some x
  yld := fun i H v H' => ∃ T x, v = .ref T ∧ H T = none ∧ H' = upd H T (.tup [.int (i : Nat), x]) ∧ ∀ xs, SqT K H a xs → xs[i]? = some x
  stop := fun i H => ∃ xs : List V, SqT K H a xs ∧ xs.length = i
theorem turn_enumT {P : Program} {w : World} {K : PySem.W.Frag} {elts : List Expr} {kk : Nat} {tpos : Pos} (a e it : Addr) :
    Turn P w K (.Tuple elts kk tpos) (IteT K a) [e, it] e (fun i h => (∃ old, IsEnum h e it ((i : Nat) : Int) old) ∧ h.IsTupleIter it a i ∧ e ≠ it ∧ a ≠ it ∧ a ≠ e) where
  mem := by simp
  obj := fun i h st b hb => by
    obtain ⟨⟨old, he⟩, ⟨o, ho, hc, hd⟩, _⟩ := st
    rcases List.mem_cons.mp hb with rfl | hb
    · exact ⟨_, he, fun v q => nomatch q⟩
    · rw [List.mem_singleton.mp hb]
      exact ⟨o, ho, fun v q => by rw [hd] at q; cases q⟩
  keep := fun i h h' st k => by
    obtain ⟨⟨old, he⟩, hi, hne⟩ := st
    exact ⟨⟨old, k e (by simp) _ he⟩, hi.at fun o q => k it (by simp) o q, hne⟩
  item := by
    intro X hP hw hK hc i pins s σ H E I hf st hg
    subst hP hw hK
    obtain ⟨⟨old, he⟩, hit, hne, hai, hae⟩ := st
    obtain ⟨xs, x, hq, hx⟩ := hg
    obtain ⟨its, rv, p, hz⟩ := I.tuple hq
    obtain ⟨u, hu, ru⟩ := rv.get hx
    have hel : e < s.heap.objs.size := Heap.lt_size he
    have hil : it < s.heap.objs.size := by
      obtain ⟨_, q, _⟩ := hit
      exact Heap.lt_size q
    have hi : i < its.toArray.size := by
      rw [List.size_toArray]
      exact (List.getElem?_eq_some_iff.mp hu).1
    have D := Draws.tuple (prog := X.prog) (w := X.w) (A := X.A.in1) (I.ok.hd hc) it a hai its.toArray
    refine wpAny_pyNext_enum_itemD D he ⟨hit, p⟩ hi hne (by simp [hne, Ne.symm hae]) fun x' h' tk hx' ho hst hT hsz hk => ?_
    have ex : x' = u := by
      have h1 : its.toArray[i]? = some u := by simpa using hu
      rw [h1] at hx'
      exact (Option.some.inj hx').symm
    subst ex
    refine ⟨_, rfl, wpAny_letOwnedTupleGo_enum (s := { s with heap := h', toks := tk + 1 }) ho fun h'' he' sb => ?_⟩
    have hT2 : h''.get? s.heap.objs.size = some { cls := .type "tuple", data := .seq #[.int i tk, x'] } := (sb.2 _ (Nat.ne_of_gt hel)).trans hT
    have new : ObjOk X.prog X.w (upd H s.heap.objs.size (.tup [.int (i : Nat), x])) h'' s.heap.objs.size (.tup [.int (i : Nat), x]) :=
      ⟨size_of (Nat.le_of_ble_eq_true rfl), [.int i tk, x'], .cons ⟨_, rfl⟩ (.cons ru .nil), ⟨_, hT2, rfl, _, rfl⟩⟩
    have keepB : ∀ b ob, b ∉ [e, it] → s.heap.get? b = some ob → h''.get? b = some ob := fun b ob hb q => by
      simp only [List.mem_cons, List.not_mem_nil, or_false, not_or] at hb
      exact (sb.2 b hb.1).trans (hk b ob hb.1 hb.2 q)
    have I1 := I.turnedNew (t' := tk + 1) (ch := [e, it]) keepB hf (Nat.le_refl _) new
    refine ⟨.ref s.heap.objs.size, _, I1, rfl, ⟨_, x, rfl, I.hok.fresh (Nat.le_refl _), rfl, fun ys hy => by rw [I.tuple_inj hy hq]; exact hx⟩, ⟨⟨x', ?_⟩, hst.1.at fun o q => (sb.2 it (Ne.symm hne)).trans q, hne, hai, hae⟩, fun b hb => ?_⟩
    · rw [show ((i + 1 : Nat) : Int) = (i : Int) + 1 from rfl]
      exact he'
    · have hb' : b < s.heap.objs.size := by
        rcases List.mem_cons.mp hb with rfl | hb
        · exact hel
        · rw [List.mem_singleton.mp hb]; exact hil
      rw [upd_ne (Nat.ne_of_lt hb')]
      exact (hf b hb).1
  done := by
    intro X hP hw hK hc i pins s σ H E I hf st hg
    subst hP hw hK
    obtain ⟨⟨old, he⟩, hit, hne, hai, hae⟩ := st
    obtain ⟨xs, hq, hx⟩ := hg
    obtain ⟨its, rv, p, hz⟩ := I.tuple hq
    obtain ⟨f0, f1, f2, f3, f4, f5⟩ := hf it (by simp)
    have D := Draws.tuple (prog := X.prog) (w := X.w) (A := X.A.in1) (I.ok.hd hc) it a hai its.toArray
    have hsz : its.toArray.size = i := by rw [List.size_toArray, ← rv.length]; exact hx
    refine wpAny_pyNext_enum_endD D he ⟨by rw [hsz]; exact hit, p⟩ fun h' eb => ⟨rfl, ?_⟩
    exact I.turned (t' := s.toks) (fun b o hb q => eb b o hb q) f0 f1 f3 f4 f5
  self := fun A i s Q E st h => by
    obtain ⟨⟨_, he⟩, _⟩ := st
    exact wpAny_pyIter_enum he h

def iEnumT (K : PySem.W.Frag) (ta : TA) : TI := fun σ H R => ta σ H fun vs H1 => ∃ a xs, vs = [.ref a] ∧ SqT K H1 a xs ∧ R (IteT K a) H1
theorem i_iET {K : PySem.W.Frag} {σ : L2.St} {H : Hp} {ts : TA} {R : It → Hp → Prop} (h : ts σ H fun vs H1 => ∃ a xs, vs = [.ref a] ∧ SqT K H1 a xs ∧ R (IteT K a) H1) : iEnumT K ts σ H R := h
theorem pi_enumT {X : Cx} {e : Expr} {ta : TA} {p pos tpos : Pos} {elts : List Expr} {kk : Nat} (hg : Gl X "enumerate") (hm : X.mg "enumerate" = none) (ha : PA X [e] ta) (hs : starEach [e] X.env = [(false, eval e X.env)] := by rfl) :
    PI X (.Tuple elts kk tpos) (.Call (.Name "enumerate" p) [e] [] pos) (iEnumT X.K ta) := by
  refine ⟨fun pins s σ H R I h => ?_⟩
  refine Call_ (ld_blt I hg hm boot_enumerate (callWith_type1 (thn (ha.run pos pins s σ H _ I h) fun us s1 ⟨vs, H1, I1, r1, q1⟩ => ?_) hs rfl))
  obtain ⟨a, xs, ex, hq, q⟩ := q1
  subst ex
  obtain ⟨u, rfl, ru⟩ := r1.one
  cases ru
  obtain ⟨its, rv, p', hz⟩ := I1.tuple hq
  have ha' : a < s1.heap.objs.size := by
    obtain ⟨o, ho, _⟩ := p'
    exact Heap.lt_size ho
  refine call_enumT p' fun h' he hit hk => wpAny_pyIter_enum he ?_
  have I2 : Inv X pins σ H1 { s1 with heap := h' } := I1.kept (t' := s1.toks) hk
  have ne1 : a ≠ s1.heap.objs.size := Nat.ne_of_lt ha'
  have ne2 : a ≠ s1.heap.objs.size + 1 := Nat.ne_of_lt (Nat.lt_succ_of_lt ha')
  refine ⟨s1.heap.objs.size + 1, [s1.heap.objs.size + 1, s1.heap.objs.size], _, _, H1, rfl, I2, turn_enumT a (s1.heap.objs.size + 1) s1.heap.objs.size, ⟨⟨.none, he⟩, hit, Nat.succ_ne_self _, ne1, ne2⟩, fun b hb => ?_, q⟩
  have hle : s1.heap.objs.size ≤ b := by
    rcases List.mem_cons.mp hb with rfl | hb
    · exact Nat.le_succ _
    · rw [List.mem_singleton.mp hb]
      exact Nat.le_refl _
  exact I1.fpOk hle (I1.hok.fresh hle)
theorem for_enumT {K : PySem.W.Frag} {a : Addr} {xs : List V} {g : TG} {tb : TS} {D : Ends} {σ : L2.St} {H : Hp} (Pv : Nat → L2.St → Hp → Prop) (h0 : Pv 0 σ H) (hl : ∀ i σ H, i ≤ xs.length → Pv i σ H → SqT K H a xs)
    (hs : ∀ i x T σ H, xs[i]? = some x → Pv i σ H → H T = none → g (.ref T) σ (upd H T (.tup [.int (i : Nat), x])) fun σ2 H2 => tb { D with nx := Pv (i + 1), ct := Pv (i + 1), bk := D.nx } σ2 H2) (hd : ∀ σ H, Pv xs.length σ H → D.nx σ H) :
    forK g tb D σ (IteT K a) H := by
  refine ⟨fun i m σ H => m = xs.length - i ∧ i ≤ xs.length ∧ Pv i σ H, ⟨_, rfl, Nat.zero_le _, h0⟩, ?_⟩
  rintro i m σ H ⟨rfl, hi, p⟩
  by_cases e : i = xs.length
  · subst e
    exact .inl ⟨⟨xs, hl _ _ _ hi p, rfl⟩, hd _ _ p⟩
  · have hlt : i < xs.length := by omega
    refine .inr ⟨⟨xs, xs[i], hl _ _ _ hi p, List.getElem?_eq_getElem hlt⟩, Pv (i + 1), fun σ' H' p' => ⟨_, ?_, rfl, hlt, p'⟩, ?_⟩
    · omega
    · rintro x H' ⟨T, y, rfl, hT, rfl, hy⟩
      exact hs i y T σ H (hy xs (hl _ _ _ hi p)) p hT
end Spk

set_option Elab.async false
set_option linter.all false
set_option maxRecDepth 100000
set_option maxHeartbeats 1000000
namespace Spk
open PySem L2
/-! ## for i, x in enumerate(list) -/
theorem i_iE {K : PySem.W.Frag} {σ : L2.St} {H : Hp} {ta : TA} {R : It → Hp → Prop} (h : ta σ H fun vs H1 => ∃ a xs, vs = [.ref a] ∧ SqL K H1 a xs ∧ R (Ite K a) H1) : iEnum K ta σ H R := h
theorem for_enumL {K : PySem.W.Frag} {a : Addr} {xs : List V} {g : TG} {tb : TS} {D : Ends} {σ : L2.St} {H : Hp} (Pv : Nat → L2.St → Hp → Prop) (h0 : Pv 0 σ H) (hl : ∀ i σ H, i ≤ xs.length → Pv i σ H → SqL K H a xs)
    (hs : ∀ i x T σ H, xs[i]? = some x → Pv i σ H → H T = none → g (.ref T) σ (upd H T (.tup [.int (i : Nat), x])) fun σ2 H2 => tb { D with nx := Pv (i + 1), ct := Pv (i + 1), bk := D.nx } σ2 H2) (hd : ∀ σ H, Pv xs.length σ H → D.nx σ H) :
    forK g tb D σ (Ite K a) H := by
  refine ⟨fun i m σ H => m = xs.length - i ∧ i ≤ xs.length ∧ Pv i σ H, ⟨_, rfl, Nat.zero_le _, h0⟩, ?_⟩
  rintro i m σ H ⟨rfl, hi, p⟩
  by_cases e : i = xs.length
  · subst e
    exact .inl ⟨⟨xs, hl _ _ _ hi p, Nat.le_refl _⟩, hd _ _ p⟩
  · have hlt : i < xs.length := by omega
    refine .inr ⟨⟨xs, xs[i], hl _ _ _ hi p, List.getElem?_eq_getElem hlt⟩, Pv (i + 1), fun σ' H' p' => ⟨_, ?_, rfl, hlt, p'⟩, ?_⟩
    · omega
    · rintro x H' ⟨T, y, rfl, hT, rfl, hy⟩
      exact hs i y T σ H (hy xs (hl _ _ _ hi p)) p hT
end Spk

set_option Elab.async false
set_option linter.all false
set_option maxRecDepth 100000
set_option maxHeartbeats 1000000
namespace Spk
open PySem PySem.Spec PyProof.Rows PySem.W L2 HT
open PySem.Froz (SD sObj addTx tailTx TxOk)
/-! ## sets of texts: what tuple(sorted(set(t))) gives -/

/-- the payload may be walked: its places rise, its order is the world's -/
structure Walkable (w : World) (D : SD) : Prop where
  ris : Ris D.2.2.place.toList
  led : w.params.followText "set-order" = true ∨ D.2.2.led = true

theorem walk_tail {w : World} {ep : Nat} {es : Array (Int × Value)} {t : SetTable} {b : Bool} (r : Ris t.place.toList) (l : w.params.followText "set-order" = true ∨ t.led = true) :
    Walkable w (tailTx ep es t b) := by
  unfold tailTx
  split
  · exact ⟨relayAll_ris t es _, l.imp id fun z => (relayAll_led t es _).trans z⟩
  · exact ⟨r, l⟩
theorem walk_add {w : World} {D : SD} (x : Walkable w D) (h : Int) (v : Value) : Walkable w (addTx h v D) := by
  have r := layNew_ris D.2.2 D.1 h v x.ris
  have l : w.params.followText "set-order" = true ∨ (layNew D.2.2 D.1 h v).2.1.led = true := x.led.imp id fun z => (layNew_led D.2.2 D.1 h v).trans z
  unfold addTx
  split
  · exact walk_tail r l
  · exact walk_tail r l

/-- at a stands a set with just the texts l, none twice -/
def TxAt (P : Program) (w : World) (a : Addr) (l : List Str) (h : Heap) : Prop :=
  ∃ D : SD, h.get? a = some (sObj "set" D) ∧ TxOk P w D l ∧ l.Nodup ∧ Walkable w D

theorem TxAt.keep {P : Program} {w : World} {a : Addr} {l : List Str} {h h' : Heap} (x : TxAt P w a l h) (k : ∀ o, h.get? a = some o → h'.get? a = some o) : TxAt P w a l h' := by
  obtain ⟨D, e, r⟩ := x
  exact ⟨D, k _ e, r⟩

section
variable {P : Program} {w : World} {A : Around} {E : Value → Shared → Prop} {s : Shared} {a : Addr} {l : List Str}
/-- a text that is there already changes nothing -/
theorem put_old {D : SD} {k : Str} {u : Tok} {Q : Bool → Shared → Prop} (ho : s.heap.get? a = some (sObj "set" D)) (F : TxOk P w D l) (hk : k ∈ l) (hb : l.length < scanBound) (h : Q false s) :
    wpAny (model P w) A (setAddHashed a (.str k u) (hashStr w k)) Q E s := by
  obtain ⟨es, ep, t⟩ := D
  have hf : t.fits es.size = true := F.fit
  have hel : ElemsOf (strKind P w) es.toList := F.el
  have hsz : es.size = l.length := F.sz
  have hm : ∃ e ∈ es.toList, (strKind P w).is k e.2 = true := (F.mem k).mp hk
  have hn : List.findIdx? (fun e => (strKind P w).is k e.2) es.toList ≠ none := fun c => by
    obtain ⟨e, he, z⟩ := hm
    exact Bool.noConfusion (z.symm.trans (List.findIdx?_eq_none_iff.mp c e he))
  unfold setAddHashed setAddHashedIn
  refine wpAny_holding (wpAny_bind (wpAny_setState_of ho rfl hf ?_))
  dsimp only
  rw [byScan_of rfl (by omega) hel, if_pos rfl]
  unfold setAddByScan
  refine wpAny_bind (wpAny_bind (wpAny_rule (wpAny_bind (wpAny_setScan_of (knd := strKind P w) (k := k) (PySem.Froz.is_str k u) ho rfl hf hel ?_))))
  cases hr : List.findIdx? (fun e => (strKind P w).is k e.2) es.toList with
  | none => exact absurd hr hn
  | some j => exact wpAny_pure (wpAny_pure h)

/-- the texts behind one more -/
def withTx (l : List Str) (k : Str) : List Str := if k ∈ l then l else k :: l
theorem withTx_mem {l : List Str} {k x : Str} : x ∈ withTx l k ↔ x = k ∨ x ∈ l := by
  unfold withTx
  split
  · rename_i h
    exact ⟨.inr, fun z => z.elim (fun e => e ▸ h) id⟩
  · exact List.mem_cons
theorem withTx_len {l : List Str} {k : Str} : (withTx l k).length ≤ l.length + 1 := by
  unfold withTx
  split <;> simp
theorem tx_put {k : Str} {u : Tok} {Q : Bool → Shared → Prop} (x : TxAt P w a l s.heap) (hb : l.length + 1 < scanBound)
    (h : ∀ b h', TxAt P w a (withTx l k) h' → Heap.SameBut a s.heap h' → Q b { s with heap := h' }) :
    wpAny (model P w) A (setAddHashed a (.str k u) (hashStr w k)) Q E s := by
  obtain ⟨D, e, F, nd, wk⟩ := x
  by_cases hk : k ∈ l
  · refine put_old e F hk (by omega) ?_
    refine h false s.heap ?_ (Heap.SameBut.refl a s.heap)
    unfold withTx
    rw [if_pos hk]
    exact ⟨D, e, F, nd, wk⟩
  · refine PySem.Froz.add_x e F hk hb ?_
    refine h true _ ?_ (Heap.SameBut.update s.heap a _)
    unfold withTx
    rw [if_neg hk]
    exact ⟨_, PySem.Froz.get_upd _ e rfl, PySem.Froz.add_ok u F, List.nodup_cons.mpr ⟨hk, nd⟩, walk_add wk _ _⟩
/-- set.add's inner step with a text -/
theorem tx_add {k : Str} {u : Tok} {Q : Bool → Shared → Prop} (x : TxAt P w a l s.heap) (hb : l.length + 1 < scanBound)
    (h : ∀ b h', TxAt P w a (withTx l k) h' → Heap.SameBut a s.heap h' → Q b { s with heap := h', toks := s.toks + 1 }) :
    wpAny (model P w) A (setAdd a (.str k u)) Q E s := by
  unfold setAdd
  refine wpAny_holding (wpAny_bind ((strKind P w).pyHash (k := k) (strKind_is _ _ _ _) ?_))
  refine tx_put (s := { s with toks := s.toks + 1 }) x hb fun b h' y sb => ?_
  exact h b h' y sb
end

/-- the texts of a row, each once -/
def onceTx : List Str → List Str → List Str := fun l xs => xs.foldl withTx l
theorem onceTx_mem : ∀ (xs l : List Str) (x : Str), x ∈ onceTx l xs ↔ x ∈ xs ∨ x ∈ l
  | [], l, x => by simp [onceTx]
  | y :: ys, l, x => by
    show x ∈ onceTx (withTx l y) ys ↔ _
    rw [onceTx_mem ys, withTx_mem, List.mem_cons]
    constructor
    · rintro (z | z | z)
      · exact .inl (.inr z)
      · exact .inl (.inl z)
      · exact .inr z
    · rintro ((z | z) | z)
      · exact .inr (.inl z)
      · exact .inl z
      · exact .inr (.inr z)
theorem onceTx_len : ∀ (xs l : List Str), (onceTx l xs).length ≤ l.length + xs.length
  | [], l => Nat.le_refl _
  | y :: ys, l => by
    have a := onceTx_len ys (withTx l y)
    have b := withTx_len (l := l) (k := y)
    rw [List.length_cons]
    exact Nat.le_trans a (by omega)
theorem onceTx_snoc (l xs : List Str) (k : Str) : onceTx l (xs ++ [k]) = withTx (onceTx l xs) k := by
  unfold onceTx
  rw [List.foldl_append] <;> rfl
theorem onceTx_take (xs : List Str) {i : Nat} {k : Str} (h : xs[i]? = some k) : onceTx [] (xs.take (i + 1)) = withTx (onceTx [] (xs.take i)) k := by
  rw [List.take_add_one, h]
  exact onceTx_snoc [] _ k

section
variable {P : Program} {w : World} {A : Around} {E : Value → Shared → Prop}
/-- set.update's inner loop over a row of texts -/
theorem tx_loop {it S : Addr} {fp wr : List Addr} {G : Array GenState → Array GenState → Prop} {xs : List Str} {Pv : Nat → Value → Prop} {St : Nat → Shared → Prop} {R : Result → Shared → Prop}
    (W : WalksS P w A.in1 it fp wr G xs.length Pv St) (hS : S ∉ fp) (hb : xs.length + 1 < scanBound) (hv : ∀ i v, Pv i v → ∃ k u, xs[i]? = some k ∧ v = .str k u) :
    ∀ (m i : Nat) (s : Shared), m + i = xs.length → St i s → TxAt P w S (onceTx [] (xs.take i)) s.heap →
      (∀ s', Moved (S :: wr) G s s' → TxAt P w S (onceTx [] xs) s'.heap → R (.ok (.ret .none)) s') →
      codeAny (model P w) A (.builtin "set.update.loop" ⟨[.ref S, .ref it], []⟩) R s := by
  have sw : S ∉ wr := fun z => hS (W.sub _ z)
  have up : ∀ b ∈ wr, b ∈ S :: wr := fun b => List.mem_cons_of_mem S
  intro m
  induction m with
  | zero =>
    intro i s e st x k
    obtain rfl : i = xs.length := by omega
    refine codeAny_builtin F.entry_set_update_loop ?_
    rw [Around.under_plainId F.plain_set_update_loop _]
    show wpAny _ A.in1 (pyNext (.ref it) >>= _) _ _ s
    refine wpAny_bind (W.done s _ _ st fun s1 mv => wpAny_pure (k s1 (mv.mono up) ?_))
    rw [List.take_length] at x
    exact x.keep fun o => mv.heap S o sw
  | succ m ih =>
    intro i s e st x k
    refine codeAny_builtin F.entry_set_update_loop ?_
    rw [Around.under_plainId F.plain_set_update_loop _]
    show wpAny _ A.in1 (pyNext (.ref it) >>= _) _ _ s
    refine wpAny_bind (W.item i s _ _ (by omega) st fun v s1 pv st1 mv => ?_)
    obtain ⟨z, u, hz, rfl⟩ := hv i v pv
    have x1 := x.keep (h' := s1.heap) fun o => mv.heap S o sw
    have hl : (onceTx [] (xs.take i)).length + 1 < scanBound := by
      have q := onceTx_len (xs.take i) []
      rw [List.length_take] at q
      have : ([] : List Str).length = 0 := rfl
      omega
    show wpAny _ A.in1 (holding [Value.str z u] (setAdd S (.str z u)) >>= _) _ _ s1
    refine wpAny_bind (wpAny_holding (tx_add x1 hl fun b h' x2 sb => wpAny_pure ⟨plainId_quiet F.plain_set_update_loop _, ?_⟩))
    have old : ∀ c ∈ fp, ∀ o, s1.heap.get? c = some o → h'.get? c = some o := fun c hc o e => (sb.2 c fun z => hS (z ▸ hc)).trans e
    refine ih (i + 1) _ (by omega) (W.frame _ s1 _ _ st1 (Nat.le_succ _) old) (by rw [onceTx_take xs hz]; exact x2) fun s2 mv2 y => k s2 ?_ y
    exact Moved.trans W.gtrans ((mv.mono up).then_heap (Nat.le_succ _) fun c o hc e => (sb.2 c fun z => hc (by rw [z]; exact List.mem_cons_self)).trans e) mv2

/-- the object that set() lays down -/
def bare (w : World) : Obj := { cls := .type "set", dict := none, data := .set #[] 0 (.fresh 0 0 (!w.params.followText "set-order")) }
theorem bare_tx {h : Heap} {S : Addr} (e : h.get? S = some (bare w)) : TxAt P w S [] h :=
  ⟨(#[], 0, .fresh 0 0 (!w.params.followText "set-order")), e, PySem.Froz.TxOk.nil rfl, List.nodup_nil, ⟨List.Pairwise.nil, by
    show _ ∨ (!w.params.followText "set-order") = true
    cases w.params.followText "set-order" <;> simp⟩⟩

/-- what set(t) asks of its answer -/
def Done (P : Program) (w : World) (s : Shared) (xs : List Str) (s' : Shared) : Prop :=
  ∃ h' tk, s' = { s with heap := h', toks := tk } ∧ TxAt P w s.heap.objs.size (onceTx [] xs) h' ∧ ∀ b o, b < s.heap.objs.size → s.heap.get? b = some o → h'.get? b = some o

variable {s : Shared}
theorem tx_item : ∀ {us : List Value} {xs : List Str}, StrsAre us xs → ∀ (i : Nat) (v : Value), us[i]? = some v → ∃ k u, xs[i]? = some k ∧ v = .str k u
  | _, _, .cons y t _, 0, v, e => ⟨y, t, rfl, (Option.some.inj e).symm⟩
  | _, _, .cons y t r, i + 1, v, e => tx_item r i v e
/-- set.__init__ over a tuple of texts -/
theorem tx_init {l : Addr} {items : Array Value} {xs : List Str} (hh : A.handled = none) (hl : s.heap.IsTuple l items) (hi : StrsAre items.toList xs) (hb : xs.length + 1 < scanBound) :
    codeAny (model P w) A (.call (.builtin "set.__init__") ⟨[.ref s.heap.objs.size, .ref l], []⟩) (wants (fun r s' => r = .none ∧ Done P w s xs s') E) { s with heap := s.heap.push (bare w) } := by
  have hS : (s.heap.push (bare w)).get? s.heap.objs.size = some (bare w) := Heap.get?_push_size _ rfl
  have hT : Shared.TypeIs { s with heap := s.heap.push (bare w) } (.ref s.heap.objs.size) "set" := ⟨_, hS, rfl⟩
  obtain ⟨ol, hol, hcl, nl, hdl⟩ := hl
  have hlS : l < s.heap.objs.size := Heap.lt_size hol
  have hol' : (s.heap.push (bare w)).get? l = some ol := Heap.get?_push_of_some _ hol
  have hTl : Shared.TypeIs { s with heap := s.heap.push (bare w) } (.ref l) "tuple" := ⟨_, hol', hcl⟩
  have hl1 : (s.heap.push (bare w)).IsTuple l items := ⟨_, hol', hcl, nl, hdl⟩
  have n1 := F.sub_tuple_set
  have n2 := F.sub_tuple_frozenset
  have n3 : (Value.type "tuple" == Value.type "dict") = false := by decide
  refine codeAny_call_builtin F.called_set.init.plain F.entry_set_init (check_set_init_1 hT ?_)
  unfold Builtin.«set.__init__» noKeywords Builtin.Frozenset.updateFrom
  generalize hPI : pyIter = PI
  wp_walk
  subst hPI
  refine wpAny_pyIter_tuple hl1 (wpAny_bind (wpAny_runValue ?_))
  have sz : (s.heap.push (bare w)).objs.size = s.heap.objs.size + 1 := Heap.size_push ..
  have he : ∀ (i : Nat) (v : Value), items[i]? = some v → ∃ k u, xs[i]? = some k ∧ v = .str k u := fun i v hv => by
    have hv' : items.toList[i]? = some v := by rw [Array.getElem?_toList]; exact hv
    exact tx_item hi i v hv'
  have hn : items.size = xs.length := by rw [← StrsAre.len_eq hi, Array.length_toList]
  have W := (Walks.tuple (prog := P) (w := w) (A := A.in1.in1) (by simp [hh]) (s.heap.push (bare w)).objs.size l (by rw [sz]; exact Nat.ne_of_lt (Nat.lt_succ_of_lt hlS)) items).toS
  rw [hn] at W
  have out : s.heap.objs.size ∉ [(s.heap.push (bare w)).objs.size, l] := by
    rw [sz]
    simp only [List.mem_cons, List.not_mem_nil, or_false, not_or]
    exact ⟨Nat.ne_of_lt (Nat.lt_succ_self _), Nat.ne_of_gt hlS⟩
  refine tx_loop (A := A.in1) W out hb he xs.length 0 _ (by omega) ⟨⟨_, Heap.get?_push_size _ rfl, rfl, rfl⟩, hl1.push _⟩ (bare_tx (Heap.get?_push_of_some _ hS)) fun s' mv y => ?_
  refine wpAny_pure (wpAny_pure ⟨rfl, s'.heap, s'.toks, ?_, y, fun b o hlt e => ?_⟩)
  · obtain ⟨h', g', d', tk', os'⟩ := s'
    obtain rfl : g' = s.gens := mv.gens
    obtain rfl : d' = s.drawn := mv.drawn
    obtain rfl : os' = s.os := mv.os
    rfl
  · refine mv.heap b o (fun z => ?_) (Heap.get?_push_of_some _ (Heap.get?_push_of_some _ e))
    simp only [List.mem_cons, List.not_mem_nil, or_false] at z
    rcases z with z | z
    · exact absurd z (Nat.ne_of_lt hlt)
    · exact absurd (z.trans sz) (Nat.ne_of_lt (Nat.lt_succ_of_lt hlt))
/-- set(t), t a tuple of texts -/
theorem call_tx {l : Addr} {items : Array Value} {xs : List Str} {Q : Value → Shared → Prop} (hh : A.handled = none) (hl : s.heap.IsTuple l items) (hi : StrsAre items.toList xs) (hb : xs.length + 1 < scanBound)
    (h : ∀ s', Done P w s xs s' → Q (.ref s.heap.objs.size) s') : wpAny (model P w) A (call (.type "set") [.ref l]) Q E s := by
  obtain ⟨c, tl, hmro⟩ := F.called_set.mro
  have i1 := F.called_set.made
  have i2 := F.called_set.sub
  have i3 := F.called_set.notType
  have i4 := F.called_set.canCreate
  have i5 := F.typeCall_set_1 (.ref l)
  refine wpAny_call (codeAny_of_tree ?_)
  show wpAny _ _ (callAny (.type "set") _) _ _ _
  refine wpAny_pure ⟨Code.quiet_builtin _ (by decide +kernel), codeAny_builtin F.entry_type_call ?_⟩
  rw [Around.under_plain (weight_type_call_type "set" [.ref l] []) rfl]
  repeat (any_goals (first | assumption | wp_step))
  refine codeAny_mono (code_set_led1 (.ref l) (E := E) (Q₁ := fun v s1 => v = .ref s.heap.objs.size ∧ s1 = { s with heap := s.heap.push (bare w) }) ⟨rfl, rfl⟩) fun r s1 hr => ?_
  match r, hr with
  | .error e, hr => exact hr
  | .ok (.ret v), ⟨e1, e2⟩ =>
    subst e1
    subst e2
    have hT : Shared.TypeIs { s with heap := s.heap.push (bare w) } (.ref s.heap.objs.size) "set" := ⟨_, Heap.get?_push_size _ rfl, rfl⟩
    have j1 := F.called_set.init.lookup
    have j2 := F.called_set.init.bind (.ref s.heap.objs.size)
    repeat (any_goals (first | assumption | wp_step))
    refine codeAny_mono (tx_init (E := E) hh hl hi hb) fun r2 s2 hr2 => ?_
    match r2, hr2 with
    | .error e, hr2 => exact hr2
    | .ok (.ret v), ⟨e3, dn⟩ =>
      subst e3
      repeat (any_goals (first | assumption | wp_step))
      exact h s2 dn
end
/-! ### in the user's terms -/
/-- the set of texts at a -/
def TxO (P : Program) (w : World) (a : Addr) (l : List Str) : HO := .ext fun h => TxAt P w a l h
section
variable {X : Cx}
theorem txO_get {pins : List (Addr × Obj)} {σ : L2.St} {H : Hp} {s : Shared} {a : Addr} {l : List Str} (I : Inv X pins σ H s) (ha : H a = some (TxO X.prog X.w a l)) : TxAt X.prog X.w a l s.heap := (I.hok a _ ha).1
theorem txO_new {P : Program} {w : World} {H : Hp} {h : Heap} {a : Addr} {l : List Str} (R : TxAt P w a l h) : ObjOk P w H h a (TxO P w a l) := by
  obtain ⟨D, e, _⟩ := id R
  exact ⟨R, ⟨_, e⟩, fun h1 h2 p k => p.keep k⟩
/-- set(t) of a tuple of texts -/
def rTxSet (K : PySem.W.Frag) (P : Program) (w : World) : List V → Hp → VK → Prop := fun vs H Q => ∃ (a : Addr) (xs : List Str), vs = [V.ref a] ∧ SqT K H a (xs.map V.str) ∧ xs.length ≤ 1000 ∧
  ∀ p, H p = none → Q (.ref p) (upd H p (TxO P w p (onceTx [] xs)))
theorem cr_txSet (hc : X.calm = true) : CallR X (.type "set") (rTxSet X.K X.prog X.w) := by
  intro pins s σ H vs us Q I r h
  obtain ⟨a, xs, rfl, hs, hl, q⟩ := h
  obtain ⟨its, rv, pt, hz⟩ := I.tuple hs
  rw [Vals.ref1 r]
  refine call_tx (items := its.toArray) (xs := xs) (I.ok.hd hc) (show s.heap.IsTuple a its.toArray from pt) (strsAre_of rv) (by unfold scanBound; omega) fun s' dn => ?_
  obtain ⟨h', tk, rfl, tx, keep⟩ := dn
  exact ⟨.ref _, upd H s.heap.objs.size (TxO X.prog X.w s.heap.objs.size (onceTx [] xs)), I.laid (t' := tk) (fun b u e => keep b u (Heap.lt_size e) e) (Nat.le_refl _) (txO_new tx), rfl, q _ (I.hok.fresh (Nat.le_refl _))⟩
end
/-! ### sorted -/
theorem perm_of_nodup {α : Type} [DecidableEq α] : ∀ (l zs : List α), l.Nodup → (∀ x ∈ l, x ∈ zs) → zs.length ≤ l.length → zs.Perm l
  | [], zs, _, _, h => by
    have e : zs = [] := List.eq_nil_of_length_eq_zero (Nat.le_zero.mp h)
    rw [e]
  | x :: l, zs, nd, hm, h => by
    obtain ⟨hx, nd'⟩ := List.nodup_cons.mp nd
    have mx : x ∈ zs := hm x List.mem_cons_self
    have pe := List.perm_cons_erase mx
    have le : (zs.erase x).length ≤ l.length := by
      have a := pe.length_eq
      rw [List.length_cons] at a h
      omega
    refine pe.trans (List.Perm.cons x (perm_of_nodup l (zs.erase x) nd' (fun y hy => ?_) le))
    have ne : y ≠ x := fun z => hx (by rw [← z]; exact hy)
    exact (List.mem_erase_of_ne ne).mpr (hm y (List.mem_cons_of_mem x hy))
/-- the text that a value is -/
def txOf : Value → Str
  | .str x _ => x
  | _ => Str.empty
theorem strs_txOf : ∀ us : List Value, (∀ u ∈ us, ∃ x t, u = Value.str x t) → StrsAre us (us.map txOf)
  | [], _ => .nil
  | u :: us, h => by
    obtain ⟨x, t, rfl⟩ := h u List.mem_cons_self
    exact .cons x t (strs_txOf us fun v hv => h v (List.mem_cons_of_mem _ hv))
theorem tx_rows {P : Program} {w : World} {es : Array (Int × Value)} {ep : Nat} {t : SetTable} {l : List Str} {us : List Value} (F : TxOk P w (es, ep, t) l) (nd : l.Nodup) (pm : us.Perm (es.toList.map (·.2))) :
    StrsAre us (us.map txOf) ∧ (us.map txOf).Perm l := by
  have all : ∀ u ∈ us, ∃ x t, u = Value.str x t := fun u hu => by
    obtain ⟨e, he, rfl⟩ := List.mem_map.mp (pm.mem_iff.mp hu)
    obtain ⟨⟨k, hk, _⟩, _⟩ := F.el e he
    obtain ⟨t, ev⟩ := Value.isStrOf_shape (x := k) (v := e.2) hk
    exact ⟨k, t, ev⟩
  refine ⟨strs_txOf us all, perm_of_nodup l _ nd (fun x hx => ?_) ?_⟩
  · obtain ⟨e, he, q⟩ := (F.mem x).mp hx
    obtain ⟨t, ev⟩ := Value.isStrOf_shape (x := x) (v := e.2) q
    refine List.mem_map.mpr ⟨e.2, pm.mem_iff.mpr (List.mem_map.mpr ⟨e, he, rfl⟩), ?_⟩
    rw [ev] <;> rfl
  · have z : es.size = l.length := F.sz
    rw [List.length_map, pm.length_eq, List.length_map, Array.length_toList]
    omega
section
variable {X : Cx}
/-- sorted(s) of a set of fewer than 64 texts -/
def rTxSorted (P : Program) (w : World) : List V → Hp → VK → Prop := fun vs H Q => ∃ (a : Addr) (l : List Str), vs = [V.ref a] ∧ H a = some (TxO P w a l) ∧ l.length < 64 ∧
  ∀ ys p, ys.Perm l → sortedS ys = true → H p = none → Q (.ref p) (upd H p (.lst (ys.map V.str)))
theorem cr_txSorted (hc : X.calm = true) : CallR X (.builtin "sorted") (rTxSorted X.prog X.w) := by
  intro pins s σ H vs us Q I r h
  obtain ⟨a, l, rfl, ha, h64, q⟩ := h
  obtain ⟨⟨es, ep, t⟩, ho, F, nd, wk⟩ := txO_get I ha
  have hsz : es.size = l.length := F.sz
  rw [Vals.ref1 r]
  refine Calls.call_function_entry PyProof.Rows.kind_sorted PyProof.Rows.plain_sorted PyProof.Rows.entry_sorted (PyProof.Rows.args_sorted1 _) ?_
  unfold Builtin.«sorted»
  refine wpAny_bind (m := checkCount "sorted" 1 1 _) (wpAny_pure (wpAny_bind (collect_set (A := X.A.in1) (I.ok.hd hc) ⟨_, ho, rfl, rfl⟩ F.fit (by rw [hsz]; unfold scanBound; omega) wk.ris wk.led fun s1 vs k1 hz g1 o1 pm => ?_)))
  obtain ⟨hS, pl⟩ := tx_rows F nd pm
  have hvl : vs.length = l.length := by
    have e := pl.length_eq
    rw [List.length_map] at e
    exact e
  refine wpAny_bind (wpAny_newList ?_ (by rw [hvl, sizeLine_eq]; omega))
  have hoL : (s1.heap.push (seqObj "list" vs.toArray 0)).get? s1.heap.objs.size = some (seqObj "list" vs.toArray 0) := Heap.get?_push_size _ rfl
  refine wpAny_bind (wpAny_holding (wpAny_call_entry PyProof.Rows.slot_list_sort ⟨_, hoL, rfl⟩ PyProof.Rows.entry_list_sort
    (list_sort_treeK strKind_oneLt hoL hS.keysOf (fun v1 v2 rest e => keyKind_strs (by rw [← e]; exact hS)) (by rw [hvl]; exact h64) fun st' hp hs => ⟨_, rfl, ?_⟩) (PyProof.Rows.args_list_sort _)))
  obtain ⟨ys, y1, y2, y3⟩ := sorted_out_str hS hp hs
  obtain ⟨e', he'⟩ := PyProof.Rows.sortedHeap_at (vs := vs) (out := (arrOf st').map (·.2)) hoL
  have yl : ys.Perm l := y2.trans pl
  have len : (ys.map V.str).length ≤ sizeLine := by
    rw [List.length_map, yl.length_eq, sizeLine_eq]
    omega
  have old : ∀ b u, s.heap.get? b = some u → (sortedHeap (s1.heap.push (seqObj "list" vs.toArray 0)) s1.heap.objs.size vs ((arrOf st').map (·.2))).get? b = some u := fun b u e => by
    have lt := Heap.lt_size (k1 b u e)
    rw [PyProof.Rows.sortedHeap_old (Nat.ne_of_lt lt) (by rw [size_push']; exact Nat.lt_succ_of_lt lt)]
    exact Heap.get?_push_of_some _ (k1 b u e)
  have J : Inv X pins σ (upd H s1.heap.objs.size (.lst (ys.map V.str))) { s with heap := sortedHeap (s1.heap.push (seqObj "list" vs.toArray 0)) s1.heap.objs.size vs ((arrOf st').map (·.2)), gens := s1.gens, drawn := s1.drawn, toks := s1.toks } :=
    I.call (ch := []) (Un.laid old hz (I.hok.fresh hz)) (I.hok.laid old hz ⟨len, ((arrOf st').map (·.2)).toList, e', vals_of_strs y1, by rw [Array.toArray_toList]; exact he'⟩) (by rw [g1]; exact I.bare) (fun _ z => nomatch z)
  refine wpAny_pure ⟨_, rfl, .ref s1.heap.objs.size, _, ?_, rfl, q ys _ yl y3 (I.hok.fresh hz)⟩
  obtain ⟨h1, gg1, d1, t1, os1⟩ := s1
  obtain ⟨h0, g0, d0, t0, os0⟩ := s
  cases o1
  exact J
end
end Spk

set_option Elab.async false
set_option linter.all false
set_option maxRecDepth 100000
set_option maxHeartbeats 1000000
namespace Spk
open PySem PySem.Spec PyProof.Rows PySem.W L2
/-! ## a lone star beside keywords -/
section
variable {M : Model} {A : Around} {E : Value → Shared → Prop} {s : Shared}
theorem lone_kw {f : Value} {x : Sem Value} {pos : Pos} {keywords : List (Option Str × Sem Value)} {Q : Args → Shared → Prop} (hall : keywords.all (·.1.isSome) = true)
    (h : wpAny M A x (fun v s1 => wpAny M A (evalAll (keywords.map (·.2))) (fun ks s2 => StarOf M A E v (fun vs s3 => Q ⟨vs, (keywords.filterMap (·.1)).zip ks⟩ s3) s2) E s1) E s) :
    wpAny M A (evalArgs f true [(true, (do let v ← x; standAt pos; pure v))] keywords) Q E s := by
  unfold evalArgs
  refine wpAny_bind (wpAny_bind (wpAny_mono h (fun v s1 h1 => wpAny_bind (wpAny_standAt (wpAny_pure ?_))) fun _ _ z => z))
  refine wpAny_bind (wpAny_pure ?_)
  dsimp only
  refine wpAny_holding ?_
  simp only [hall, if_true]
  refine wpAny_bind (wpAny_mono h1 (fun ks s2 h2 => ?_) fun _ _ z => z)
  unfold StarOf at h2
  refine wpAny_bind (wpAny_bind (wpAny_mono h2 (fun b s3 h3 => ?_) fun _ _ z => z))
  obtain ⟨rfl, h3⟩ := h3
  simp only [Bool.false_eq_true, if_false]
  exact wpAny_holding (wpAny_mono h3 (fun vs s4 h4 => wpAny_pure h4) fun _ _ z => z)
theorem star_kw_call {K : Frag} {f : Value} {first : List Value} {env : Env} {pos p : Pos} {e : Expr} {kws : List Keyword} {Q : Value → Shared → Prop} (hk : keepIn K f = true) (hall : (backToKw pos (keywordEach kws env)).all (·.1.isSome) = true)
    (h : wpAny M A (eval e env) (fun v s1 => wpAny M A (evalAll ((backToKw pos (keywordEach kws env)).map (·.2))) (fun ks s2 => StarOf M A E v (fun vs s3 => K.In s3.heap ∧ wpAny M A (call f (first ++ vs) (((backToKw pos (keywordEach kws env)).filterMap (·.1)).zip ks)) Q E s3) s2) E s1) E s)
    (he : starEach [.Starred e p] env = [(true, eval e env)]) : wpAny M A (callWith pos f first (backTo pos (starEach [.Starred e p] env)) (backToKw pos (keywordEach kws env))) Q E s := by
  rw [he]
  have z := lone_kw (f := f) (x := eval e env) (pos := pos) (keywords := backToKw pos (keywordEach kws env)) (Q := fun a s3 => K.In s3.heap ∧ wpAny M A (call f (first ++ a.pos) a.kw) Q E s3) hall h
  unfold callWith
  refine wpAny_bind (wpAny_holding (wpAny_mono z (fun a s1 h1 => wpAny_bind (wpAny_standAt ?_)) fun _ _ y => y))
  obtain ⟨k, hk', L⟩ := keeps_K (M := M) hk _ h1.1
  have hst : (backTo pos [(true, eval e env)]).any (·.1) = true := rfl
  simp only [hst, Bool.true_or]
  refine wpAny_bind (L.here ?_)
  have tail : ∀ {t : Sem Value}, wpAny M A t Q E s1 → wpAny M A (t >>= fun r => holding [r] point >>= fun _ => pure r) Q E s1 := by
    intro t ht
    exact wpAny_bind (wpAny_mono ht (fun r s2 hr => wpAny_bind (wpAny_holding (wpAny_point (wpAny_pure hr)))) fun _ _ y => y)
  have marked : ∀ mk : Value, wpAny M A (callMarked mk f (first ++ a.pos) a.kw) Q E s1 := by
    intro mk
    unfold callMarked
    exact Calls.wpAny_keep h1.2
  rcases hk' with rfl | rfl | rfl
  · exact tail (marked _)
  · exact tail (wpAny_operating h1.2)
  · exact tail (wpAny_operating h1.2)
end
/-! ## defs that are called with keywords alone beside a star -/
/-- the promise of a def that is called with these keywords: of the positional values and of those of the keywords -/
def FnK (P : Program) (w : World) (K : Frag) (mg : Str → Option Value) (base : Heap) (CX : CXT) (k : Nat) (f : Addr) (ks : List Str) (sp : List V → List V → Hp → VK → XK → Prop) : Prop :=
  ∀ (A : Around) (outer : List Env) (s : Shared) (H : Hp) (us ws : List Value) (vs zs : List V) (Q : VK) (E : XK), Room k A → Env0 P w K mg base A outer s H → Vals vs us → Vals zs ws → zs.length = ks.length → sp vs zs H Q E →
    codeAny (model P w) A (.call (.ref f) ⟨us, ks.zip ws⟩) (CR CX outer P w H s Q E) s
section
variable {CX : CXT} {P : Program} {w : World} {K : Frag} {mg : Str → Option Value} {base : Heap} {k : Nat} {f : Addr} {name qual : Str} {params : Arguments} {body : List Stmt} {scope : Scope} {dV kV doc pm cdv ct oc : Value} {an od : Option Addr}
  {osl : Array (Option Value)} {N ps ks : List Str} {sp : Sp}
/-- def f(a, .., *v, x, y, ..), called f(a, .., *rest, x = .., y = .., ..): what is left over is a new tuple -/
theorem fn_starK {pv : Str} (lk : K.lookup f = some ⟨oc, od, .func (fnOf name qual params body scope dV kV doc pm an cdv ct), osl⟩) (hcd : codeIn K cdv qual = true) (S : FnScope N (ps ++ ks ++ [pv]) scope) (hCX : StX.CXUp CX)
    (hb : ∀ us rest ws : List Value, us.length = ps.length → ws.length = ks.length → bindArgs (fnOf name qual params body scope dV kV doc pm an cdv ct) ⟨us ++ rest, ks.zip ws⟩ = (newTuple rest >>= fun t => pure ((ps ++ ks).zip (us ++ ws) ++ [(pv, t)])))
    (hbody : ∀ (A : Around) (outer : List Env) (s : Shared) (H : Hp) (vs : List V) (Q : VK) (E : XK), Room k (A.deeper (envOfC qual scope s.heap.objs.size f cdv)) → sp vs H Q E →
      ∃ t, PSs (cxOf CX P w K mg base N qual scope f cdv A outer s H E) body t ∧ t { nx := fun _ H1 => Q .non H1, rt := Q } (L2.start N vs) H) :
    FnK P w K mg base CX (k + 1) f ks (fun vs zs H Q E => ∃ ws rest, vs = ws ++ rest ∧ ws.length = ps.length ∧ rest.length ≤ sizeLine ∧ ∀ p o, H p = Option.none → o.cls = .type "tuple" → o.dict = Option.none → sp (ws ++ zs ++ [V.ref p]) (upd H p (.frz o (.tup rest))) Q E) := by
  intro A outer s H us wz vs zs Q E hr e0 r rz lz hsp
  obtain ⟨ws, rest, ev, hl, hz, hq⟩ := hsp
  subst ev
  obtain ⟨u1, u2, eu, r1, r2⟩ := StX.vals_split r
  subst eu
  have fresh : H s.heap.objs.size = Option.none := e0.hok.fresh (Nat.le_refl _)
  have l1 : u1.length = ps.length := by
    rw [← r1.length]
    exact hl
  have l2 : u2.length ≤ sizeLine := by
    rw [← r2.length]
    exact hz
  have l3 : wz.length = ks.length := by
    rw [← rz.length]
    exact lz
  refine StX.run_bnd lk hcd S hr e0 (G := fun xs H2 => ∃ p o, H p = Option.none ∧ o.cls = .type "tuple" ∧ o.dict = Option.none ∧ xs = ws ++ zs ++ [V.ref p] ∧ H2 = upd H p (.frz o (.tup rest))) ?_ ?_
  · intro A2 Ex Q2 h
    rw [hb u1 u2 wz l1 l3]
    refine wpAny_bind (wpAny_newTuple (wpAny_pure ?_) l2)
    have new : ObjOk P w (upd H s.heap.objs.size (.frz ({ cls := .type "tuple", data := .seq u2.toArray } : Obj) (.tup rest))) (s.heap.push ({ cls := .type "tuple", data := .seq u2.toArray } : Obj)) s.heap.objs.size (.frz ({ cls := .type "tuple", data := .seq u2.toArray } : Obj) (.tup rest)) := ⟨Heap.get?_push_size _ rfl, hz, u2, r2, ⟨_, Heap.get?_push_size _ rfl, rfl, _, rfl⟩⟩
    have un := StX.un_laid (fs := frs outer) (s := s) (o := ({ cls := .type "tuple", data := .seq u2.toArray } : Obj)) (u := .frz ({ cls := .type "tuple", data := .seq u2.toArray } : Obj) (.tup rest)) fresh
    have z := h _ _ (ws ++ zs ++ [V.ref s.heap.objs.size]) (u1 ++ wz ++ [Value.ref s.heap.objs.size]) (StX.env0_laid e0 new) un rfl (fun e s2 => hCX outer s H _ _ E e s2 un (fun b o q => Heap.get?_push_of_some _ q) rfl) ((r1.append rz).append (.cons rfl .nil))
      (by simp [hl, lz]) ⟨_, _, fresh, rfl, rfl, rfl, rfl⟩
    rw [List.zip_append (by simp [l1, l3])] at z
    exact z
  · intro s2 H2 xs g hr2
    obtain ⟨p, o, hp, oc, od, ex, eH⟩ := g
    subst ex eH
    exact hbody A outer s2 _ _ Q E hr2 (hq p o hp oc od)
end
/-- C(*e, x = .., ..): a new instance and its dict, then __init__ -/
def tMakeSK (K : Frag) (C : Addr) (m : Nat) (sp : List V → List V → Hp → VK → XK → Prop) (E : XK) (te : TE) (tk : TA) : TE := fun σ H Q => te σ H fun y H1 => ∃ a xs, y = V.ref a ∧ tk σ H1 fun zs H2 => (SqT K H2 a xs ∨ SqL K H2 a xs) ∧ zs.length = m ∧
  ∀ x dx, H2 x = Option.none → H2 dx = Option.none → dx ≠ x → sp (V.ref x :: xs) zs (upd (upd H2 dx (.own x)) x (.ins C dx [])) (fun v H3 => v = .non ∧ Q (.ref x) H3) E
section
variable {X : Cx} {CX : CXT} {k : Nat} {f C : Addr} {ks : List Str} {sp : List V → List V → Hp → VK → XK → Prop} {E : XK} {x : Str} {p sp_ pos : Pos} {e : Expr} {kws : List Keyword} {te : TE} {tk : TA}
theorem pe_makeSK (M : Mk X.K C f) (F : FnK X.prog X.w X.K X.mg X.base CX k f ks sp) (hr : Room (k + 1) X.A) (hg : Gl X x) (hm : X.mg x = some (.ref C)) (hx : Passes CX X E) (he : PE X e te) (hkw : PK X kws tk)
    (hall : (backToKw pos (keywordEach kws X.env)).all (·.1.isSome) = true := by rfl) (hks : (backToKw pos (keywordEach kws X.env)).filterMap (·.1) = ks := by rfl) (hdb : (x == ("__debug__" : Str)) = false := by decide)
    (hst : starEach [.Starred e sp_] X.env = [(true, eval e X.env)] := by rfl) : PE X (.Call (.Name x p) [.Starred e sp_] kws pos) (tMakeSK X.K C ks.length sp E te tk) := by
  constructor
  intro pins s σ H Q I h
  refine wpAny_Call_Name_kw (ld_glob I hg hm ?_ hdb)
  refine star_kw_call M.kp hall (thn (he.run pins s σ H _ I h) ?_) hst
  intro v s1 z1
  obtain ⟨y, H1, I1, ry, a, xs, ey, q1⟩ := z1
  subst ey
  obtain rfl : v = Value.ref a := ry
  refine thn (hkw.run pos pins s1 σ H1 _ I1 q1) ?_
  intro ws s2 z2
  obtain ⟨zs, H2, I2, rz, sq, l2, q2⟩ := z2
  refine StX.star_any I2 sq ?_
  intro us s3 I3 rv
  refine ⟨I3.kIn, ?_⟩
  rw [hks]
  have hq := q2 (s3.heap.objs.size + 1) s3.heap.objs.size (I3.hok.fresh (Nat.le_succ _)) (I3.hok.fresh (Nat.le_refl _)) (Nat.ne_of_lt (Nat.lt_succ_self _))
  have J := Inv.made (C := C) I3
  have rv' : Vals (V.ref (s3.heap.objs.size + 1) :: xs) (Value.ref (s3.heap.objs.size + 1) :: us) := .cons rfl rv
  refine wpAny_call (make_map (f := f) I3.kIn M.makes M.init (beq_iff_eq.mp M.fn) (codeAny_mono (F _ X.stack _ _ (Value.ref (s3.heap.objs.size + 1) :: us) ws _ _ _ E (hr.make C us (ks.zip ws)) (J.env0.make C us (ks.zip ws)) rv' rz l2 hq) ?_))
  intro r s4 hr4
  match r, hr4 with
  | .error er, hr4 => exact hx pins σ _ _ er s4 J hr4
  | .ok .next, hr4 => exact hr4.elim
  | .ok .brk, hr4 => exact hr4.elim
  | .ok .cont, hr4 => exact hr4.elim
  | .ok (.ret u), hr4 =>
    obtain ⟨v, H3, J3, rv3, ev, q3⟩ := J.after hr4
    subst ev
    exact ⟨rv3, ⟨V.ref (s3.heap.objs.size + 1), H3, J3, rfl, q3⟩⟩
end
end Spk

set_option Elab.async false
set_option linter.all false
set_option maxRecDepth 100000
set_option maxHeartbeats 1000000
namespace Spk
open PySem PySem.Spec PyProof.Rows PySem.W L2 ClX
/-! ## C.m(e, .., k = v, ..), m a classmethod -/
def tCMethK (C : Addr) (n m : Nat) (sp : Sp) (gV : List V → List V → List V) (E : XK) (ta : TE) (t tk : TA) : TE := fun σ H Q => ta σ H fun x H1 => x = .ref C ∧ t σ H1 fun vs H2 => tk σ H2 fun zs H3 => vs.length = n ∧ zs.length = m ∧ sp (gV (.ref C :: vs) zs) H3 Q E
section
variable {X : Cx} {CX : CXT} {k n : Nat} {C p g : Addr} {fd : FuncData} {mc : Value} {sp : Sp} {E : XK} {m : Str} {ps ks : List Str} {gg : List Value → List Value → List Value} {gV : List V → List V → List V} {pos apos : Pos} {e o : Expr} {es : List Expr} {kws : List Keyword} {ta : TE} {t tk : TA}
theorem pe_cmethK {pl : Sem Bool} (he : PE X o ta) (r : CRead X.K C mc) (c : CMet X.K C mc m p g) (F : FnOk X.prog X.w X.K X.mg X.base CX k g fd ps sp) (hb : KBn X.K fd ps (n + 1) ks gg gV) (hr : Room k X.A) (hx : Passes CX X E) (ha : PA X (e :: es) t) (hk : PK X kws tk)
    (hall : (backToKw pos (keywordEach kws X.env)).all (·.1.isSome) = true := by rfl) (hks : (backToKw pos (keywordEach kws X.env)).filterMap (·.1) = ks := by rfl)
    (hse : starEach (e :: es) X.env = (false, eval e X.env) :: starEach es X.env := by rfl)
    (hpl : (((backTo pos (starEach (e :: es) X.env)).any fun x => x.1) || (backToKw pos (keywordEach kws X.env)).any fun x => x.1.isNone) = false := by rfl)
    (ht : eval (.Call (.Attribute o m apos) (e :: es) kws pos) X.env = (do
      let ov ← eval o X.env
      standAt apos.atName
      let (f, first) ← holding [ov] (getMethod ov m pl)
      callWith pos f first (backTo pos (starEach (e :: es) X.env)) (backToKw pos (keywordEach kws X.env))) := by rfl) :
    PE X (.Call (.Attribute o m apos) (e :: es) kws pos) (tCMethK C n ks.length sp gV E ta t tk) := by
  refine ⟨fun pins s σ H Q I h => ?_⟩
  refine PySem.W.methodCall_KW (pl := pl) (thn (he.run pins s σ H _ I h) fun u s1 ⟨x, H1, I1, rx, ex, z⟩ => ?_) ht
  subst ex
  obtain rfl : u = Value.ref C := rx
  refine getmethcm_ok I1 r c fun s2 I2 => ?_
  refine callwith_met (a := C) (g := g) hpl c.fi (evalArgs_kw2 hall (thn (ha.run pos _ s2 σ _ _ I2 z) fun us s3 ⟨vs, H2, I3, rv, z2⟩ => ?_) hse)
  refine thn (hk.run pos _ s3 σ H2 _ I3 z2) fun ws s4 ⟨zs, H3, I4, rz, l1, l2, q⟩ => ?_
  refine ⟨⟨pin_at I4, I4.kIn⟩, ?_⟩
  rw [hks]
  have w1 : us.length = n := by rw [← rv.length]; exact l1
  have w2 : ws.length = ks.length := by rw [← rz.length]; exact l2
  have rv' : Vals (V.ref C :: vs) (Value.ref C :: us) := .cons rfl rv
  refine wpAny_call (PySem.W.method_call (pin_at I4) (codeAny_mono (F.run X.A X.stack s4 H3 ⟨Value.ref C :: us, ks.zip ws⟩ (gg (Value.ref C :: us) ws) _ _ E hr I4.env0 (hb.to s4 (Value.ref C :: us) ws I4.kIn (by rw [List.length_cons, w1]) w2) (hb.rel rv' rz) q) ?_))
  intro r5 s5 hr5
  match r5, hr5 with
  | .error er, hr5 => exact hx _ σ _ _ er s5 I4 hr5
  | .ok .next, hr5 => exact hr5.elim
  | .ok .brk, hr5 => exact hr5.elim
  | .ok .cont, hr5 => exact hr5.elim
  | .ok (.ret u5), hr5 => exact ClX.unpinE (I4.after hr5)
theorem i_cmk {C : Addr} {n m : Nat} {sp : Sp} {gV : List V → List V → List V} {E : XK} {ta : TE} {t tk : TA} {σ : L2.St} {H : Hp} {Q : VK} (h : ta σ H fun x H1 => x = .ref C ∧ t σ H1 fun vs H2 => tk σ H2 fun zs H3 => vs.length = n ∧ zs.length = m ∧ sp (gV (.ref C :: vs) zs) H3 Q E) : tCMethK C n m sp gV E ta t tk σ H Q := h
end
/-! ## a statement that is never reached -/
def tDead : TS := fun _ _ _ => False
theorem ps_dead {X : Cx} {st : Stmt} : PS X st tDead := ⟨fun _ _ _ _ _ _ h => h.elim⟩
end Spk

set_option Elab.async false
set_option linter.all false
set_option maxRecDepth 100000
set_option maxHeartbeats 1000000
namespace Spk
open PySem PySem.Spec PyProof.Rows PySem.W L2 HT
open PySem.Froz (SD sObj TxOk)
/-! ## len(s), s a set of texts -/
def rTxLen (P : Program) (w : World) : List V → Hp → VK → Prop := fun vs H Q => ∃ (a : Addr) (l : List Str), vs = [V.ref a] ∧ H a = some (TxO P w a l) ∧ l.length ≤ 100000 ∧ Q (.int l.length) H
theorem cr_txLen {X : Cx} : CallR X (.builtin "len") (rTxLen X.prog X.w) := by
  intro pins s σ H vs us Q I r h
  obtain ⟨a, l, rfl, ha, hl, q⟩ := h
  rw [Vals.ref1 r]
  obtain ⟨⟨es, ep, t⟩, e, F, nd, wk⟩ := txO_get I ha
  refine call_len_set (o := sObj "set" (es, ep, t)) (es := es) (ep := ep) (t := t) e ?_ rfl F.fit ?_ ?_
  · exact ⟨rfl, rfl, rfl⟩
  · have := F.sz
    simp only at this
    omega
  · have z := F.sz
    simp only at z
    rw [z]
    exact ⟨.int l.length, H, I.kept (t' := s.toks + 1 + 1) fun b u x => x, ⟨_, rfl⟩, q⟩
/-- none twice: the set has as many -/
theorem onceTx_nodup : ∀ (xs l : List Str), (l.reverse ++ xs).Nodup → (onceTx l xs).length = l.length + xs.length
  | [], l, _ => by simp [onceTx]
  | x :: xs, l, h => by
    have hx : x ∉ l := fun hm => by
      rw [List.nodup_append] at h
      exact h.2.2 x (List.mem_reverse.mpr hm) x List.mem_cons_self rfl
    have e : onceTx l (x :: xs) = onceTx (x :: l) xs := by
      show List.foldl withTx (withTx l x) xs = _
      unfold withTx
      rw [if_neg hx]
      rfl
    rw [e, onceTx_nodup xs (x :: l) (by simpa using h)]
    simp only [List.length_cons]
    omega
end Spk

set_option Elab.async false
set_option linter.all false
set_option maxRecDepth 100000
set_option maxHeartbeats 2000000
namespace Spk
open PySem PySem.Spec PyProof.Rows L2
/-! ## for x, y in zip(l, t), l a list and t a tuple -/
def ItzM (K : PySem.W.Frag) (a b : Addr) : It where
  go := fun i H => ∃ (xs ys : List V) (x y : V), SqL K H a xs ∧ SqT K H b ys ∧ xs[i]? = some x ∧ ys[i]? = some y
  yld := fun i H v H' => ∃ T x y, v = .ref T ∧ H T = none ∧ H' = upd H T (.tup [x, y]) ∧ (∀ xs, SqL K H a xs → xs[i]? = some x) ∧ ∀ ys, SqT K H b ys → ys[i]? = some y
  stop := fun i H => ∃ xs ys : List V, SqL K H a xs ∧ SqT K H b ys ∧ xs.length = i ∧ ys.length = i
theorem turn_zipM {P : Program} {w : World} {K : PySem.W.Frag} {elts : List Expr} {kk : Nat} {tpos : Pos} {a b z TI TO i1 i2 : Addr} (Z : ZipSep2 z TI TO i1 i2 [i1, a] [i2, b]) (n1 : a ≠ i1) (n2 : b ≠ i2) :
    Turn P w K (.Tuple elts kk tpos) (ItzM K a b) [z, TI, TO, i1, i2] z (fun i h => IsZip h z TI TO .none ∧ IsTupOf2 h TI (.ref i1) (.ref i2) ∧ (∃ x y, IsTupOf2 h TO x y) ∧ h.IsListIter i1 a i ∧ h.IsTupleIter i2 b i) where
  mem := by simp
  obj := fun i h st c hc => by
    obtain ⟨h1, h2, ⟨x, y, h3⟩, ⟨o, ho, _, hd⟩, ⟨o2, ho2, _, hd2⟩⟩ := st
    simp only [List.mem_cons, List.not_mem_nil, or_false] at hc
    rcases hc with rfl | rfl | rfl | rfl | rfl
    · exact ⟨_, h1, fun v q => nomatch q⟩
    · exact ⟨_, h2, fun v q => nomatch q⟩
    · exact ⟨_, h3, fun v q => nomatch q⟩
    · exact ⟨o, ho, fun v q => by rw [hd] at q; cases q⟩
    · exact ⟨o2, ho2, fun v q => by rw [hd2] at q; cases q⟩
  keep := fun i h h' st k => by
    obtain ⟨h1, h2, ⟨x, y, h3⟩, h4, h5⟩ := st
    exact ⟨k z (by simp) _ h1, k TI (by simp) _ h2, ⟨x, y, k TO (by simp) _ h3⟩, h4.at fun o q => k i1 (by simp) o q, h5.at fun o q => k i2 (by simp) o q⟩
  item := by
    intro X hP hw hK hc i pins s σ H E I hf st hg
    subst hP hw hK
    obtain ⟨h1, h2, ⟨x0, y0, h3⟩, h4, h5⟩ := st
    obtain ⟨xs, ys, x, y, hl, ht, hx, hy⟩ := hg
    obtain ⟨its, rv, pl, hz⟩ := I.list hl
    obtain ⟨its2, rv2, pt, hz2⟩ := I.tuple ht
    obtain ⟨u, hu, ru⟩ := rv.get hx
    obtain ⟨u2, hu2, ru2⟩ := rv2.get hy
    have D1 := Draws.list (prog := X.prog) (w := X.w) (A := X.A.in1) (I.ok.hd hc) i1 a n1 its.toArray
    have D2 := Draws.tuple (prog := X.prog) (w := X.w) (A := X.A.in1) (I.ok.hd hc) i2 b n2 its2.toArray
    have hi : i < its.toArray.size := by
      rw [List.size_toArray]
      exact (List.getElem?_eq_some_iff.mp hu).1
    have hi2 : i < its2.toArray.size := by
      rw [List.size_toArray]
      exact (List.getElem?_eq_some_iff.mp hu2).1
    have zl : z < s.heap.objs.size := Heap.lt_size h1
    have tl : TI < s.heap.objs.size := Heap.lt_size h2
    have ol : TO < s.heap.objs.size := Heap.lt_size h3
    have il : i1 < s.heap.objs.size := by
      obtain ⟨_, q, _⟩ := id h4
      exact Heap.lt_size q
    have jl : i2 < s.heap.objs.size := by
      obtain ⟨_, q, _⟩ := id h5
      exact Heap.lt_size q
    refine wpAny_pyNext_zipD2_item Z D1 D2 h1 h2 h3 ⟨h4, pl.isList⟩ ⟨h5, pt⟩ hi hi2 fun x1 x2 h' tk e1 e2 ho hto s1 s2 hT hsz hk => ?_
    have ex : x1 = u := by
      have q : its.toArray[i]? = some u := by simpa using hu
      rw [q] at e1
      exact (Option.some.inj e1).symm
    have ey : x2 = u2 := by
      have q : its2.toArray[i]? = some u2 := by simpa using hu2
      rw [q] at e2
      exact (Option.some.inj e2).symm
    subst ex ey
    refine ⟨_, rfl, wpAny_letOwnedTupleGo_zip (s := { s with heap := h', toks := tk }) ho fun h'' hz' sb => ?_⟩
    have hT2 : h''.get? s.heap.objs.size = some { cls := .type "tuple", data := .seq #[x1, x2] } := (sb.2 _ (Nat.ne_of_gt zl)).trans hT
    have new : ObjOk X.prog X.w (upd H s.heap.objs.size (.tup [x, y])) h'' s.heap.objs.size (.tup [x, y]) :=
      ⟨size_of (Nat.le_of_ble_eq_true rfl), [x1, x2], .cons ru (.cons ru2 .nil), ⟨_, hT2, rfl, _, rfl⟩⟩
    have keepB : ∀ c ob, c ∉ [z, TI, TO, i1, i2] → s.heap.get? c = some ob → h''.get? c = some ob := fun c ob hc q => by
      simp only [List.mem_cons, List.not_mem_nil, or_false, not_or] at hc
      exact (sb.2 c hc.1).trans (hk c ob hc.1 hc.2.2.1 hc.2.2.2.1 hc.2.2.2.2 q)
    have I1 := I.turnedNew (t' := tk) (ch := [z, TI, TO, i1, i2]) keepB hf (Nat.le_refl _) new
    have zi1 : i1 ≠ z := fun q => Z.zf1 (by rw [← q]; simp)
    have zi2 : i2 ≠ z := fun q => Z.zf2 (by rw [← q]; simp)
    have hTI : h'.get? TI = some { cls := .type "tuple", data := .seq #[.ref i1, .ref i2] } := hk TI _ Z.TIz Z.TITO Z.TIi1 Z.TIi2 h2
    refine ⟨.ref s.heap.objs.size, _, I1, rfl, ⟨_, x, y, rfl, I.hok.fresh (Nat.le_refl _), rfl, fun zs hy' => by rw [I.list_inj hy' hl]; exact hx, fun zs hy' => by rw [I.tuple_inj hy' ht]; exact hy⟩,
      ⟨hz', (sb.2 TI Z.TIz).trans hTI, ⟨x1, x2, (sb.2 TO Z.TOz).trans hto⟩, s1.1.at fun o q => (sb.2 i1 zi1).trans q, s2.1.at fun o q => (sb.2 i2 zi2).trans q⟩, fun c hc => ?_⟩
    have hc' : c < s.heap.objs.size := by
      simp only [List.mem_cons, List.not_mem_nil, or_false] at hc
      rcases hc with rfl | rfl | rfl | rfl | rfl <;> assumption
    rw [upd_ne (Nat.ne_of_lt hc')]
    exact (hf c hc).1
  done := by
    intro X hP hw hK hc i pins s σ H E I hf st hg
    subst hP hw hK
    obtain ⟨h1, h2, ⟨x0, y0, h3⟩, h4, h5⟩ := st
    obtain ⟨xs, ys, hl, ht, e1, e2⟩ := hg
    obtain ⟨its, rv, pl, hz⟩ := I.list hl
    obtain ⟨its2, rv2, pt, hz2⟩ := I.tuple ht
    have D1 := Draws.list (prog := X.prog) (w := X.w) (A := X.A.in1) (I.ok.hd hc) i1 a n1 its.toArray
    have D2 := Draws.tuple (prog := X.prog) (w := X.w) (A := X.A.in1) (I.ok.hd hc) i2 b n2 its2.toArray
    have z1 : its.toArray.size = i := by rw [List.size_toArray, ← rv.length]; exact e1
    have z2 : its2.toArray.size = i := by rw [List.size_toArray, ← rv2.length]; exact e2
    refine wpAny_pyNext_zipD2_end Z D1 D2 h1 h2 h3 ⟨h4, pl.isList⟩ ⟨h5, pt⟩ (Nat.le_of_eq z1.symm) (Nat.le_of_eq z2.symm) (.inl z1.symm) fun h' tk eb => ⟨rfl, ?_⟩
    exact I.turnedL (t' := tk) (ch := [z, TI, TO, i1, i2]) (fun c o hc q => by
      simp only [List.mem_cons, List.not_mem_nil, or_false, not_or] at hc
      exact eb c o hc.1 hc.2.2.1 hc.2.2.2.1 hc.2.2.2.2 q) hf
  self := fun A i s Q E st h => wpAny_pyIter_zip st.1 h
def iZipM (K : PySem.W.Frag) (ta : TA) : TI := fun σ H R => ta σ H fun vs H1 => ∃ a b xs ys, vs = [.ref a, .ref b] ∧ SqL K H1 a xs ∧ SqT K H1 b ys ∧ R (ItzM K a b) H1
theorem vals_two {v w : V} {us : List Value} (h : Vals [v, w] us) : ∃ u u2, us = [u, u2] ∧ RelV v u ∧ RelV w u2 := by
  cases h with
  | cons r t =>
    cases t with
    | cons r2 t2 =>
      cases t2
      exact ⟨_, _, rfl, r, r2⟩
theorem nm2 (x y z : Nat) (h1 : x ≠ y) (h2 : x ≠ z) : ¬ x ∈ [y, z] := by simp [h1, h2]
theorem zsep (n a b : Nat) (ha : a < n) (hb : b < n) : ZipSep2 (n + 4) (n + 2) (n + 3) n (n + 1) [n, a] [n + 1, b] where
  TIz := Nat.ne_of_lt (show n + 2 < n + 4 by omega)
  TOz := Nat.ne_of_lt (show n + 3 < n + 4 by omega)
  TITO := Nat.ne_of_lt (show n + 2 < n + 3 by omega)
  TIi1 := Nat.ne_of_gt (show n < n + 2 by omega)
  mem1 := List.mem_cons_self
  zf1 := nm2 (n + 4) n a (by omega) (by omega)
  Tf1 := nm2 (n + 3) n a (by omega) (by omega)
  TIi2 := Nat.ne_of_gt (show n + 1 < n + 2 by omega)
  mem2 := List.mem_cons_self
  zf2 := nm2 (n + 4) (n + 1) b (by omega) (by omega)
  Tf2 := nm2 (n + 3) (n + 1) b (by omega) (by omega)
  sep1_2 := nm2 n (n + 1) b (by omega) (by omega)
  sep2_1 := nm2 (n + 1) n a (by omega) (by omega)
theorem zle (n c : Nat) (h : c ∈ [n + 4, n + 2, n + 3, n, n + 1]) : n ≤ c := by
  simp only [List.mem_cons, List.not_mem_nil, or_false] at h
  omega
theorem pi_zipM {X : Cx} {e e2 : Expr} {ta : TA} {p pos tpos : Pos} {elts : List Expr} {kk : Nat} (hg : Gl X "zip") (hm : X.mg "zip" = none) (ha : PA X [e, e2] ta)
    (hs : starEach [e, e2] X.env = (false, eval e X.env) :: starEach [e2] X.env := by rfl) (hpl : ((backTo pos (starEach [e2] X.env)).any fun x => x.1) = false := by rfl) :
    PI X (.Tuple elts kk tpos) (.Call (.Name "zip" p) [e, e2] [] pos) (iZipM X.K ta) := by
  refine ⟨fun pins s σ H R I h => ?_⟩
  refine Call_ (ld_blt I hg hm boot_zip (callWith_type1 (thn (ha.run pos pins s σ H _ I h) fun us s1 ⟨vs, H1, I1, r1, q1⟩ => ?_) hs hpl))
  obtain ⟨a, b, xs, ys, ex, hl, ht, q⟩ := q1
  subst ex
  obtain ⟨u, u2, rfl, ru, ru2⟩ := vals_two r1
  cases ru
  cases ru2
  obtain ⟨its, rv, pl, hz⟩ := I1.list hl
  obtain ⟨its2, rv2, pt, hz2⟩ := I1.tuple ht
  have al : a < s1.heap.objs.size := by
    obtain ⟨o, ho, _⟩ := pl.isList
    exact Heap.lt_size ho
  have bl : b < s1.heap.objs.size := by
    obtain ⟨o, ho, _⟩ := pt
    exact Heap.lt_size ho
  refine zip_begins2 (begins_list a its.toArray) (begins_tuple b its2.toArray) pl.isList pt fun h' hz hTI hTO hi1 hi2 hsz hk => wpAny_pyIter_zip hz ?_
  have I2 : Inv X pins σ H1 { s1 with heap := h' } := I1.kept (t' := s1.toks) hk
  have ne : ∀ {c : Addr} {k : Nat}, c < s1.heap.objs.size → c ≠ s1.heap.objs.size + k := fun h => Nat.ne_of_lt (Nat.lt_of_lt_of_le h (Nat.le_add_right _ _))
  have Z := zsep _ _ _ al bl
  refine ⟨s1.heap.objs.size + 4, [s1.heap.objs.size + 4, s1.heap.objs.size + 2, s1.heap.objs.size + 3, s1.heap.objs.size, s1.heap.objs.size + 1], _, _, H1, rfl, I2, turn_zipM Z (Nat.ne_of_lt al) (ne bl),
    ⟨hz, hTI, ⟨_, _, hTO⟩, ⟨_, hi1, rfl, rfl⟩, ⟨_, hi2, rfl, rfl⟩⟩, fun c hc => ?_, q⟩
  have hle : s1.heap.objs.size ≤ c := zle _ _ hc
  exact I1.fpOk hle (I1.hok.fresh hle)
/-! ## the walks, for comprehensions (lc_it) -/
theorem walk_zipT {K : PySem.W.Frag} {a b : Addr} {xs ys : List V} {n : Nat} (h1 : xs.length = n) (h2 : ys.length = n) : Walk (RZ.ItzT K a b) n (fun H => SqT K H a xs ∧ SqT K H b ys) (YPair (fun i => xs[i]?) fun i => ys[i]?) where
  goes := fun i H hi ⟨g1, g2⟩ => ⟨xs, ys, xs[i]'(by omega), ys[i]'(by omega), g1, g2, List.getElem?_eq_getElem (by omega), List.getElem?_eq_getElem (by omega)⟩
  stops := fun H ⟨g1, g2⟩ => ⟨xs, ys, g1, g2, .inl (Nat.le_of_eq h1)⟩
  yields := fun i H x H' hi ⟨g1, g2⟩ ⟨T, u, v, e, hT, e2, q1, q2⟩ => ⟨T, u, v, e, hT, e2, q1 xs g1, q2 ys g2⟩
theorem walk_zipM {K : PySem.W.Frag} {a b : Addr} {xs ys : List V} {n : Nat} (h1 : xs.length = n) (h2 : ys.length = n) : Walk (ItzM K a b) n (fun H => SqL K H a xs ∧ SqT K H b ys) (YPair (fun i => xs[i]?) fun i => ys[i]?) where
  goes := fun i H hi ⟨g1, g2⟩ => ⟨xs, ys, xs[i]'(by omega), ys[i]'(by omega), g1, g2, List.getElem?_eq_getElem (by omega), List.getElem?_eq_getElem (by omega)⟩
  stops := fun H ⟨g1, g2⟩ => ⟨xs, ys, g1, g2, h1, h2⟩
  yields := fun i H x H' hi ⟨g1, g2⟩ ⟨T, u, v, e, hT, e2, q1, q2⟩ => ⟨T, u, v, e, hT, e2, q1 xs g1, q2 ys g2⟩
theorem i_zipM {K : PySem.W.Frag} {σ : L2.St} {H : Hp} {ta : TA} {R : It → Hp → Prop} (h : ta σ H fun vs H1 => ∃ a b xs ys, vs = [.ref a, .ref b] ∧ SqL K H1 a xs ∧ SqT K H1 b ys ∧ R (ItzM K a b) H1) : iZipM K ta σ H R := h
theorem i_zipA {K : PySem.W.Frag} {σ : L2.St} {H : Hp} {ta : TA} {R : It → Hp → Prop} (h : ta σ H fun vs H1 => ∃ a b xs ys, vs = [.ref a, .ref b] ∧ (SqL K H1 a xs ∧ SqL K H1 b ys ∧ R (Itz K a b) H1 ∨ SqT K H1 a xs ∧ SqT K H1 b ys ∧ R (RZ.ItzT K a b) H1)) : RZ.iZipA K ta σ H R := h
end Spk

set_option Elab.async false
set_option linter.all false
set_option maxRecDepth 100000
set_option maxHeartbeats 1000000
namespace Spk
open PySem PySem.Spec PyProof.Rows L2
/-! ## methods of tuples that are known whole -/
/-- the tuple at a, its object known -/
def TupF (H : Hp) (a : Addr) (xs : List V) : Prop := ∃ o : Obj, H a = some (.frz o (.tup xs)) ∧ o.cls = .type "tuple" ∧ o.dict = none
theorem TupF.seq {K : PySem.W.Frag} {H : Hp} {a : Addr} {xs : List V} (h : TupF H a xs) : SqT K H a xs := by
  obtain ⟨o, h, _⟩ := h
  exact .inl (.inr ⟨o, h⟩)
theorem TupF.up {H H' : Hp} {a : Addr} {xs : List V} (e : Same H H') (h : TupF H a xs) : TupF H' a xs := by
  obtain ⟨o, h, r⟩ := h
  exact ⟨o, e _ _ h, r⟩
def tBMF (r : V → List V → Hp → VK → Prop) (to : TE) (t : TA) : TE := fun σ H Q => to σ H fun x H1 => (∃ a xs, x = .ref a ∧ TupF H1 a xs) ∧ t σ H1 fun xs H2 => r x xs H2 Q
theorem i_bmf {r : V → List V → Hp → VK → Prop} {to : TE} {t : TA} {σ : L2.St} {H : Hp} {Q : VK} (h : to σ H fun x H1 => (∃ a xs, x = .ref a ∧ TupF H1 a xs) ∧ t σ H1 fun xs H2 => r x xs H2 Q) : tBMF r to t σ H Q := h
theorem pe_bmF {X : Cx} {o e : Expr} {es : List Expr} {to : TE} {t : TA} {name : Str} {apos cpos : Pos} {id : String} {r : V → List V → Hp → VK → Prop} (pa : PlainAttrs "tuple") (slot : Slot "tuple" name id) (hty : typeOf (Value.builtin id) = pure (Value.type "method_descriptor"))
    (hm : MtR X id r) (ho : PE X o to) (ha : PA X (e :: es) t) (hbase : attributeBase o name X.env (eval o X.env) = eval o X.env := by rfl)
    (hfew : ((((backTo cpos (starEach (e :: es) X.env)).all fun x => !x.1) && (backToKw cpos (keywordEach [] X.env)).all fun x => x.1.isSome) && decide (((e :: es).length + ([] : List Keyword).length + if ([] : List Keyword).isEmpty = true then 0 else 1) < 30)) = true := by rfl)
    (hline : (apos.endLine == cpos.line) = true := by rfl) (hs : starEach (e :: es) X.env = (false, eval e X.env) :: starEach es X.env := by rfl) (hpl : ((backTo cpos (starEach es X.env)).any fun x => x.1) = false := by rfl) :
    PE X (.Call (.Attribute o name apos) (e :: es) [] cpos) (tBMF r to t) := by
  refine ⟨fun pins s σ H Q I h => wpAny_Call_method_late hbase hfew hline rfl (thn (ho.run pins s σ H _ I h) fun v s1 ⟨x, H1, I1, r1, ⟨a, xs, ex, ob, hf, hc, hd⟩, q1⟩ => ?_)⟩
  subst ex
  obtain rfl : v = Value.ref a := r1
  have hg : s1.heap.get? a = some ob := (I1.hok a _ hf).1
  refine ⟨"tuple", id, pa, slot, hty, ⟨ob, hg, hc⟩, fun b e => by cases e; exact ⟨ob, hg, hd⟩, ?_⟩
  have hA := ha.run cpos pins s1 σ H1 _ I1 q1
  rw [hs] at hA ⊢
  refine Calls.callWith_builtin (by show (false || _) = false; rw [Bool.false_or]; exact hpl) (Calls.evalArgs_plain (thn hA fun us s2 ⟨vs, H2, I2, r2, q2⟩ => ?_))
  exact hm pins s2 σ H2 (.ref a) vs _ us Q I2 rfl r2 q2
end Spk

set_option Elab.async false
set_option linter.all false
namespace Spk
open PySem L2
/-! ## rules whose reading names the written part K by itself: for what stands within a comprehension -/
section
variable {X : Cx} {K : PySem.W.Frag} {e : Expr} {f : Str} {pos : Pos} {ta : TE}
theorem op_inK (h : X.K = K) : OpR X (compareOp .In) (rIn K false) := by subst h; exact op_in_seq
theorem op_notInK (h : X.K = K) : OpR X (compareOp .NotIn) (rIn K true) := by subst h; exact op_notIn_seq
theorem call_isiK (h : X.K = K) : CallR X (.builtin "isinstance") (rIsi K) := by subst h; exact call_isi
theorem pe_fldK (h : X.K = K) (he : PE X e ta) (hb : attributeBase e f X.env (eval e X.env) = eval e X.env) : PE X (.Attribute e f pos) (tFld K ta f) := by subst h; exact pe_fld he hb
theorem ix_tupK (h : X.K = K) : IxR X (rIxT K) := by subst h; exact ix_tup
theorem ix_listK (h : X.K = K) : IxR X (rIxL K) := by subst h; exact ix_list
theorem mt_tup_indexK (h : X.K = K) : MtR X "tuple.index" (fun x xs H Q => ∃ p, ∃ ys : List Str, ∃ z j, x = .ref p ∧ xs = [.str z] ∧ SqT K H p (ys.map V.str) ∧ ys[j]? = some z ∧ (∀ m, m < j → ys[m]? ≠ some z) ∧ Q (.int (j : Nat)) H) := by subst h; exact mt_tup_index
theorem mt_indexDK (h : X.K = K) (hu : X.A.units + 65 < cLine) : MtR X "list.index" (rIndexD K) := by subst h; exact mt_indexD hu
theorem op_catAK (h : X.K = K) : OpR X (binaryOp .Add) (rCatA K) := by subst h; exact op_catA
theorem sl_tupK (h : X.K = K) : SlR X (rSlT K) := by subst h; exact sl_tup
theorem call_len_seqK (h : X.K = K) : CallR X (.builtin "len") (fun xs H Q => ∃ p ys, xs = [.ref p] ∧ (SqL K H p ys ∨ SqT K H p ys) ∧ Q (.int ys.length) H) := by subst h; exact call_len_seq
theorem pe_bmK {o : Expr} {es : List Expr} {to : TE} {t : TA} {name : Str} {apos cpos : Pos} {T id : String} {r : V → List V → Hp → VK → Prop} (h : X.K = K) (pa : PlainAttrs T) (slot : Slot T name id) (hty : typeOf (Value.builtin id) = pure (Value.type "method_descriptor")) (hm : MtR X id r) (ho : PE X o to) (ha : PA X (e :: es) t)
    (hbase : attributeBase o name X.env (eval o X.env) = eval o X.env := by rfl)
    (hfew : ((((backTo cpos (starEach (e :: es) X.env)).all fun x => !x.1) && (backToKw cpos (keywordEach [] X.env)).all fun x => x.1.isSome) && decide (((e :: es).length + ([] : List Keyword).length + if ([] : List Keyword).isEmpty = true then 0 else 1) < 30)) = true := by rfl)
    (hline : (apos.endLine == cpos.line) = true := by rfl) (hs : starEach (e :: es) X.env = (false, eval e X.env) :: starEach es X.env := by rfl) (hpl : ((backTo cpos (starEach es X.env)).any fun x => x.1) = false := by rfl) :
    PE X (.Call (.Attribute o name apos) (e :: es) [] cpos) (tBM K T r to t) := by subst h; exact pe_bm pa slot hty hm ho ha hbase hfew hline hs hpl
end
theorem room65 {k : Nat} {A : Around} (hr : Room k A) : A.units + 65 < cLine := by
  have := hr.un
  omega
end Spk

set_option Elab.async false
set_option linter.all false
set_option maxRecDepth 100000
set_option maxHeartbeats 1000000
namespace Spk
open PySem L2
def top (i : Nat) : Stmt := PySem.Challenge.pw_speaklast_k10_rows_of_tables.main.body.getD i (.Pass ⟨0, 0, 0, 0⟩)
local macro_rules | `(tactic| walk_at "rd") => `(tactic| repeat (first
  | with_reducible refine i_seq ?_ | with_reducible refine i_asg ?_ | with_reducible refine i_ret ?_ | with_reducible refine i_ifS ?_ | with_reducible refine i_if ?_
  | with_reducible refine i_for ?_ | with_reducible refine i_iL ?_ | with_reducible refine i_iT ?_ | with_reducible refine i_ckw ?_ | with_reducible refine i_cm ?_ | with_reducible refine And.intro (rfl : V.ref _ = V.ref _) ?_ | with_reducible refine i_rng1 ?_ | with_reducible refine i_bm ?_ | with_reducible refine i_bm0 ?_
  | with_reducible refine i_drop ?_ | with_reducible refine i_next ?_
  | with_reducible refine i_var rfl ?_ | with_reducible refine i_c ?_ | with_reducible refine i_op ?_ | with_reducible refine i_un ?_ | with_reducible refine i_name ?_
  | with_reducible refine i_rI0 ?_ | with_reducible refine i_rU ?_ | with_reducible refine i_rEq rfl ?_ | with_reducible refine i_rNe rfl ?_
  | with_reducible refine i_test ?_ | with_reducible refine i_tB ?_ | with_reducible refine i_and ?_ | with_reducible refine i_or ?_ | with_reducible refine i_not ?_
  | with_reducible refine i_andV ?_ | with_reducible refine i_orV ?_ | with_reducible refine i_notV ?_
  | with_reducible refine i_cons ?_ | with_reducible refine i_nil ?_ | with_reducible refine i_cb ?_ | with_reducible refine i_call ?_ | with_reducible refine i_bl ?_
  | with_reducible refine i_tup ?_ | with_reducible refine i_lst ?_ | with_reducible refine i_par ?_ | with_reducible refine i_gcons ?_ | with_reducible refine i_gnil ?_
  | with_reducible refine And.intro (rfl : V.non = V.non) ?_ | with_reducible refine i_ixT (by assumption) rfl ?_ | with_reducible refine i_ixL (by assumption) rfl ?_ | with_reducible refine i_gtup (by assumption) rfl ?_
  | with_reducible refine i_gsub ?_
  | with_reducible refine Or.inl (Exists.intro _ (And.intro (rfl : [V.int _] = [V.int _]) ?_)) | with_reducible refine Exists.intro _ (And.intro (rfl : [V.int _] = [V.int _]) ?_)
  | with_reducible refine Or.inr (Exists.intro _ (And.intro (rfl : [V.bl _] = [V.bl _]) ?_))
  | with_reducible refine Exists.intro _ (Exists.intro _ (And.intro (rfl : [V.int _, V.int _] = [V.int _, V.int _]) ?_))
  | with_reducible refine Exists.intro _ (Exists.intro _ (And.intro (rfl : [V.ref _] = [V.ref _]) (And.intro (Or.inl (SqL.of (by assumption))) ?_)))
  | with_reducible refine i_rI (show (0 : Int) < _ by assumption) ?_ | with_reducible refine i_rI (show (0 : Int) < _ by decide) ?_
  | with_reducible refine i_rI (pow_ok (Nat.le_of_ble_eq_true rfl) (Nat.le_of_ble_eq_true rfl)) ?_
  | with_reducible refine i_rI (cmulL rfl) ?_))
theorem _root_.L2.Same.mut {H0 H : Hp} {d : Addr} {o : HO} (e : Same H0 H) (h : H0 d = none) : Same H0 (upd H d o) := fun b u hb => by
  rw [upd_ne (ne_of_none hb h)]
  exact e b u hb
/-! ### the pen: what is drawn from the script -/
def penny : HO → Bool
  | .lst [.ref _, .int _, .int _] => true
  | _ => false
/-- all but a pen is as it was -/
def Keep (H H' : Hp) : Prop := ∀ b o, penny o = false → H b = some o → H' b = some o
theorem Keep.refl (H : Hp) : Keep H H := fun _ _ _ h => h
theorem Keep.trans {H H1 H2 : Hp} (a : Keep H H1) (b : Keep H1 H2) : Keep H H2 := fun c o p h => b c o p (a c o p h)
theorem Same.keep {H H' : Hp} (e : Same H H') : Keep H H' := fun b o _ h => e b o h
def Pen (H : Hp) (p L : Addr) (n : Nat) : Prop := ∃ (ns : List Int) (at_ lg : Int), H p = some (.lst [.ref L, .int at_, .int lg]) ∧ H L = some (.lst (ns.map V.int)) ∧ ns.length ≤ 63 ∧ 0 ≤ at_ ∧ at_ ≤ n ∧ 0 ≤ lg
theorem Pen.up {H H' : Hp} {p L : Addr} {n : Nat} (e : Same H H') (h : Pen H p L n) : Pen H' p L n := by
  obtain ⟨ns, a, l, h1, h2, r⟩ := h
  exact ⟨ns, a, l, e _ _ h1, e _ _ h2, r⟩
theorem Pen.mono {H : Hp} {p L : Addr} {n m : Nat} (h : Pen H p L n) (e : n ≤ m) : Pen H p L m := by
  obtain ⟨ns, a, l, h1, h2, h3, h4, h5, h6⟩ := h
  exact ⟨ns, a, l, h1, h2, h3, h4, by omega, h6⟩
theorem penny_ints (ns : List Int) : penny (.lst (ns.map V.int)) = false := by
  cases ns <;> rfl
/-- a pen is written anew -/
theorem pen_set {H : Hp} {p L : Addr} {ns : List Int} {a l a' l' : Int} {n : Nat} (hp : H p = some (.lst [.ref L, .int a, .int l])) (hL : H L = some (.lst (ns.map V.int))) (h1 : ns.length ≤ 63) (h2 : 0 ≤ a') (h3 : a' ≤ n) (h4 : 0 ≤ l') :
    Keep H (upd H p (.lst [.ref L, .int a', .int l'])) ∧ Pen (upd H p (.lst [.ref L, .int a', .int l'])) p L n := by
  refine ⟨fun b o hb e => ?_, ns, a', l', upd_same, ?_, h1, h2, h3, h4⟩
  · have : b ≠ p := fun z => by
      subst z
      rw [hp] at e
      cases e
      simp [penny] at hb
    rw [upd_ne this]
    exact e
  · have : L ≠ p := fun z => by
      subst z
      rw [hp] at hL
      have := penny_ints ns
      rw [← HO.lst.inj (Option.some.inj hL)] at this
      simp [penny] at this
    rw [upd_ne this]
    exact hL
theorem pen_put {H : Hp} {p L : Addr} {ns : List Int} {a l a' l' : Int} (hp : H p = some (.lst [.ref L, .int a, .int l])) (hL : H L = some (.lst (ns.map V.int))) :
    ∃ H1, upd H p (.lst [.ref L, .int a', .int l']) = H1 ∧ Keep H H1 ∧ H1 p = some (.lst [.ref L, .int a', .int l']) ∧ H1 L = some (.lst (ns.map V.int)) := by
  have : L ≠ p := fun z => by
    subst z
    rw [hp] at hL
    have := penny_ints ns
    rw [← HO.lst.inj (Option.some.inj hL)] at this
    simp [penny] at this
  refine ⟨_, rfl, fun b o hb e => ?_, upd_same, by rw [upd_ne this]; exact hL⟩
  have : b ≠ p := fun z => by
    subst z
    rw [hp] at e
    cases e
    simp [penny] at hb
  rw [upd_ne this]
  exact e
theorem dps_ints {K : PySem.W.Frag} {H : Hp} : ∀ ns : List Int, DpAll K H (ns.map V.int) (ns.map PyData.int)
  | [] => .nil
  | n :: ns => .cons (.int n) (dps_ints ns)
theorem eqv_ints : ∀ ns ms : List Int, PyData.eqvAll (ns.map PyData.int) (ms.map PyData.int) = decide (ns = ms)
  | [], [] => by simp [PyData.eqvAll]
  | [], _ :: _ => by simp [PyData.eqvAll]
  | _ :: _, [] => by simp [PyData.eqvAll]
  | a :: ns, b :: ms => by
    simp only [List.map_cons, PyData.eqvAll, PyData.eqv, eqv_ints ns ms, List.cons.injEq]
    rw [Bool.eq_iff_iff]
    simp
theorem lay_ints : ∀ ns : List Int, PyData.canLayAll0 (ns.map PyData.int) = true
  | [] => by simp [PyData.canLayAll0]
  | n :: ns => by simp [PyData.canLayAll0, PyData.canLay0, lay_ints ns]
theorem dep_ints : ∀ ns : List Int, PyData.depthAll (ns.map PyData.int) ≤ 1
  | [] => by simp [PyData.depthAll]
  | n :: ns => by
    have := dep_ints ns
    simp only [List.map_cons, PyData.depthAll, PyData.depth]
    omega
theorem shaped_ints (ns : List Int) : SeqAt.shaped (.list (ns.map PyData.int)) = true := by
  have h1 := lay_ints ns
  have h2 := dep_ints ns
  have h3 : (PyData.list (ns.map PyData.int)).depth ≤ 2 := by
    simp only [PyData.depth]
    omega
  unfold SeqAt.shaped
  rw [Bool.and_eq_true, decide_eq_true_eq]
  exact ⟨by simpa only [PyData.canLay0] using h1, by omega⟩
theorem mul_bd {a b A B : Int} (h1 : 0 ≤ a) (h2 : a ≤ A) (h3 : 0 ≤ b) (h4 : b ≤ B) : 0 ≤ a * b ∧ a * b ≤ A * B :=
  ⟨Int.mul_nonneg h1 h3, Int.mul_le_mul h2 h4 h3 (Int.le_trans h1 h2)⟩
section
variable {P : Program} {w : World} {K : PySem.W.Frag} {mg : Str → Option Value} {base : Heap}
abbrev s_pen : Stmt := top 14
theorem sc_pen : FnScope ["_law_script"] ["_law_script"] (defScope s_pen) := ⟨rfl, rfl, rfl, by decide +kernel, rfl, by decide +kernel, by decide +kernel⟩
def sp_pen (K : PySem.W.Frag) : Sp := fun vs H Q _ => ∃ a, ∃ ns : List Int, vs = [.ref a] ∧ SqL K H a (ns.map V.int) ∧ ns.length ≤ 63 ∧ ∀ p L H', Same H H' → Pen H' p L 0 → Q (.ref p) H'
theorem cut_ints (ns : List Int) (lo hi : Option Int) : ∃ ns' : List Int, cutV (ns.map V.int) lo hi = ns'.map V.int ∧ ns'.length ≤ ns.length := by
  refine ⟨(ns.drop (HT.sIx (ns.map V.int).length 0 lo)).take (HT.sIx (ns.map V.int).length (ns.map V.int).length hi - HT.sIx (ns.map V.int).length 0 lo), ?_, ?_⟩
  · unfold cutV
    rw [List.map_take, List.map_drop]
  · rw [List.length_take, List.length_drop]
    omega
theorem ok_pen {f : Addr} {fd : FuncData} (F : Fun K "_law_pen" "_law_pen" s_pen f fd) (z_list : mg "list" = none) : FnOk P w K mg base CX0 1 f fd ["_law_script"] (sp_pen K) := by
  refine F.ok sc_pen (fun vs H Q E h => ?_) (fun cdv A outer s H vs Q E hr h => ?_)
  · obtain ⟨a, ns, rfl, _⟩ := h
    rfl
  · obtain ⟨a, ns, rfl, ha, hz, q⟩ := h
    refine ⟨_, (pss_one (ps_ret (pe_lst (pa_cons (pe_callTy call_list_of (by rfl) z_list (by decide +kernel) (pa_cons (pe_slice sl_list (pv 0) po_none (po_some pe_int)) pa_nil)) (pa_cons pe_int (pa_cons pe_int pa_nil)))))), ?_⟩
    walk_at "rd"
    refine ⟨_, rfl, 63, rfl, a, _, rfl, ha, fun p hp => ?_⟩
    obtain ⟨ns', e, hl⟩ := cut_ints ns none (some 63)
    rw [e]
    obtain ⟨H1, e1, s1, h1⟩ := new_heap (o := .lst (ns'.map V.int)) hp
    rw [e1]
    walk_at "rd"
    intro l hl'
    obtain ⟨H2, e2, s2, h2⟩ := new_heap (o := .lst (ns'.map V.int)) hl'
    rw [e2]
    walk_at "rd"
    refine ⟨size_of (Nat.le_of_ble_eq_true rfl), fun r hr => ?_⟩
    obtain ⟨H3, e3, s3, h3⟩ := new_heap (o := .lst [.ref l, .int 0, .int 0]) hr
    rw [e3]
    exact q r l H3 (fun b o z => s3 _ _ (s2 _ _ (s1 _ _ z))) ⟨ns', 0, 0, h3, s3 _ _ h2, by omega, Int.le_refl _, Int.le_refl _, Int.le_refl _⟩
abbrev s_draw : Stmt := top 15
theorem sc_draw : FnScope ["_law_pen_here", "_law_many", "_law_digit", "_law_at", "_law_cell", "_law_large", "_law_mixed"] ["_law_pen_here", "_law_many"] (defScope s_draw) := ⟨rfl, rfl, rfl, by decide +kernel, rfl, by decide +kernel, by decide +kernel⟩
def sp_draw : Sp := fun vs H Q _ => ∃ p L n m, vs = [.ref p, .int m] ∧ Pen H p L n ∧ n ≤ 10000 ∧ 0 < m ∧ m ≤ 1000000000000 ∧ ∀ d H', 0 ≤ d → d < m → Keep H H' → Pen H' p L (n + 1) → Q (.int d) H'
theorem ok_draw {f : Addr} {fd : FuncData} (F : Fun K "_law_draw" "_law_draw" s_draw f fd) (z_int : mg "int" = none) (z_len : mg "len" = none) (z_abs : mg "abs" = none) : FnOk P w K mg base CX0 1 f fd ["_law_pen_here", "_law_many"] sp_draw := by
  refine F.ok sc_draw (fun vs H Q E h => ?_) (fun cdv A outer s H vs Q E hr h => ?_)
  · obtain ⟨p, L, n, m, rfl, _⟩ := h
    rfl
  · obtain ⟨p, L, n, m, rfl, ⟨ns, a, l, hp, hL, hz, a0, an, l0⟩, hn, m0, m1, q⟩ := h
    refine ⟨_, (pss_cons (ps_if (pt_cmpR op_gt (pe_ix ix_list (pv 0) pe_int (fun _ _ => rfl)) pe_int (nomark _))
 (pss_cons (ps_set (i := 2) sc_draw.nd rfl (Or.inl rfl) (pe_op op_mod (pe_callTy call_int1 (by rfl) z_int (by decide +kernel) (pa_cons (pe_ix ix_list (pv 0) pe_int (fun _ _ => rfl)) pa_nil)) (pv 1)))
 (pss_cons (ps_asg (pe_op op_fdivW (pe_ix ix_list (pv 0) pe_int (fun _ _ => rfl)) (pv 1)) (pg_sub (pv 0) pe_int set_list))
 (pss_one (ps_ret (pv 2)))))
 pss_nil)
 (pss_cons (ps_set (i := 3) sc_draw.nd rfl (Or.inl rfl) (pe_ix ix_list (pv 0) pe_int (fun _ _ => rfl)))
 (pss_cons (ps_asg (pe_op op_add (pv 3) pe_int) (pg_sub (pv 0) pe_int set_list))
 (pss_cons (ps_set (i := 4) sc_draw.nd rfl (Or.inl rfl) (pe_op op_add (pe_op op_mul pe_int (pv 3)) pe_int))
 (pss_cons (ps_if (pt_cmpR (op_neD hr.units) (pe_ix ix_list (pv 0) pe_int (fun _ _ => rfl)) (pe_lst pa_nil) (nomark _))
 (pss_one (ps_set (i := 4) sc_draw.nd rfl (Or.inl rfl) (pe_ix ix_list (pe_ix ix_list (pv 0) pe_int (fun _ _ => rfl)) (pe_op op_mod (pe_callTy call_int1 (by rfl) z_int (by decide +kernel) (pa_cons (pv 3) pa_nil)) (pe_callB call_len_seq (by rfl) z_len PySem.boot_len (pa_cons (pe_ix ix_list (pv 0) pe_int (fun _ _ => rfl)) pa_nil))) (fun _ _ => rfl))))
 pss_nil)
 (pss_cons (ps_if (PW.pt (pw_and (pt_cmpR op_lt (pv 3) (pe_callB call_len_seq (by rfl) z_len PySem.boot_len (pa_cons (pe_ix ix_list (pv 0) pe_int (fun _ _ => rfl)) pa_nil)) (nomark _)) (pw_and1 (pt_cmpR op_ge (pe_callB call_abs (by rfl) z_abs (by decide +kernel) (pa_cons (pv 4) pa_nil)) (pe_op op_pow pe_int pe_int) (nomark _)))))
 (pss_cons (ps_set (i := 5) sc_draw.nd rfl (Or.inl rfl) (pe_op op_add (pe_op op_mul pe_int (pe_callB call_abs (by rfl) z_abs (by decide +kernel) (pa_cons (pv 4) pa_nil))) (pe_callTy call_int1 (by rfl) z_int (by decide +kernel) (pa_cons (pe_cmpR op_lt (pv 4) pe_int (nomark _)) pa_nil))))
 (pss_cons (ps_asg (pe_op op_fdivW (pv 5) (pv 1)) (pg_sub (pv 0) pe_int set_list))
 (pss_one (ps_ret (pe_op op_mod (pe_callTy call_int1 (by rfl) z_int (by decide +kernel) (pa_cons (pv 5) pa_nil)) (pv 1))))))
 pss_nil)
 (pss_cons (ps_set (i := 6) sc_draw.nd rfl (Or.inl rfl) (pe_op op_mod (pe_op op_pow (pe_callTy call_int1 (by rfl) z_int (by decide +kernel) (pa_cons (pe_op op_add (pe_op op_add (pe_op op_mod (pe_callTy call_int1 (by rfl) z_int (by decide +kernel) (pa_cons (pv 4) pa_nil)) pe_int) (pe_op op_mul pe_int (pv 3))) pe_int) pa_nil)) pe_int) pe_int))
 (pss_cons (ps_set (i := 6) sc_draw.nd rfl (Or.inl rfl) (pe_op op_mod (pe_op op_pow (pe_callTy call_int1 (by rfl) z_int (by decide +kernel) (pa_cons (pe_op op_add (pe_op op_add (pe_op op_mul (pv 6) (pe_op op_add (pe_op op_mul pe_int (pv 3)) pe_int)) (pe_op op_mul (pe_op op_mul pe_int (pv 3)) (pv 3))) pe_int) pa_nil)) pe_int) pe_int))
 (pss_one (ps_ret (pe_op op_mod (pe_callTy call_int1 (by rfl) z_int (by decide +kernel) (pa_cons (pe_op op_fdivW (pv 6) pe_int) pa_nil)) (pv 1)))))))))))), ?_⟩
    have wd : ∀ i : Int, CDivW i m := fun i => wide_div (b := 64) m0 (by omega) (by decide) (by decide)
    walk_at "rd"
    refine ite_d (fun h => ?_) (fun h => ?_)
    · walk_at "rd"
      refine i_rI (wd _) ?_
      walk_at "rd"
      refine i_setL hp (j := 2) rfl ?_
      walk_at "rd"
      obtain ⟨k, pe⟩ := pen_set (a' := a) (l' := l / m) (n := n + 1) hp hL hz a0 (by omega) (Int.ediv_nonneg l0 (by omega))
      exact q _ _ (Int.emod_nonneg _ (by omega)) (Int.emod_lt_of_pos _ m0) k pe
    · walk_at "rd"
      refine i_setL hp (j := 1) rfl ?_
      obtain ⟨H1, e1, k1, hp1, hL1⟩ := pen_put (a' := a + 1) (l' := l) hp hL
      rw [show ([V.ref L, .int a, .int l].set 1 (.int (a + 1))) = [.ref L, .int (a + 1), .int l] from rfl, e1]
      walk_at "rd"
      refine ⟨Nat.zero_le _, fun r hr => ?_⟩
      obtain ⟨H2, e2, s2, h2⟩ := new_heap (o := .lst []) hr
      rw [e2]
      have hp2 := s2 _ _ hp1
      have hL2 := s2 _ _ hL1
      have k2 : Keep H H2 := k1.trans (Same.keep s2)
      refine ⟨.list (ns.map PyData.int), .list (([] : List Int).map PyData.int), .lst (SqL.of hL2) (dps_ints ns), .lst (SqL.of h2) .nil, shaped_ints ns, shaped_ints [], ?_⟩
      rw [show PyData.eqv (.list (ns.map PyData.int)) (.list (([] : List Int).map PyData.int)) = decide (ns = []) from eqv_ints ns []]
      -- the end of the draw, from the cell on
      have fin : ∀ (l' d : Int), 0 ≤ l' → 0 ≤ d → d < m → Q (.int d) (upd H2 p (.lst [.ref L, .int (a + 1), .int l'])) := fun l' d hl' hd0 hd1 => by
        obtain ⟨k, pe⟩ := pen_set (a' := a + 1) (l' := l') (n := n + 1) hp2 hL2 hz (by omega) (by omega) hl'
        exact q _ _ hd0 hd1 (k2.trans k) pe
      have same : upd H2 p (.lst [.ref L, .int (a + 1), .int l]) = H2 := by
        funext b
        unfold upd
        split
        · rename_i e
          rw [e, hp2]
        · rfl
      have fin0 : ∀ d : Int, 0 ≤ d → d < m → Q (.int d) H2 := fun d h0 h1 => by
        rw [← same]
        exact fin l d l0 h0 h1
      walk_at "rd"
      refine ite_nd (fun hne => ?_) (fun he => ?_)
      · walk_at "rd"
        have hpos : (0 : Int) < ((ns.map V.int).length : Int) := by
          cases ns with
          | nil => exact absurd rfl hne
          | cons x xs => simp
        refine i_rI hpos ?_
        have hlen : ((ns.map V.int).length : Int) = (ns.length : Int) := by rw [List.length_map]
        rw [hlen] at hpos ⊢
        have i0 := Int.emod_nonneg a (b := (ns.length : Int)) (by omega)
        have i1 := Int.emod_lt_of_pos a hpos
        obtain ⟨j, hj⟩ : ∃ j : Nat, a % (ns.length : Int) = (j : Int) := ⟨(a % (ns.length : Int)).toNat, by omega⟩
        rw [hj]
        have hjl : j < ns.length := by omega
        refine i_ixL hL2 (atI_nat (by rw [List.getElem?_map, List.getElem?_eq_getElem hjl]; rfl)) ?_
        generalize ns[j] = c
        walk_at "rd"
        have c0 := Int.emod_nonneg c (b := 2147483549) (by decide)
        have c1 := Int.emod_lt_of_pos c (b := 2147483549) (by decide)
        refine ite_d (fun h1 => ?_) (fun h1 => ?_)
        · walk_at "rd"
          refine ite_d (fun h2 => ?_) (fun h2 => ?_)
          · walk_at "rd"
            refine i_rI (wd _) ?_
            walk_at "rd"
            refine i_setL hp2 (j := 2) rfl ?_
            walk_at "rd"
            refine fin _ _ (Int.ediv_nonneg ?_ (by omega)) (Int.emod_nonneg _ (by omega)) (Int.emod_lt_of_pos _ m0)
            split <;> split <;> omega
          · walk_at "rd"
            refine i_rI ⟨by decide, by decide, by omega⟩ ?_
            walk_at "rd"
            generalize hx : (c % 2147483549 + 59333 * a + 30) ^ (5 : Int).toNat % 2147483579 = x
            have x0 : 0 ≤ x := by rw [← hx]; exact Int.emod_nonneg _ (by decide)
            have x1 : x < 2147483579 := by rw [← hx]; exact Int.emod_lt_of_pos _ (by decide)
            refine i_rI (.inl ⟨by omega, by omega⟩) ?_
            walk_at "rd"
            refine i_rI (.inl ⟨by omega, by omega⟩) ?_
            walk_at "rd"
            have b1 := mul_bd x0 (Int.le_of_lt x1) (b := 2 * a + 49) (B := 20100) (by omega) (by omega)
            have b2 := mul_bd (a := 70001 * a) (A := 70001 * 10001) (by omega) (by omega) a0 (B := 10001) (by omega)
            refine i_rI ⟨by decide, by decide, by omega⟩ ?_
            walk_at "rd"
            refine i_rI (wide_div (b := 8) (by decide) (by decide) (by decide) (by decide)) ?_
            walk_at "rd"
            exact fin0 _ (Int.emod_nonneg _ (by omega)) (Int.emod_lt_of_pos _ m0)
        · refine iteF ?_
          walk_at "rd"
          refine i_rI ⟨by decide, by decide, by omega⟩ ?_
          walk_at "rd"
          generalize hx : (c % 2147483549 + 59333 * a + 30) ^ (5 : Int).toNat % 2147483579 = x
          have x0 : 0 ≤ x := by rw [← hx]; exact Int.emod_nonneg _ (by decide)
          have x1 : x < 2147483579 := by rw [← hx]; exact Int.emod_lt_of_pos _ (by decide)
          refine i_rI (.inl ⟨by omega, by omega⟩) ?_
          walk_at "rd"
          refine i_rI (.inl ⟨by omega, by omega⟩) ?_
          walk_at "rd"
          have b1 := mul_bd x0 (Int.le_of_lt x1) (b := 2 * a + 49) (B := 20100) (by omega) (by omega)
          have b2 := mul_bd (a := 70001 * a) (A := 70001 * 10001) (by omega) (by omega) a0 (B := 10001) (by omega)
          refine i_rI ⟨by decide, by decide, by omega⟩ ?_
          walk_at "rd"
          refine i_rI (wide_div (b := 8) (by decide) (by decide) (by decide) (by decide)) ?_
          walk_at "rd"
          exact fin0 _ (Int.emod_nonneg _ (by omega)) (Int.emod_lt_of_pos _ m0)
      · subst he
        walk_at "rd"
        generalize 49157 * a + 16 = c
        have c0 := Int.emod_nonneg c (b := 2147483549) (by decide)
        have c1 := Int.emod_lt_of_pos c (b := 2147483549) (by decide)
        refine ite_d (fun h1 => ?_) (fun h1 => ?_)
        · walk_at "rd"
          refine ite_d (fun h2 => ?_) (fun h2 => ?_)
          · walk_at "rd"
            refine i_rI (wd _) ?_
            walk_at "rd"
            refine i_setL hp2 (j := 2) rfl ?_
            walk_at "rd"
            refine fin _ _ (Int.ediv_nonneg ?_ (by omega)) (Int.emod_nonneg _ (by omega)) (Int.emod_lt_of_pos _ m0)
            split <;> split <;> omega
          · walk_at "rd"
            refine i_rI ⟨by decide, by decide, by omega⟩ ?_
            walk_at "rd"
            generalize hx : (c % 2147483549 + 59333 * a + 30) ^ (5 : Int).toNat % 2147483579 = x
            have x0 : 0 ≤ x := by rw [← hx]; exact Int.emod_nonneg _ (by decide)
            have x1 : x < 2147483579 := by rw [← hx]; exact Int.emod_lt_of_pos _ (by decide)
            refine i_rI (.inl ⟨by omega, by omega⟩) ?_
            walk_at "rd"
            refine i_rI (.inl ⟨by omega, by omega⟩) ?_
            walk_at "rd"
            have b1 := mul_bd x0 (Int.le_of_lt x1) (b := 2 * a + 49) (B := 20100) (by omega) (by omega)
            have b2 := mul_bd (a := 70001 * a) (A := 70001 * 10001) (by omega) (by omega) a0 (B := 10001) (by omega)
            refine i_rI ⟨by decide, by decide, by omega⟩ ?_
            walk_at "rd"
            refine i_rI (wide_div (b := 8) (by decide) (by decide) (by decide) (by decide)) ?_
            walk_at "rd"
            exact fin0 _ (Int.emod_nonneg _ (by omega)) (Int.emod_lt_of_pos _ m0)
        · refine iteF ?_
          walk_at "rd"
          refine i_rI ⟨by decide, by decide, by omega⟩ ?_
          walk_at "rd"
          generalize hx : (c % 2147483549 + 59333 * a + 30) ^ (5 : Int).toNat % 2147483579 = x
          have x0 : 0 ≤ x := by rw [← hx]; exact Int.emod_nonneg _ (by decide)
          have x1 : x < 2147483579 := by rw [← hx]; exact Int.emod_lt_of_pos _ (by decide)
          refine i_rI (.inl ⟨by omega, by omega⟩) ?_
          walk_at "rd"
          refine i_rI (.inl ⟨by omega, by omega⟩) ?_
          walk_at "rd"
          have b1 := mul_bd x0 (Int.le_of_lt x1) (b := 2 * a + 49) (B := 20100) (by omega) (by omega)
          have b2 := mul_bd (a := 70001 * a) (A := 70001 * 10001) (by omega) (by omega) a0 (B := 10001) (by omega)
          refine i_rI ⟨by decide, by decide, by omega⟩ ?_
          walk_at "rd"
          refine i_rI (wide_div (b := 8) (by decide) (by decide) (by decide) (by decide)) ?_
          walk_at "rd"
          exact fin0 _ (Int.emod_nonneg _ (by omega)) (Int.emod_lt_of_pos _ m0)
end
end Spk

set_option Elab.async false
set_option linter.all false
set_option maxRecDepth 100000
set_option maxHeartbeats 1000000
namespace Spk
open PySem L2
local macro_rules | `(tactic| walk_at "rd") => `(tactic| repeat (first
  | with_reducible refine i_seq ?_ | with_reducible refine i_asg ?_ | with_reducible refine i_ret ?_ | with_reducible refine i_ifS ?_ | with_reducible refine i_if ?_
  | with_reducible refine i_for ?_ | with_reducible refine i_iL ?_ | with_reducible refine i_iT ?_ | with_reducible refine i_ckw ?_ | with_reducible refine i_cm ?_ | with_reducible refine And.intro (rfl : V.ref _ = V.ref _) ?_ | with_reducible refine i_rng1 ?_ | with_reducible refine i_bm ?_ | with_reducible refine i_bm0 ?_
  | with_reducible refine i_drop ?_ | with_reducible refine i_next ?_
  | with_reducible refine i_var rfl ?_ | with_reducible refine i_c ?_ | with_reducible refine i_op ?_ | with_reducible refine i_un ?_ | with_reducible refine i_name ?_
  | with_reducible refine i_rI0 ?_ | with_reducible refine i_rU ?_ | with_reducible refine i_rEq rfl ?_ | with_reducible refine i_rNe rfl ?_
  | with_reducible refine i_test ?_ | with_reducible refine i_tB ?_ | with_reducible refine i_and ?_ | with_reducible refine i_or ?_ | with_reducible refine i_not ?_
  | with_reducible refine i_andV ?_ | with_reducible refine i_orV ?_ | with_reducible refine i_notV ?_
  | with_reducible refine i_cons ?_ | with_reducible refine i_nil ?_ | with_reducible refine i_cb ?_ | with_reducible refine i_call ?_ | with_reducible refine i_bl ?_
  | with_reducible refine i_tup ?_ | with_reducible refine i_lst ?_ | with_reducible refine i_par ?_ | with_reducible refine i_gcons ?_ | with_reducible refine i_gnil ?_
  | with_reducible refine And.intro (rfl : V.non = V.non) ?_ | with_reducible refine i_ixT (by assumption) rfl ?_ | with_reducible refine i_ixL (by assumption) rfl ?_ | with_reducible refine i_gtup (by assumption) rfl ?_
  | with_reducible refine i_gsub ?_
  | with_reducible refine Or.inl (Exists.intro _ (And.intro (rfl : [V.int _] = [V.int _]) ?_)) | with_reducible refine Exists.intro _ (And.intro (rfl : [V.int _] = [V.int _]) ?_)
  | with_reducible refine Or.inr (Exists.intro _ (And.intro (rfl : [V.bl _] = [V.bl _]) ?_))
  | with_reducible refine Exists.intro _ (Exists.intro _ (And.intro (rfl : [V.int _, V.int _] = [V.int _, V.int _]) ?_))
  | with_reducible refine Exists.intro _ (Exists.intro _ (And.intro (rfl : [V.ref _] = [V.ref _]) (And.intro (Or.inl (SqL.of (by assumption))) ?_)))
  | with_reducible refine i_rI (show (0 : Int) < _ by assumption) ?_ | with_reducible refine i_rI (show (0 : Int) < _ by decide) ?_
  | with_reducible refine i_rI (pow_ok (Nat.le_of_ble_eq_true rfl) (Nat.le_of_ble_eq_true rfl)) ?_
  | with_reducible refine i_rI (cmulL rfl) ?_))
theorem i_chain {r r' : R2} {ta tb tc : TE} {σ : L2.St} {H : Hp} {Q : VK} (h : ta σ H fun x H1 => tb σ H1 fun y H2 => r x y H2 fun z H3 => ∃ k, z = V.bl k ∧ if k = true then tc σ H3 fun w' H4 => r' y w' H4 Q else Q (V.bl false) H3) : tChain r r' ta tb tc σ H Q := h
theorem i_iS {te : TE} {σ : L2.St} {H : Hp} {R : It → Hp → Prop} (h : te σ H fun v H1 => ∃ x, v = V.str x ∧ R (Its x) H1) : iStr te σ H R := h
/-! ### kinds of things -/
/-- any other value, by its type -/
def Other (K : PySem.W.Frag) (H : Hp) (y : V) : Prop := ∃ t, TyX K H y t ∧ (PySem.W.kitOne K t (.type "int") = some false ∨ (PySem.W.kitOne K t (.type "int") = some true ∧ PySem.W.kitOne K t (.type "bool") = some true))
abbrev absI (n : Int) : Int := if n < 0 then -n else n
abbrev big : Int := (10 : Int) ^ (30 : Int).toNat
/-- what is_value says of it -/
def SaysV (K : PySem.W.Frag) (H : Hp) (y : V) (k : Bool) : Prop := (∃ n, y = .int n ∧ k = decide (absI n < big)) ∨ (Other K H y ∧ k = false)
/-- the signs of a name -/
def NameOk (z : Str) : Prop := 1 ≤ z.length ∧ z.length ≤ 8 ∧ ∀ c, c ∈ z.cps.toList → 97 ≤ c ∧ c ≤ 122
theorem le_ch {a b : Nat} (h : a ≤ b) : (!decide ([b] < [a])) = true := by
  rw [Bool.not_eq_true', decide_eq_false_iff_not]
  intro q
  rcases List.cons_lt_cons_iff.mp q with q | ⟨_, q⟩
  · omega
  · exact absurd q (List.lt_irrefl _)
theorem chars_a : ("a" : Str).cps.toList = [97] := rfl
theorem chars_z : ("z" : Str).cps.toList = [122] := rfl
/-- a list of so many True -/
abbrev yes (n : Nat) : List V := (List.replicate n true).map V.bl
theorem yes_snoc (n : Nat) : yes n ++ [V.bl true] = yes (n + 1) := by
  unfold yes
  rw [List.replicate_succ', List.map_append]
  rfl
theorem yes_all (n : Nat) : (List.replicate n true).all id = true := by simp
section
variable {P : Program} {w : World} {K : PySem.W.Frag} {mg : Str → Option Value} {base : Heap}
theorem cr_all_at {H : Hp} {a : Addr} {n : Nat} {Q : VK} (h : H a = some (.lst (yes n))) (q : Q (.bl true) H) : rAll K [.ref a] H Q :=
  ⟨a, List.replicate n true, rfl, SqL.of h, by rw [yes_all]; exact q⟩
abbrev s_is_number : Stmt := top 4
theorem sc_is_number : FnScope ["thing"] ["thing"] (defScope s_is_number) := ⟨rfl, rfl, rfl, by decide +kernel, rfl, by decide +kernel, by decide +kernel⟩
def sp_is_number (K : PySem.W.Frag) : Sp := fun vs H Q _ => ∃ y k, vs = [y] ∧ ((∃ n, y = .int n ∧ k = true) ∨ (Other K H y ∧ k = false)) ∧ Q (.bl k) H
theorem ok_is_number {f : Addr} {fd : FuncData} (F : Fun K "is_number" "is_number" s_is_number f fd) (z_isinstance : mg "isinstance" = none) (z_int : mg "int" = none) (z_bool : mg "bool" = none) : FnOk P w K mg base CX0 1 f fd ["thing"] (sp_is_number K) := by
  refine F.ok sc_is_number (fun vs H Q E h => ?_) (fun cdv A outer s H vs Q E hr h => ?_)
  · obtain ⟨y, k, rfl, _⟩ := h
    rfl
  · obtain ⟨y, k, rfl, h, q⟩ := h
    refine ⟨_, (pss_one (ps_ret (pe_and (pe_callB call_isi (by rfl) z_isinstance (by decide +kernel) (pa_cons (pv 0) (pa_cons (pe_bltn (v := .ty "int") (u := .type "int") (by rfl) z_int (by decide +kernel) rfl) pa_nil))) (pe_one (pe_not (pe_callB call_isi (by rfl) z_isinstance (by decide +kernel) (pa_cons (pv 0) (pa_cons (pe_bltn (v := .ty "bool") (u := .type "bool") (by rfl) z_bool (by decide +kernel) rfl) pa_nil)))))))), ?_⟩
    walk_at "rd"
    rcases h with ⟨n, rfl, rfl⟩ | ⟨⟨t, ty, ho⟩, rfl⟩
    · refine ⟨_, _, _, _, true, rfl, .ty "int", .base (.int n), kit_ty (by decide +kernel), true, rfl, iteT ?_⟩
      walk_at "rd"
      refine ⟨_, _, _, _, false, rfl, .ty "bool", .base (.int n), kit_ty (by decide +kernel), false, rfl, ?_⟩
      exact q
    · rcases ho with h1 | ⟨h1, h2⟩
      · exact ⟨_, _, _, _, false, rfl, .ty "int", ty, h1, false, rfl, iteF q⟩
      · refine ⟨_, _, _, _, true, rfl, .ty "int", ty, h1, true, rfl, iteT ?_⟩
        walk_at "rd"
        exact ⟨_, _, _, _, true, rfl, .ty "bool", ty, h2, true, rfl, q⟩
abbrev s_is_value : Stmt := top 5
theorem sc_is_value : FnScope ["thing"] ["thing"] (defScope s_is_value) := ⟨rfl, rfl, rfl, by decide +kernel, rfl, by decide +kernel, by decide +kernel⟩
def sp_is_value (K : PySem.W.Frag) : Sp := fun vs H Q _ => ∃ y k, vs = [y] ∧ SaysV K H y k ∧ Q (.bl k) H
theorem ok_is_value {f fN : Addr} {fd fdN : FuncData} (F : Fun K "is_value" "is_value" s_is_value f fd) (F_is_number : Fun K "is_number" "is_number" s_is_number fN fdN) (B_is_number : Binds K fdN ["thing"] []) (g_is_number : mg "is_number" = some (.ref fN))
    (G_is_number : FnOk P w K mg base CX0 1 fN fdN ["thing"] (sp_is_number K)) (z_abs : mg "abs" = none) : FnOk P w K mg base CX0 2 f fd ["thing"] (sp_is_value K) := by
  refine F.ok sc_is_value (fun vs H Q E h => ?_) (fun cdv A outer s H vs Q E hr h => ?_)
  · obtain ⟨y, k, rfl, _⟩ := h
    rfl
  · obtain ⟨y, k, rfl, h, q⟩ := h
    refine ⟨_, (pss_one (ps_ret (pe_and (pe_call G_is_number (hr.mono (by decide)) rfl g_is_number F_is_number.kp B_is_number .nil pass0 (pa_cons (pv 0) pa_nil)) (pe_one (pe_cmpR op_lt (pe_callB call_abs (by rfl) z_abs (by decide +kernel) (pa_cons (pv 0) pa_nil)) (pe_op op_pow pe_int pe_int) (nomark _)))))), ?_⟩
    walk_at "rd"
    rcases h with ⟨n, rfl, rfl⟩ | ⟨o, rfl⟩
    · refine ⟨.int n, true, rfl, .inl ⟨n, rfl, rfl⟩, true, rfl, iteT ?_⟩
      walk_at "rd"
      exact q
    · exact ⟨y, false, rfl, .inr ⟨o, rfl⟩, false, rfl, iteF q⟩
abbrev s_is_name : Stmt := top 6
theorem sc_is_name : FnScope ["thing", "sign"] ["thing"] (defScope s_is_name) := ⟨rfl, rfl, rfl, by decide +kernel, rfl, by decide +kernel, by decide +kernel⟩
def sp_is_name : Sp := fun vs H Q _ => ∃ z, vs = [.str z] ∧ NameOk z ∧ ∀ H', Same H H' → Q (.bl true) H'
theorem ok_is_name {f : Addr} {fd : FuncData} (F : Fun K "is_name" "is_name" s_is_name f fd) (z_isinstance : mg "isinstance" = none) (z_str : mg "str" = none) (z_len : mg "len" = none) (z_all : mg "all" = none) : FnOk P w K mg base CX0 1 f fd ["thing"] sp_is_name := by
  refine F.ok sc_is_name (fun vs H Q E h => ?_) (fun cdv A outer s H vs Q E hr h => ?_)
  · obtain ⟨z, rfl, _⟩ := h
    rfl
  · obtain ⟨z, rfl, ⟨h1, h8, hc⟩, q⟩ := h
    refine ⟨_, (pss_one (ps_ret (pe_and (pe_callB call_isi (by rfl) z_isinstance (by decide +kernel) (pa_cons (pv 0) (pa_cons (pe_bltn (v := .ty "str") (u := .type "str") (by rfl) z_str (by decide +kernel) rfl) pa_nil))) (pe_and (pe_chain op_le op_le pe_int (pe_callB call_len_str (by rfl) z_len PySem.boot_len (pa_cons (pv 0) pa_nil)) pe_int) (pe_one (pe_callB (cr_all rfl) (by rfl) z_all (by decide +kernel) (pa_cons (pe_lc (own := [("sign", 1)]) (g := gName 1) (tt := tYes) rfl sc_is_name.nd (pi_str (pv 0)) (blkOk_by (own := [("sign", 1)]) (N := ["thing", "sign"]) (sc := defScope s_is_name) (by decide +kernel)) (fun _ _ _ _ _ => pg_name (i := 1) sc_is_name.nd rfl (Or.inl rfl)) (fun _ _ _ _ _ => pts_nil) (fun _ _ _ _ _ => (pe_chain op_le_str op_le_str pe_str (pv 1) pe_str))) pa_nil))))))), ?_⟩
    walk_at "rd"
    refine ⟨_, _, _, _, true, rfl, .ty "str", .base (.str z), kit_ty (by decide +kernel), true, rfl, iteT ?_⟩
    walk_at "rd"
    refine i_chain ?_
    walk_at "rd"
    refine ⟨z, rfl, size_of (by omega), ?_⟩
    walk_at "rd"
    rw [decide_eq_true (show (1 : Int) ≤ (z.length : Int) by omega)]
    refine iteT ?_
    walk_at "rd"
    rw [decide_eq_true (show (z.length : Int) ≤ 8 by omega)]
    refine iteT ?_
    walk_at "rd"
    unfold tLc
    refine i_iS ?_
    walk_at "rd"
    refine ⟨z, rfl, fun D hD => ?_⟩
    obtain ⟨H1, e1, s1, hd⟩ := new_heap (o := .lst []) hD
    refine lc_it walk_str (fun i H' => Same H H' ∧ H' D = some (.lst (yes i))) ⟨by rw [e1]; exact s1, by rw [e1]; exact hd⟩ (fun _ _ _ _ => trivial) ?_ ?_
    · rintro i x H2 H' hi ⟨s2, h2⟩ ⟨rfl, c, hc', rfl⟩
      have hm : c ∈ z.cps.toList := by
        rw [← Array.getElem?_toList] at hc'
        exact List.mem_of_getElem? hc'
      obtain ⟨b1, b2⟩ := hc c hm
      walk_at "rd"
      refine ⟨rfl, i_yes (iteT ?_)⟩
      refine i_chain ?_
      walk_at "rd"
      refine ⟨_, _, rfl, rfl, ?_⟩
      rw [chars_a, show (Str.mk #[c]).cps.toList = [c] from rfl, le_ch b1]
      refine ⟨true, rfl, iteT ?_⟩
      walk_at "rd"
      refine ⟨_, _, rfl, rfl, ?_⟩
      rw [chars_z, show (Str.mk #[c]).cps.toList = [c] from rfl, le_ch b2]
      refine ⟨_, h2, size_lt (by rw [List.length_map, List.length_replicate]; have : z.length = z.cps.size := rfl; omega), Same.mut s2 hD, ?_⟩
      rw [yes_snoc]
      exact upd_same
    · rintro H' ⟨s2, h2⟩
      walk_at "rd"
      exact cr_all_at h2 (q H' s2)
abbrev s_are_names : Stmt := top 7
theorem sc_are_names : FnScope ["things", "thing"] ["things"] (defScope s_are_names) := ⟨rfl, rfl, rfl, by decide +kernel, rfl, by decide +kernel, by decide +kernel⟩
def sp_are_names (K : PySem.W.Frag) : Sp := fun vs H Q _ => ∃ t cs, vs = [.ref t] ∧ SqT K H t (cs.map V.str) ∧ cs ≠ [] ∧ cs.length ≤ 100 ∧ cs.Nodup ∧ (∀ c, c ∈ cs → NameOk c) ∧ ∀ H', Same H H' → Q (.bl true) H'
theorem onceTx_all {cs : List Str} (h : cs.Nodup) : (onceTx [] cs).length = cs.length := by
  have e := onceTx_nodup cs [] (by simpa using h)
  simpa using e
theorem ok_are_names {f fN : Addr} {fd fdN : FuncData} (F : Fun K "are_names" "are_names" s_are_names f fd) (F_is_name : Fun K "is_name" "is_name" s_is_name fN fdN) (B_is_name : Binds K fdN ["thing"] []) (g_is_name : mg "is_name" = some (.ref fN))
    (G_is_name : FnOk P w K mg base CX0 1 fN fdN ["thing"] sp_is_name) (z_len : mg "len" = none) (z_all : mg "all" = none) (z_set : mg "set" = none) : FnOk P w K mg base CX0 2 f fd ["things"] (sp_are_names K) := by
  refine F.ok sc_are_names (fun vs H Q E h => ?_) (fun cdv A outer s H vs Q E hr h => ?_)
  · obtain ⟨t, cs, rfl, _⟩ := h
    rfl
  · obtain ⟨t, cs, rfl, ht, hne, hz, nd, ok, q⟩ := h
    refine ⟨_, (pss_one (ps_ret (pe_and (pe_cmpR op_gt (pe_callB call_len_seq (by rfl) z_len PySem.boot_len (pa_cons (pv 0) pa_nil)) pe_int (nomark _)) (pe_and (pe_callB (cr_all rfl) (by rfl) z_all (by decide +kernel) (pa_cons (pe_lc (own := [("thing", 1)]) (g := gName 1) (tt := tYes) rfl sc_are_names.nd (pi_tup (pv 0)) (blkOk_by (own := [("thing", 1)]) (N := ["things", "thing"]) (sc := defScope s_are_names) (by decide +kernel)) (fun _ _ _ _ _ => pg_name (i := 1) sc_are_names.nd rfl (Or.inl rfl)) (fun _ _ _ _ _ => pts_nil) (fun _ _ _ _ _ => (pe_call G_is_name (hr.mono (by decide)) rfl g_is_name F_is_name.kp B_is_name .nil pass0 (pa_cons (pv 1) pa_nil)))) pa_nil)) (pe_one (pe_cmpR op_eq (pe_callB cr_txLen (by rfl) z_len PySem.boot_len (pa_cons (pe_callTy (cr_txSet rfl) (by rfl) z_set (by decide +kernel) (pa_cons (pv 0) pa_nil)) pa_nil)) (pe_callB call_len_seq (by rfl) z_len PySem.boot_len (pa_cons (pv 0) pa_nil)) (nomark _))))))), ?_⟩
    walk_at "rd"
    refine ⟨t, _, rfl, .inr ht, ?_⟩
    walk_at "rd"
    have hpos : 0 < cs.length := by
      cases cs with
      | nil => exact absurd rfl hne
      | cons x xs => simp
    rw [decide_eq_true (show (0 : Int) < (((cs.map V.str).length : Nat) : Int) by rw [List.length_map]; omega)]
    refine iteT ?_
    walk_at "rd"
    unfold tLc
    walk_at "rd"
    refine ⟨t, rfl, ⟨_, ht⟩, fun D hD => ?_⟩
    obtain ⟨H1, e1, s1, hd⟩ := new_heap (o := .lst []) hD
    refine lc_tup (K := K) (a := t) (xs := cs.map V.str) (fun i H' => Same H H' ∧ H' D = some (.lst (yes i))) ⟨by rw [e1]; exact s1, by rw [e1]; exact hd⟩ ?_ ?_ ?_
    · rintro i H' _ ⟨s2, _⟩
      exact SqT.ext ht s2
    · rintro i x H2 hx ⟨s2, h2⟩
      have hi : i < cs.length := by
        have := (List.getElem?_eq_some_iff.mp hx).1
        simpa using this
      obtain ⟨c, hc, rfl⟩ : ∃ c, c ∈ cs ∧ x = .str c := by
        rw [List.getElem?_map, List.getElem?_eq_getElem hi] at hx
        exact ⟨cs[i], List.getElem_mem hi, (Option.some.inj hx).symm⟩
      walk_at "rd"
      refine ⟨rfl, i_yes (iteT ?_)⟩
      walk_at "rd"
      refine ⟨c, rfl, ok c hc, fun H3 s3 => ?_⟩
      refine ⟨_, s3 _ _ h2, size_lt (by rw [List.length_map, List.length_replicate]; omega), Same.mut (fun b o z => s3 _ _ (s2 _ _ z)) hD, ?_⟩
      rw [yes_snoc]
      exact upd_same
    · rintro H2 ⟨s2, h2⟩
      walk_at "rd"
      refine cr_all_at h2 ⟨true, rfl, iteT ?_⟩
      walk_at "rd"
      refine ⟨t, cs, rfl, SqT.ext ht s2, by omega, fun p hp => ?_⟩
      obtain ⟨H3, e3, s3, h3⟩ := new_heap (o := TxO P w p (onceTx [] cs)) hp
      show tNil _ (upd H2 p (TxO P w p (onceTx [] cs))) _
      rw [e3]
      walk_at "rd"
      refine ⟨p, onceTx [] cs, rfl, h3, by rw [onceTx_all nd]; omega, ?_⟩
      walk_at "rd"
      refine ⟨t, _, rfl, .inr (SqT.ext (SqT.ext ht s2) s3), ?_⟩
      rw [onceTx_all nd, List.length_map]
      refine i_rEq rfl ?_
      rw [decide_eq_true rfl]
      exact q H3 fun b o z => s3 _ _ (s2 _ _ z)
abbrev s_sequence_of : Stmt := top 8
theorem sc_sequence_of : FnScope ["things"] ["things"] (defScope s_sequence_of) := ⟨rfl, rfl, rfl, by decide +kernel, rfl, by decide +kernel, by decide +kernel⟩
def sp_sequence_of : Sp := fun vs H Q _ => ∃ l xs, vs = [.ref l] ∧ H l = some (.lst xs) ∧ ∀ p H', Same H H' → H' p = some (.tup xs) → Q (.ref p) H'
theorem ok_sequence_of {f : Addr} {fd : FuncData} (F : Fun K "sequence_of" "sequence_of" s_sequence_of f fd) (z_isinstance : mg "isinstance" = none) (z_list : mg "list" = none) (z_tuple : mg "tuple" = none) : FnOk P w K mg base CX0 1 f fd ["things"] sp_sequence_of := by
  refine F.ok sc_sequence_of (fun vs H Q E h => ?_) (fun cdv A outer s H vs Q E hr h => ?_)
  · obtain ⟨l, xs, rfl, _⟩ := h
    rfl
  · obtain ⟨l, xs, rfl, hl, q⟩ := h
    refine ⟨_, (pss_one (ps_ret (pe_ifExp (pt_val (pe_callB call_isiT (by rfl) z_isinstance (by decide +kernel) (pa_cons (pv 0) (pa_cons (pe_tup (pa_cons (pe_bltn (v := .ty "list") (u := .type "list") (by rfl) z_list (by decide +kernel) rfl) (pa_cons (pe_bltn (v := .ty "tuple") (u := .type "tuple") (by rfl) z_tuple (by decide +kernel) rfl) pa_nil))) pa_nil)))) (pe_callTy call_tuple_of (by rfl) z_tuple (by decide +kernel) (pa_cons (pv 0) pa_nil)) (pe_tup pa_nil)))), ?_⟩
    walk_at "rd"
    refine ⟨size_of (Nat.le_of_ble_eq_true rfl), fun tp htp => ?_⟩
    obtain ⟨H1, e1, s1, h1⟩ := new_heap (o := .tup [.ty "list", .ty "tuple"]) htp
    rw [e1]
    walk_at "rd"
    refine ⟨.ref l, tp, _, _, _, true, rfl, h1, .cons (.ty "list") (.cons (.ty "tuple") .nil), .base (.lst (s1 _ _ hl)), rfl, true, rfl, iteT ?_⟩
    walk_at "rd"
    refine ⟨l, xs, rfl, .inl ⟨SqL.of (s1 _ _ hl), fun p hp => ?_⟩⟩
    obtain ⟨H2, e2, s2, h2⟩ := new_heap (o := .tup xs) hp
    rw [e2]
    exact q p H2 (fun b o z => s2 _ _ (s1 _ _ z)) h2
end
end Spk

set_option Elab.async false
set_option linter.all false
set_option maxRecDepth 100000
set_option maxHeartbeats 1000000
namespace Spk
open PySem L2
local macro_rules | `(tactic| walk_at "rd") => `(tactic| repeat (first
  | with_reducible refine i_seq ?_ | with_reducible refine i_asg ?_ | with_reducible refine i_ret ?_ | with_reducible refine i_ifS ?_ | with_reducible refine i_if ?_
  | with_reducible refine i_for ?_ | with_reducible refine i_iL ?_ | with_reducible refine i_iT ?_ | with_reducible refine i_ckw ?_ | with_reducible refine i_cm ?_ | with_reducible refine And.intro (rfl : V.ref _ = V.ref _) ?_ | with_reducible refine i_rng1 ?_ | with_reducible refine i_bm ?_ | with_reducible refine i_bm0 ?_
  | with_reducible refine i_drop ?_ | with_reducible refine i_next ?_
  | with_reducible refine i_var rfl ?_ | with_reducible refine i_c ?_ | with_reducible refine i_op ?_ | with_reducible refine i_un ?_ | with_reducible refine i_name ?_
  | with_reducible refine i_rI0 ?_ | with_reducible refine i_rU ?_ | with_reducible refine i_rEq rfl ?_ | with_reducible refine i_rNe rfl ?_
  | with_reducible refine i_test ?_ | with_reducible refine i_tB ?_ | with_reducible refine i_and ?_ | with_reducible refine i_or ?_ | with_reducible refine i_not ?_
  | with_reducible refine i_andV ?_ | with_reducible refine i_orV ?_ | with_reducible refine i_notV ?_
  | with_reducible refine i_cons ?_ | with_reducible refine i_nil ?_ | with_reducible refine i_cb ?_ | with_reducible refine i_call ?_ | with_reducible refine i_bl ?_
  | with_reducible refine i_tup ?_ | with_reducible refine i_lst ?_ | with_reducible refine i_par ?_ | with_reducible refine i_gcons ?_ | with_reducible refine i_gnil ?_
  | with_reducible refine And.intro (rfl : V.non = V.non) ?_ | with_reducible refine i_ixT (by assumption) rfl ?_ | with_reducible refine i_ixL (by assumption) rfl ?_ | with_reducible refine i_gtup (by assumption) rfl ?_
  | with_reducible refine i_gsub ?_
  | with_reducible refine Or.inl (Exists.intro _ (And.intro (rfl : [V.int _] = [V.int _]) ?_)) | with_reducible refine Exists.intro _ (And.intro (rfl : [V.int _] = [V.int _]) ?_)
  | with_reducible refine Or.inr (Exists.intro _ (And.intro (rfl : [V.bl _] = [V.bl _]) ?_))
  | with_reducible refine Exists.intro _ (Exists.intro _ (And.intro (rfl : [V.int _, V.int _] = [V.int _, V.int _]) ?_))
  | with_reducible refine Exists.intro _ (Exists.intro _ (And.intro (rfl : [V.ref _] = [V.ref _]) (And.intro (Or.inl (SqL.of (by assumption))) ?_)))
  | with_reducible refine i_rI (show (0 : Int) < _ by assumption) ?_ | with_reducible refine i_rI (show (0 : Int) < _ by decide) ?_
  | with_reducible refine i_rI (pow_ok (Nat.le_of_ble_eq_true rfl) (Nat.le_of_ble_eq_true rfl)) ?_
  | with_reducible refine i_rI (cmulL rfl) ?_))
/-! ### names among names -/
theorem flat_strs (cs : List Str) : (cs.map V.str).all flatV = true := by
  rw [List.all_map]
  exact List.all_eq_true.mpr fun _ _ => rfl
theorem in_strs (c : Str) (cs : List Str) : inV (.str c) (cs.map V.str) = decide (c ∈ cs) := by
  unfold inV
  rw [List.any_map, Bool.eq_iff_iff, List.any_eq_true, decide_eq_true_eq]
  constructor
  · rintro ⟨x, hx, e⟩
    have : x = c := eq_of_beq e
    rw [← this]
    exact hx
  · intro h
    exact ⟨c, h, (beq_self_eq_true c : (c == c) = true)⟩
theorem in_at {K : PySem.W.Frag} {H : Hp} {c : Str} {u : Addr} {cs : List Str} {Q : VK} (h : SqL K H u (cs.map V.str) ∨ SqT K H u (cs.map V.str)) (q : Q (.bl (decide (c ∈ cs))) H) : rIn K false (.str c) (.ref u) H Q :=
  ⟨u, _, rfl, h, rfl, flat_strs cs, by rw [in_strs]; exact q⟩
theorem notIn_at {K : PySem.W.Frag} {H : Hp} {c : Str} {u : Addr} {cs : List Str} {Q : VK} (h : SqL K H u (cs.map V.str) ∨ SqT K H u (cs.map V.str)) (q : Q (.bl (!decide (c ∈ cs))) H) : rIn K true (.str c) (.ref u) H Q :=
  ⟨u, _, rfl, h, rfl, flat_strs cs, by rw [in_strs]; exact q⟩
theorem str_at {cs : List Str} {i : Nat} {x : V} (hx : (cs.map V.str)[i]? = some x) : ∃ c, cs[i]? = some c ∧ x = .str c := by
  rw [List.getElem?_map] at hx
  cases h : cs[i]? with
  | none => rw [h] at hx; cases hx
  | some c =>
    rw [h] at hx
    exact ⟨c, rfl, (Option.some.inj hx).symm⟩
theorem take_snoc {α : Type} {ts : List α} {i : Nat} {t : α} (h : ts[i]? = some t) : ts.take (i + 1) = ts.take i ++ [t] := by
  rw [List.take_add_one, h]
  rfl
/-- what stands in the written part or in the heap as a tuple -/
def TuS (K : PySem.W.Frag) (H : Hp) (a : Addr) (xs : List V) : Prop := SqT K H a xs ∧ TyX K H (.ref a) (.type "tuple")
theorem TuS.of {K : PySem.W.Frag} {H : Hp} {a : Addr} {xs : List V} (h : H a = some (.tup xs)) : TuS K H a xs := ⟨SqT.of h, .base (.tup h)⟩
theorem ty_up {K : PySem.W.Frag} {H H' : Hp} {x : V} {t : Value} (e : Same H H') (h : TyX K H x t) : TyX K H' x t := by
  cases h with
  | base h =>
    refine .base ?_
    cases h with
    | non => exact .non
    | bl x => exact .bl x
    | int x => exact .int x
    | str x => exact .str x
    | flt x => exact .flt x
    | lst h => exact .lst (e _ _ h)
    | frz h => exact .frz (e _ _ h)
    | tup h => exact .tup (e _ _ h)
    | dK h => exact .dK (e _ _ h)
    | dT h => exact .dT (e _ _ h)
    | ins h a b c d f => exact .ins (e _ _ h) a b c d f
  | byt b => exact .byt b
  | set h => exact .set (e _ _ h)
  | kList h h2 => exact .kList h h2
  | kTuple h h2 => exact .kTuple h h2
  | kDict h h2 => exact .kDict h h2
  | fTuple h => exact .fTuple (e _ _ h)
  | fDict h => exact .fDict (e _ _ h)
theorem TuS.up {K : PySem.W.Frag} {H H' : Hp} {a : Addr} {xs : List V} (e : Same H H') (h : TuS K H a xs) : TuS K H' a xs := ⟨SqT.ext h.1 e, ty_up e h.2⟩
section
variable {P : Program} {w : World} {K : PySem.W.Frag} {mg : Str → Option Value} {base : Heap}
abbrev s_are_chosen : Stmt := top 11
theorem sc_are_chosen : FnScope ["names", "columns", "name"] ["names", "columns"] (defScope s_are_chosen) := ⟨rfl, rfl, rfl, by decide +kernel, rfl, by decide +kernel, by decide +kernel⟩
def sp_are_chosen (K : PySem.W.Frag) : Sp := fun vs H Q _ => ∃ t u, ∃ ks cs : List Str, vs = [.ref t, .ref u] ∧ TuS K H t (ks.map V.str) ∧ (SqL K H u (cs.map V.str) ∨ SqT K H u (cs.map V.str)) ∧ ks.length ≤ 100 ∧ ks.Nodup ∧ (∀ c, c ∈ ks → c ∈ cs) ∧ ∀ H', Same H H' → Q (.bl true) H'
theorem ok_are_chosen {f : Addr} {fd : FuncData} (F : Fun K "are_chosen" "are_chosen" s_are_chosen f fd) (z_isinstance : mg "isinstance" = none) (z_tuple : mg "tuple" = none) (z_str : mg "str" = none) (z_len : mg "len" = none) (z_all : mg "all" = none) (z_set : mg "set" = none) :
    FnOk P w K mg base CX0 1 f fd ["names", "columns"] (sp_are_chosen K) := by
  refine F.ok sc_are_chosen (fun vs H Q E h => ?_) (fun cdv A outer s H vs Q E hr h => ?_)
  · obtain ⟨t, u, ks, cs, rfl, _⟩ := h
    rfl
  · obtain ⟨t, u, ks, cs, rfl, ⟨ht, ty⟩, hu, hz, nd, sub, q⟩ := h
    refine ⟨_, (pss_cons (ps_if (pt_not (PW.pt (pw_and (pt_val (pe_callB call_isi (by rfl) z_isinstance (by decide +kernel) (pa_cons (pv 0) (pa_cons (pe_bltn (v := .ty "tuple") (u := .type "tuple") (by rfl) z_tuple (by decide +kernel) rfl) pa_nil)))) (pw_and1 (pt_truth (pe_callB (cr_all rfl) (by rfl) z_all (by decide +kernel) (pa_cons (pe_lc (own := [("name", 2)]) (g := gName 2) (tt := tYes) rfl sc_are_chosen.nd (pi_tup (pv 0)) (blkOk_by (own := [("name", 2)]) (N := ["names", "columns", "name"]) (sc := defScope s_are_chosen) (by decide +kernel)) (fun _ _ _ _ _ => pg_name (i := 2) sc_are_chosen.nd rfl (Or.inl rfl)) (fun _ _ _ _ _ => pts_nil) (fun _ _ _ _ _ => (pe_and (pe_callB (call_isiK (K := K) rfl) (by rfl) z_isinstance (by decide +kernel) (pa_cons (pv 2) (pa_cons (pe_bltn (v := .ty "str") (u := .type "str") (by rfl) z_str (by decide +kernel) rfl) pa_nil))) (pe_one (pe_cmpR (op_inK (K := K) rfl) (pv 2) (pv 1) (by rfl)))))) pa_nil)) (by intro _; rfl))))))
 (pss_one (ps_ret pe_bl))
 pss_nil)
 (pss_one (ps_ret (pe_cmpR op_eq (pe_callB cr_txLen (by rfl) z_len PySem.boot_len (pa_cons (pe_callTy (cr_txSet rfl) (by rfl) z_set (by decide +kernel) (pa_cons (pv 0) pa_nil)) pa_nil)) (pe_callB call_len_seq (by rfl) z_len PySem.boot_len (pa_cons (pv 0) pa_nil)) (nomark _))))), ?_⟩
    walk_at "rd"
    refine ⟨_, _, _, _, true, rfl, .ty "tuple", ty, kit_ty (by decide +kernel), true, rfl, iteT ?_⟩
    walk_at "rd"
    unfold tLc
    walk_at "rd"
    refine ⟨t, rfl, ⟨_, ht⟩, fun D hD => ?_⟩
    obtain ⟨H1, e1, s1, hd⟩ := new_heap (o := .lst []) hD
    refine lc_tup (K := K) (a := t) (xs := ks.map V.str) (fun i H' => Same H H' ∧ H' D = some (.lst (yes i))) ⟨by rw [e1]; exact s1, by rw [e1]; exact hd⟩ ?_ ?_ ?_
    · rintro i H' _ ⟨s2, _⟩
      exact SqT.ext ht s2
    · rintro i x H2 hx ⟨s2, h2⟩
      obtain ⟨c, hc, rfl⟩ := str_at hx
      have hi : i < ks.length := (List.getElem?_eq_some_iff.mp hc).1
      walk_at "rd"
      refine ⟨rfl, i_yes (iteT ?_)⟩
      walk_at "rd"
      refine ⟨_, _, _, _, true, rfl, .ty "str", .base (.str c), kit_ty (by decide +kernel), true, rfl, iteT ?_⟩
      walk_at "rd"
      refine in_at (hu.imp (fun z => SqL.ext z s2) fun z => SqT.ext z s2) ?_
      rw [decide_eq_true (sub c (List.mem_of_getElem? hc))]
      refine ⟨_, h2, size_lt (by rw [List.length_map, List.length_replicate]; omega), Same.mut s2 hD, ?_⟩
      rw [yes_snoc]
      exact upd_same
    · rintro H2 ⟨s2, h2⟩
      walk_at "rd"
      refine cr_all_at h2 ⟨true, rfl, ?_⟩
      refine iteF ?_
      walk_at "rd"
      refine ⟨t, ks, rfl, SqT.ext ht s2, by omega, fun p hp => ?_⟩
      obtain ⟨H3, e3, s3, h3⟩ := new_heap (o := TxO P w p (onceTx [] ks)) hp
      show tNil _ (upd H2 p (TxO P w p (onceTx [] ks))) _
      rw [e3]
      walk_at "rd"
      refine ⟨p, onceTx [] ks, rfl, h3, by rw [onceTx_all nd]; omega, ?_⟩
      walk_at "rd"
      refine ⟨t, _, rfl, .inr (SqT.ext (SqT.ext ht s2) s3), ?_⟩
      rw [onceTx_all nd, List.length_map]
      refine i_rEq rfl ?_
      rw [decide_eq_true rfl]
      exact q H3 fun b o z => s3 _ _ (s2 _ _ z)
abbrev s_in_order_of : Stmt := top 12
theorem sc_in_order_of : FnScope ["columns", "names", "column"] ["columns", "names"] (defScope s_in_order_of) := ⟨rfl, rfl, rfl, by decide +kernel, rfl, by decide +kernel, by decide +kernel⟩
abbrev among (cs ks : List Str) : List Str := cs.filter fun c => decide (c ∈ ks)
def sp_in_order_of (K : PySem.W.Frag) : Sp := fun vs H Q _ => ∃ t u, ∃ cs ks : List Str, vs = [.ref t, .ref u] ∧ SqT K H t (cs.map V.str) ∧ SqT K H u (ks.map V.str) ∧ cs.length ≤ 100 ∧ ∀ p H', Same H H' → H' p = some (.tup ((among cs ks).map V.str)) → Q (.ref p) H'
theorem among_snoc {cs ks : List Str} {i : Nat} {c : Str} (h : cs[i]? = some c) : among (cs.take (i + 1)) ks = if c ∈ ks then among (cs.take i) ks ++ [c] else among (cs.take i) ks := by
  unfold among
  rw [take_snoc h, List.filter_append]
  by_cases e : c ∈ ks
  · rw [if_pos e]
    simp [e]
  · rw [if_neg e]
    simp [e]
theorem ok_in_order_of {f : Addr} {fd : FuncData} (F : Fun K "in_order_of" "in_order_of" s_in_order_of f fd) (z_tuple : mg "tuple" = none) : FnOk P w K mg base CX0 1 f fd ["columns", "names"] (sp_in_order_of K) := by
  refine F.ok sc_in_order_of (fun vs H Q E h => ?_) (fun cdv A outer s H vs Q E hr h => ?_)
  · obtain ⟨t, u, ks, cs, rfl, _⟩ := h
    rfl
  · obtain ⟨t, u, cs, ks, rfl, ht, hu, hz, q⟩ := h
    refine ⟨_, (pss_one (ps_ret (pe_callTy call_tuple_of (by rfl) z_tuple (by decide +kernel) (pa_cons (pe_lc (own := [("column", 2)]) (g := gName 2) rfl sc_in_order_of.nd (pi_tup (pv 0)) (blkOk_by (own := [("column", 2)]) (N := ["columns", "names", "column"]) (sc := defScope s_in_order_of) (by decide +kernel)) (fun _ _ _ _ _ => pg_name (i := 2) sc_in_order_of.nd rfl (Or.inl rfl)) (fun _ _ _ _ _ => pts_one (pt_cmpR (op_inK (K := K) rfl) (pv 2) (pv 1) (by rfl))) (fun _ _ _ _ _ => (pv 2))) pa_nil)))), ?_⟩
    walk_at "rd"
    unfold tLc
    walk_at "rd"
    refine ⟨t, rfl, ⟨_, ht⟩, fun D hD => ?_⟩
    obtain ⟨H1, e1, s1, hd⟩ := new_heap (o := .lst []) hD
    refine lc_tup (K := K) (a := t) (xs := cs.map V.str) (fun i H' => Same H H' ∧ H' D = some (.lst ((among (cs.take i) ks).map V.str))) ⟨by rw [e1]; exact s1, by rw [e1]; exact hd⟩ ?_ ?_ ?_
    · rintro i H' _ ⟨s2, _⟩
      exact SqT.ext ht s2
    · rintro i x H2 hx ⟨s2, h2⟩
      obtain ⟨c, hc, rfl⟩ := str_at hx
      walk_at "rd"
      refine ⟨rfl, ?_⟩
      walk_at "rd"
      refine in_at (.inr (SqT.ext hu s2)) ⟨_, rfl, ?_⟩
      refine ite_d (fun hm => ?_) (fun hm => ?_)
      · walk_at "rd"
        refine ⟨_, h2, size_lt ?_, Same.mut s2 hD, ?_⟩
        · rw [List.length_map]
          refine Nat.le_trans (List.length_filter_le ..) ?_
          rw [List.length_take]
          omega
        · rw [among_snoc hc, if_pos hm, List.map_append]
          exact upd_same
      · refine ⟨s2, ?_⟩
        rw [among_snoc hc, if_neg hm]
        exact h2
    · rintro H2 ⟨s2, h2⟩
      rw [List.length_map, List.take_length] at h2
      walk_at "rd"
      refine ⟨D, _, rfl, .inl ⟨SqL.of h2, fun p hp => ?_⟩⟩
      obtain ⟨H3, e3, s3, h3⟩ := new_heap (o := .tup ((among cs ks).map V.str)) hp
      rw [e3]
      exact q p H3 (fun b o z => s3 _ _ (s2 _ _ z)) h3
end
end Spk

set_option Elab.async false
set_option linter.all false
set_option maxRecDepth 100000
set_option maxHeartbeats 1000000
namespace Spk
open PySem L2
local macro_rules | `(tactic| walk_at "rd") => `(tactic| repeat (first
  | with_reducible refine i_seq ?_ | with_reducible refine i_asg ?_ | with_reducible refine i_ret ?_ | with_reducible refine i_ifS ?_ | with_reducible refine i_if ?_
  | with_reducible refine i_for ?_ | with_reducible refine i_iL ?_ | with_reducible refine i_iT ?_ | with_reducible refine i_ckw ?_ | with_reducible refine i_cm ?_ | with_reducible refine And.intro (rfl : V.ref _ = V.ref _) ?_ | with_reducible refine i_rng1 ?_ | with_reducible refine i_bm ?_ | with_reducible refine i_bm0 ?_
  | with_reducible refine i_drop ?_ | with_reducible refine i_next ?_
  | with_reducible refine i_var rfl ?_ | with_reducible refine i_c ?_ | with_reducible refine i_op ?_ | with_reducible refine i_un ?_ | with_reducible refine i_name ?_
  | with_reducible refine i_rI0 ?_ | with_reducible refine i_rU ?_ | with_reducible refine i_rEq rfl ?_ | with_reducible refine i_rNe rfl ?_
  | with_reducible refine i_test ?_ | with_reducible refine i_tB ?_ | with_reducible refine i_and ?_ | with_reducible refine i_or ?_ | with_reducible refine i_not ?_
  | with_reducible refine i_andV ?_ | with_reducible refine i_orV ?_ | with_reducible refine i_notV ?_
  | with_reducible refine i_cons ?_ | with_reducible refine i_nil ?_ | with_reducible refine i_cb ?_ | with_reducible refine i_call ?_ | with_reducible refine i_bl ?_
  | with_reducible refine i_tup ?_ | with_reducible refine i_lst ?_ | with_reducible refine i_par ?_ | with_reducible refine i_gcons ?_ | with_reducible refine i_gnil ?_
  | with_reducible refine And.intro (rfl : V.non = V.non) ?_ | with_reducible refine i_ixT (by assumption) rfl ?_ | with_reducible refine i_ixL (by assumption) rfl ?_ | with_reducible refine i_gtup (by assumption) rfl ?_
  | with_reducible refine i_gsub ?_
  | with_reducible refine Or.inl (Exists.intro _ (And.intro (rfl : [V.int _] = [V.int _]) ?_)) | with_reducible refine Exists.intro _ (And.intro (rfl : [V.int _] = [V.int _]) ?_)
  | with_reducible refine Or.inr (Exists.intro _ (And.intro (rfl : [V.bl _] = [V.bl _]) ?_))
  | with_reducible refine Exists.intro _ (Exists.intro _ (And.intro (rfl : [V.int _, V.int _] = [V.int _, V.int _]) ?_))
  | with_reducible refine Exists.intro _ (Exists.intro _ (And.intro (rfl : [V.ref _] = [V.ref _]) (And.intro (Or.inl (SqL.of (by assumption))) ?_)))
  | with_reducible refine i_rI (show (0 : Int) < _ by assumption) ?_ | with_reducible refine i_rI (show (0 : Int) < _ by decide) ?_
  | with_reducible refine i_rI (pow_ok (Nat.le_of_ble_eq_true rfl) (Nat.le_of_ble_eq_true rfl)) ?_
  | with_reducible refine i_rI (cmulL rfl) ?_))
/-! ### the class Table -/
/-- what the text says of the class -/
structure ClsT (K : PySem.W.Frag) (mg : Str → Option Value) (C fI : Addr) (mc : Value) (p g : Addr) : Prop where
  cl : Cls K C
  nC : NoAttr K C "columns"
  nK : NoAttr K C "key"
  nF : NoAttr K C "fixed"
  nU : NoAttr K C "unique"
  nR : NoAttr K C "reuse"
  M : Mk K C fI
  g_C : mg "Table" = some (.ref C)
  rd : ClX.CRead K C mc
  of : ClX.CMet K C mc "of" p g
  most : ∃ u, ClX.CVal K C mc "MOST_COLUMNS" (.int 4) u
abbrev flds (tc tk tf tu : Addr) : List (Str × V) := [("columns", .ref tc), ("key", .ref tk), ("fixed", .ref tf), ("unique", .ref tu), ("reuse", .bl true)]
/-- a table with these columns and these key columns -/
def Tab (C : Addr) (H : Hp) (x : Addr) (cs ks : List Str) : Prop := ∃ dx tc tk tf tu, H x = some (.ins C dx (flds tc tk tf tu)) ∧ TupF H tc (cs.map V.str) ∧ H tk = some (.tup ((among cs ks).map V.str))
theorem Tab.up {C : Addr} {H H' : Hp} {x : Addr} {cs ks : List Str} (e : Same H H') (h : Tab C H x cs ks) : Tab C H' x cs ks := by
  obtain ⟨dx, tc, tk, tf, tu, h1, h2, h3⟩ := h
  exact ⟨dx, tc, tk, tf, tu, e _ _ h1, h2.up e, e _ _ h3⟩
theorem lk_columns {tc tk tf tu : Addr} : (flds tc tk tf tu).lookup ("columns" : Str) = some (.ref tc) := by
  simp only [List.lookup, beq_self_eq_true]
theorem lk_key {tc tk tf tu : Addr} : (flds tc tk tf tu).lookup ("key" : Str) = some (.ref tk) := by
  simp only [List.lookup, beq_self_eq_true, show (("key" : Str) == "columns") = false from rfl]
theorem i_cval {K : PySem.W.Frag} {ta : TE} {f : Str} {σ : L2.St} {H : Hp} {Q : VK} (h : ta σ H fun x H1 => ∃ C mc v u, x = .ref C ∧ ClX.CRead K C mc ∧ ClX.CVal K C mc f v u ∧ Q v H1) : ClX.tCVal K ta f σ H Q := h
theorem i_fld {K : PySem.W.Frag} {ta tv : TE} {f : Str} {D : Ends} {σ : L2.St} {H : Hp} (h : tv σ H fun y H1 => ta σ H1 fun x H2 => ∃ a C dx fs, x = V.ref a ∧ H2 a = some (HO.ins C dx fs) ∧ Cls K C ∧ NoAttr K C f ∧ fs.length < 1000 ∧ D.nx σ (upd H2 a (HO.ins C dx (putF f y fs)))) : sFld K ta tv f D σ H := h
/-- all but x is as it was -/
def Off (x : Addr) (H H' : Hp) : Prop := ∀ b o, b ≠ x → H b = some o → H' b = some o
theorem Off.refl (x : Addr) (H : Hp) : Off x H H := fun _ _ _ h => h
theorem Off.trans {x : Addr} {H H1 H2 : Hp} (a : Off x H H1) (b : Off x H1 H2) : Off x H H2 := fun c o n h => b c o n (a c o n h)
theorem off_of {x : Addr} {H H' : Hp} (e : Same H H') : Off x H H' := fun b o _ h => e b o h
theorem off_upd {x : Addr} {H : Hp} {o : HO} : Off x H (upd H x o) := fun b u n h => by
  rw [upd_ne n]
  exact h
theorem sqt_off {K : PySem.W.Frag} {x C dx a : Addr} {fs : List (Str × V)} {H H' : Hp} {xs : List V} (e : Off x H H') (hx : H x = some (.ins C dx fs)) (h : SqT K H a xs) : SqT K H' a xs := by
  rcases h with (h | ⟨o, h⟩) | h
  · exact .inl (.inl (e a _ (fun z => by rw [z, hx] at h; cases h) h))
  · exact .inl (.inr ⟨o, e a _ (fun z => by rw [z, hx] at h; cases h) h⟩)
  · exact .inr h
theorem tuf_off {x C dx a : Addr} {fs : List (Str × V)} {H H' : Hp} {xs : List V} (e : Off x H H') (hx : H x = some (.ins C dx fs)) (h : TupF H a xs) : TupF H' a xs := by
  obtain ⟨o, h, r⟩ := h
  exact ⟨o, e a _ (fun z => by rw [z, hx] at h; cases h) h, r⟩
/-- what a table may be made of -/
structure MayBe (cs ks : List Str) : Prop where
  c0 : cs ≠ []
  c4 : cs.length ≤ 4
  cn : cs.Nodup
  ok : ∀ c, c ∈ cs → NameOk c
  k0 : ks ≠ []
  k2 : ks.length ≤ 2
  kn : ks.Nodup
  sub : ∀ c, c ∈ ks → c ∈ cs
section
variable {P : Program} {w : World} {K : PySem.W.Frag} {mg : Str → Option Value} {base : Heap} {C fI p g : Addr} {mc : Value}
abbrev s_Table__init : Stmt := inClass (top 10) 1
theorem sc_Table__init : FnScope ["self", "key", "fixed", "unique", "reuse", "columns", "others", "column"] ["self", "key", "fixed", "unique", "reuse", "columns"] (defScope s_Table__init) := ⟨rfl, rfl, rfl, by decide +kernel, rfl, by decide +kernel, by decide +kernel⟩
def sp_tinit (K : PySem.W.Frag) (C : Addr) : Sp := fun vs H Q _ => ∃ x dx tk tf tu p, ∃ cs ks : List Str, vs = [.ref x, .ref tk, .ref tf, .ref tu, .bl true, .ref p] ∧ H x = some (.ins C dx []) ∧ TupF H p (cs.map V.str) ∧ TuS K H tk (ks.map V.str) ∧ TuS K H tf [] ∧ TuS K H tu [] ∧ MayBe cs ks ∧
  ∀ H', (∀ b o, b ≠ x → H b = some o → H' b = some o) → Tab C H' x cs ks → Q .non H'
theorem run_tinit {fA fC fO : Addr} {fdA fdC fdO : FuncData} (T : ClsT K mg C fI mc p g)
    (F_are_names : Fun K "are_names" "are_names" s_are_names fA fdA) (B_are_names : Binds K fdA ["things"] []) (g_are_names : mg "are_names" = some (.ref fA)) (G_are_names : FnOk P w K mg base CX0 2 fA fdA ["things"] (sp_are_names K))
    (F_are_chosen : Fun K "are_chosen" "are_chosen" s_are_chosen fC fdC) (B_are_chosen : Binds K fdC ["names", "columns"] []) (g_are_chosen : mg "are_chosen" = some (.ref fC)) (G_are_chosen : FnOk P w K mg base CX0 1 fC fdC ["names", "columns"] (sp_are_chosen K))
    (F_in_order_of : Fun K "in_order_of" "in_order_of" s_in_order_of fO fdO) (B_in_order_of : Binds K fdO ["columns", "names"] []) (g_in_order_of : mg "in_order_of" = some (.ref fO)) (G_in_order_of : FnOk P w K mg base CX0 1 fO fdO ["columns", "names"] (sp_in_order_of K))
    (z_len : mg "len" = none) {f : Addr} {cdv : Value} {A : Around} {outer : List Env} {s : Shared} {H : Hp} {vs : List V} {Q : VK} {E : XK} (hr : Room 2 (A.deeper (PyProof.Rows.envOfC "Table.__init__" (defScope s_Table__init) s.heap.objs.size f cdv))) (h : sp_tinit K C vs H Q E) :
    ∃ t, PSs (cxOf CX0 P w K mg base ["self", "key", "fixed", "unique", "reuse", "columns", "others", "column"] "Table.__init__" (defScope s_Table__init) f cdv A outer s H E).nox (defBody s_Table__init) t ∧ t { nx := fun _ H1 => Q .non H1, rt := Q } (L2.start ["self", "key", "fixed", "unique", "reuse", "columns", "others", "column"] vs) H := by
  have g_C := T.g_C
  obtain ⟨u4, hmost⟩ := T.most
  obtain ⟨x, dx, tk, tf, tu, p, cs, ks, rfl, hx, hp, hk, hf, hu, mb, q⟩ := h
  refine ⟨_, (pss_cons (ps_if (pt_not (PW.pt (pw_and (pt_val (pe_call G_are_names (hr.mono (by decide)) rfl g_are_names F_are_names.kp B_are_names .nil pass0 (pa_cons (pv 5) pa_nil))) (pw_and1 (pt_cmpR op_le (pe_callB call_len_seq (by rfl) z_len PySem.boot_len (pa_cons (pv 5) pa_nil)) (ClX.pe_cval (pe_glob rfl g_C (relR _)) rfl) (nomark _))))))
 (pss_one ps_dead)
 pss_nil)
 (pss_cons (ps_if (pt_not (PW.pt (pw_and (pt_val (pe_call G_are_chosen (hr.mono (by decide)) rfl g_are_chosen F_are_chosen.kp B_are_chosen .nil pass0 (pa_cons (pv 1) (pa_cons (pv 5) pa_nil)))) (pw_and1 (pt_chain op_le op_le pe_int (pe_callB call_len_seq (by rfl) z_len PySem.boot_len (pa_cons (pv 1) pa_nil)) pe_int)))))
 (pss_one ps_dead)
 pss_nil)
 (pss_cons (ps_setLc (i := 6) (own := [("column", 7)]) (g := gName 7) rfl sc_Table__init.nd rfl rfl (sw_true rfl rfl rfl (by decide +kernel)) (pi_tup (pv 5)) (blkOk_by (own := [("column", 7)]) (N := ["self", "key", "fixed", "unique", "reuse", "columns", "others", "column"]) (sc := defScope s_Table__init) (by decide +kernel)) (fun _ _ _ _ _ => pg_name (i := 7) sc_Table__init.nd rfl (Or.inl rfl)) (fun _ _ _ _ _ => pts_one (pt_cmpR (op_notInK (K := K) rfl) (pv 7) (pv 1) (by rfl))) (fun _ _ _ _ _ => (pv 7)))
 (pss_cons (ps_if (pt_not (pt_val (pe_call G_are_chosen (hr.mono (by decide)) rfl g_are_chosen F_are_chosen.kp B_are_chosen .nil pass0 (pa_cons (pv 2) (pa_cons (pv 6) pa_nil)))))
 (pss_one ps_dead)
 pss_nil)
 (pss_cons (ps_if (pt_not (pt_val (pe_call G_are_chosen (hr.mono (by decide)) rfl g_are_chosen F_are_chosen.kp B_are_chosen .nil pass0 (pa_cons (pv 3) (pa_cons (pv 6) pa_nil)))))
 (pss_one ps_dead)
 pss_nil)
 (pss_cons (ps_fld (pv 0) (pv 5) rfl)
 (pss_cons (ps_fld (pv 0) (pe_call G_in_order_of (hr.mono (by decide)) rfl g_in_order_of F_in_order_of.kp B_in_order_of .nil pass0 (pa_cons (pv 5) (pa_cons (pv 1) pa_nil))) rfl)
 (pss_cons (ps_fld (pv 0) (pe_call G_in_order_of (hr.mono (by decide)) rfl g_in_order_of F_in_order_of.kp B_in_order_of .nil pass0 (pa_cons (pv 5) (pa_cons (pv 2) pa_nil))) rfl)
 (pss_cons (ps_fld (pv 0) (pe_call G_in_order_of (hr.mono (by decide)) rfl g_in_order_of F_in_order_of.kp B_in_order_of .nil pass0 (pa_cons (pv 5) (pa_cons (pv 3) pa_nil))) rfl)
 (pss_one (ps_fld (pv 0) (pv 4) rfl))))))))))), ?_⟩
  walk_at "rd"
  refine ⟨p, cs, rfl, hp.seq, mb.c0, by have := mb.c4; omega, mb.cn, mb.ok, fun H1 s1 => ⟨true, rfl, iteT ?_⟩⟩
  walk_at "rd"
  refine ⟨p, _, rfl, .inr (SqT.ext hp.seq s1), ?_⟩
  refine i_cval ?_
  walk_at "rd"
  refine ⟨C, mc, .int 4, u4, rfl, T.rd, hmost, ?_⟩
  walk_at "rd"
  rw [List.length_map, decide_eq_true (show (cs.length : Int) ≤ 4 by have := mb.c4; omega)]
  refine iteF ?_
  walk_at "rd"
  refine ⟨tk, p, ks, cs, rfl, hk.up s1, .inr (SqT.ext hp.seq s1), by have := mb.k2; omega, mb.kn, mb.sub, fun H2 s2 => ⟨true, rfl, iteT ?_⟩⟩
  walk_at "rd"
  refine i_chain ?_
  walk_at "rd"
  have sk2 : SqT K H2 tk (ks.map V.str) := SqT.ext (SqT.ext hk.1 s1) s2
  refine ⟨tk, _, rfl, .inr sk2, ?_⟩
  walk_at "rd"
  have kpos : 1 ≤ ks.length := by
    have := mb.k0
    cases ks with
    | nil => exact absurd rfl this
    | cons a b => simp
  rw [List.length_map, decide_eq_true (show (1 : Int) ≤ (ks.length : Int) by omega)]
  refine iteT ?_
  walk_at "rd"
  rw [decide_eq_true (show (ks.length : Int) ≤ 2 by have := mb.k2; omega)]
  refine iteF ?_
  walk_at "rd"
  have hx2 : H2 x = some (.ins C dx []) := s2 _ _ (s1 _ _ hx)
  have hp2 : TupF H2 p (cs.map V.str) := (hp.up s1).up s2
  have hf2 := (hf.up s1).up s2
  have hu2 := (hu.up s1).up s2
  unfold tLc
  walk_at "rd"
  refine ⟨p, rfl, ⟨_, hp2.seq⟩, fun D hD => ?_⟩
  obtain ⟨H3, e3, s3, h3⟩ := new_heap (o := .lst []) hD
  refine lc_tup (K := K) (a := p) (xs := cs.map V.str) (fun i H' => Same H2 H' ∧ ∃ os : List Str, H' D = some (.lst (os.map V.str)) ∧ os.length ≤ i) ⟨by rw [e3]; exact s3, [], by rw [e3]; exact h3, Nat.le_refl _⟩ ?_ ?_ ?_
  · rintro i H' _ ⟨s4, _⟩
    exact SqT.ext hp2.seq s4
  · rintro i y H4 hy ⟨s4, os, h4, lo⟩
    obtain ⟨c, hc, rfl⟩ := str_at hy
    have hi : i < cs.length := (List.getElem?_eq_some_iff.mp hc).1
    walk_at "rd"
    refine ⟨rfl, ?_⟩
    walk_at "rd"
    refine notIn_at (.inr (SqT.ext sk2 s4)) ⟨_, rfl, ?_⟩
    refine ite_nd (fun hm => ?_) (fun hm => ?_)
    · walk_at "rd"
      refine ⟨_, h4, size_lt (by rw [List.length_map]; have := mb.c4; omega), Same.mut s4 hD, os ++ [c], ?_, by rw [List.length_append]; simp; omega⟩
      rw [upd_same, List.map_append]
      rfl
    · exact ⟨s4, os, h4, by omega⟩
  · rintro H4 ⟨s4, os, h4, _⟩
    walk_at "rd"
    refine ⟨tf, D, [], os, rfl, hf2.up s4, .inl (SqL.of h4), Nat.zero_le _, List.nodup_nil, fun c hc => absurd hc List.not_mem_nil, fun H5 s5 => ⟨true, rfl, iteF ?_⟩⟩
    walk_at "rd"
    refine ⟨tu, D, [], os, rfl, (hu2.up s4).up s5, .inl (SqL.of (s5 _ _ h4)), Nat.zero_le _, List.nodup_nil, fun c hc => absurd hc List.not_mem_nil, fun H6 s6 => ⟨true, rfl, iteF ?_⟩⟩
    walk_at "rd"
    have s26 : Same H2 H6 := fun b o z => s6 _ _ (s5 _ _ (s4 _ _ z))
    have hx6 : H6 x = some (.ins C dx []) := s26 _ _ hx2
    have s06 : Same H H6 := fun b o z => s26 _ _ (s2 _ _ (s1 _ _ z))
    have hp6 := hp2.up s26
    have hk6 : SqT K H6 tk (ks.map V.str) := SqT.ext sk2 s26
    have hf6 := (hf2.up s26).1
    have hu6 := (hu2.up s26).1
    refine i_fld ?_
    walk_at "rd"
    refine ⟨x, C, dx, [], rfl, hx6, T.cl, T.nC, (by show 0 < 1000; decide), ?_⟩
    obtain ⟨H7, e7⟩ : ∃ H7, upd H6 x (.ins C dx (putF "columns" (.ref p) [])) = H7 := ⟨_, rfl⟩
    have o7 : Off x H6 H7 := by rw [← e7]; exact off_upd
    have hx7 : H7 x = some (.ins C dx [("columns", .ref p)]) := by rw [← e7, upd_same]; rfl
    rw [e7]
    walk_at "rd"
    refine i_fld ?_
    walk_at "rd"
    refine ⟨p, tk, cs, ks, rfl, (tuf_off o7 hx6 hp6).seq, sqt_off o7 hx6 hk6, by have := mb.c4; omega, fun q1 H8 s8 h8 => ?_⟩
    walk_at "rd"
    have hx8 := s8 _ _ hx7
    refine ⟨x, C, dx, _, rfl, hx8, T.cl, T.nK, (by show 1 < 1000; decide), ?_⟩
    obtain ⟨H9, e9⟩ : ∃ H9, upd H8 x (.ins C dx (putF "key" (.ref q1) [("columns", .ref p)])) = H9 := ⟨_, rfl⟩
    have o9 : Off x H8 H9 := by rw [← e9]; exact off_upd
    have hx9 : H9 x = some (.ins C dx [("columns", .ref p), ("key", .ref q1)]) := by rw [← e9, upd_same]; rfl
    rw [e9]
    have o79 : Off x H7 H9 := (off_of s8).trans o9
    have o69 : Off x H6 H9 := o7.trans o79
    walk_at "rd"
    refine i_fld ?_
    walk_at "rd"
    refine ⟨p, tf, cs, [], rfl, (tuf_off o69 hx6 hp6).seq, sqt_off o69 hx6 hf6, by have := mb.c4; omega, fun q2 H10 s10 h10 => ?_⟩
    walk_at "rd"
    have hx10 := s10 _ _ hx9
    refine ⟨x, C, dx, _, rfl, hx10, T.cl, T.nF, (by show 2 < 1000; decide), ?_⟩
    obtain ⟨H11, e11⟩ : ∃ H11, upd H10 x (.ins C dx (putF "fixed" (.ref q2) [("columns", .ref p), ("key", .ref q1)])) = H11 := ⟨_, rfl⟩
    have o11 : Off x H10 H11 := by rw [← e11]; exact off_upd
    have hx11 : H11 x = some (.ins C dx [("columns", .ref p), ("key", .ref q1), ("fixed", .ref q2)]) := by rw [← e11, upd_same]; rfl
    rw [e11]
    have o911 : Off x H9 H11 := (off_of s10).trans o11
    have o611 : Off x H6 H11 := o69.trans o911
    walk_at "rd"
    refine i_fld ?_
    walk_at "rd"
    refine ⟨p, tu, cs, [], rfl, (tuf_off o611 hx6 hp6).seq, sqt_off o611 hx6 hu6, by have := mb.c4; omega, fun q3 H12 s12 h12 => ?_⟩
    walk_at "rd"
    have hx12 := s12 _ _ hx11
    refine ⟨x, C, dx, _, rfl, hx12, T.cl, T.nU, (by show 3 < 1000; decide), ?_⟩
    obtain ⟨H13, e13⟩ : ∃ H13, upd H12 x (.ins C dx (putF "unique" (.ref q3) [("columns", .ref p), ("key", .ref q1), ("fixed", .ref q2)])) = H13 := ⟨_, rfl⟩
    have o13 : Off x H12 H13 := by rw [← e13]; exact off_upd
    have hx13 : H13 x = some (.ins C dx [("columns", .ref p), ("key", .ref q1), ("fixed", .ref q2), ("unique", .ref q3)]) := by rw [← e13, upd_same]; rfl
    rw [e13]
    walk_at "rd"
    dsimp only
    refine i_fld ?_
    walk_at "rd"
    refine ⟨x, C, dx, _, rfl, hx13, T.cl, T.nR, (by show 4 < 1000; decide), ?_⟩
    obtain ⟨H14, e14⟩ : ∃ H14, upd H13 x (.ins C dx (putF "reuse" (.bl true) [("columns", .ref p), ("key", .ref q1), ("fixed", .ref q2), ("unique", .ref q3)])) = H14 := ⟨_, rfl⟩
    have o14 : Off x H13 H14 := by rw [← e14]; exact off_upd
    have hx14 : H14 x = some (.ins C dx (flds p q1 q2 q3)) := by rw [← e14, upd_same]; rfl
    rw [e14]
    have o914 : Off x H9 H14 := ((o911.trans (off_of s12)).trans o13).trans o14
    have o614 : Off x H6 H14 := o69.trans o914
    have ne1 : q1 ≠ x := fun z => by rw [z, hx8] at h8; cases h8
    exact q H14 ((off_of s06).trans o614) ⟨dx, p, q1, q2, q3, hx14, tuf_off o614 hx6 hp6, o914 _ _ ne1 (o9 _ _ ne1 h8)⟩
end
end Spk

set_option Elab.async false
set_option linter.all false
set_option maxRecDepth 100000
set_option maxHeartbeats 1000000
namespace Spk
open PySem L2
local macro_rules | `(tactic| walk_at "rd") => `(tactic| repeat (first
  | with_reducible refine i_seq ?_ | with_reducible refine i_asg ?_ | with_reducible refine i_ret ?_ | with_reducible refine i_ifS ?_ | with_reducible refine i_if ?_
  | with_reducible refine i_for ?_ | with_reducible refine i_iL ?_ | with_reducible refine i_iT ?_ | with_reducible refine i_ckw ?_ | with_reducible refine i_cm ?_ | with_reducible refine And.intro (rfl : V.ref _ = V.ref _) ?_ | with_reducible refine i_rng1 ?_ | with_reducible refine i_bm ?_ | with_reducible refine i_bm0 ?_
  | with_reducible refine i_drop ?_ | with_reducible refine i_next ?_
  | with_reducible refine i_var rfl ?_ | with_reducible refine i_c ?_ | with_reducible refine i_op ?_ | with_reducible refine i_un ?_ | with_reducible refine i_name ?_
  | with_reducible refine i_rI0 ?_ | with_reducible refine i_rU ?_ | with_reducible refine i_rEq rfl ?_ | with_reducible refine i_rNe rfl ?_
  | with_reducible refine i_test ?_ | with_reducible refine i_tB ?_ | with_reducible refine i_and ?_ | with_reducible refine i_or ?_ | with_reducible refine i_not ?_
  | with_reducible refine i_andV ?_ | with_reducible refine i_orV ?_ | with_reducible refine i_notV ?_
  | with_reducible refine i_cons ?_ | with_reducible refine i_nil ?_ | with_reducible refine i_cb ?_ | with_reducible refine i_call ?_ | with_reducible refine i_bl ?_
  | with_reducible refine i_tup ?_ | with_reducible refine i_lst ?_ | with_reducible refine i_par ?_ | with_reducible refine i_gcons ?_ | with_reducible refine i_gnil ?_
  | with_reducible refine And.intro (rfl : V.non = V.non) ?_ | with_reducible refine i_ixT (by assumption) rfl ?_ | with_reducible refine i_ixL (by assumption) rfl ?_ | with_reducible refine i_gtup (by assumption) rfl ?_
  | with_reducible refine i_gsub ?_
  | with_reducible refine Or.inl (Exists.intro _ (And.intro (rfl : [V.int _] = [V.int _]) ?_)) | with_reducible refine Exists.intro _ (And.intro (rfl : [V.int _] = [V.int _]) ?_)
  | with_reducible refine Or.inr (Exists.intro _ (And.intro (rfl : [V.bl _] = [V.bl _]) ?_))
  | with_reducible refine Exists.intro _ (Exists.intro _ (And.intro (rfl : [V.int _, V.int _] = [V.int _, V.int _]) ?_))
  | with_reducible refine Exists.intro _ (Exists.intro _ (And.intro (rfl : [V.ref _] = [V.ref _]) (And.intro (Or.inl (SqL.of (by assumption))) ?_)))
  | with_reducible refine i_rI (show (0 : Int) < _ by assumption) ?_ | with_reducible refine i_rI (show (0 : Int) < _ by decide) ?_
  | with_reducible refine i_rI (pow_ok (Nat.le_of_ble_eq_true rfl) (Nat.le_of_ble_eq_true rfl)) ?_
  | with_reducible refine i_rI (cmulL rfl) ?_))
section
variable {P : Program} {w : World} {K : PySem.W.Frag} {mg : Str → Option Value} {base : Heap} {C fI p g : Addr} {mc : Value}
abbrev kwN : List Str := ["key", "fixed", "unique", "reuse"]
theorem bind_tinit {kV doc pm : Value} {an : Option Addr} {cdv ct : Value} : ∀ us rest ws : List Value, us.length = (["self"] : List Str).length → ws.length = kwN.length →
    bindArgs (PySem.W.fnOf "__init__" "Table.__init__" (defArgs s_Table__init) (defBody s_Table__init) (defScope s_Table__init) .none kV doc pm an cdv ct) ⟨us ++ rest, kwN.zip ws⟩ = (newTuple rest >>= fun t => pure (((["self"] : List Str) ++ kwN).zip (us ++ ws) ++ [(("columns" : Str), t)]))
  | [u], [], [a, b, c, d], _, _ => rfl
  | [u], r :: rs, [a, b, c, d], _, _ => rfl
abbrev mK (K : PySem.W.Frag) (C : Addr) : List V → List V → Hp → VK → XK → Prop := fun vs zs H Q E => ∃ ws rest, vs = ws ++ rest ∧ ws.length = (["self"] : List Str).length ∧ rest.length ≤ sizeLine ∧ ∀ p o, H p = none → o.cls = .type "tuple" → o.dict = none → sp_tinit K C (ws ++ zs ++ [V.ref p]) (upd H p (.frz o (.tup rest))) Q E
theorem ok_tinit {fd : FuncData} {fA fC fO : Addr} {fdA fdC fdO : FuncData} (F : Fun K "__init__" "Table.__init__" s_Table__init fI fd) (T : ClsT K mg C fI mc p g)
    (F_are_names : Fun K "are_names" "are_names" s_are_names fA fdA) (B_are_names : Binds K fdA ["things"] []) (g_are_names : mg "are_names" = some (.ref fA)) (G_are_names : FnOk P w K mg base CX0 2 fA fdA ["things"] (sp_are_names K))
    (F_are_chosen : Fun K "are_chosen" "are_chosen" s_are_chosen fC fdC) (B_are_chosen : Binds K fdC ["names", "columns"] []) (g_are_chosen : mg "are_chosen" = some (.ref fC)) (G_are_chosen : FnOk P w K mg base CX0 1 fC fdC ["names", "columns"] (sp_are_chosen K))
    (F_in_order_of : Fun K "in_order_of" "in_order_of" s_in_order_of fO fdO) (B_in_order_of : Binds K fdO ["columns", "names"] []) (g_in_order_of : mg "in_order_of" = some (.ref fO)) (G_in_order_of : FnOk P w K mg base CX0 1 fO fdO ["columns", "names"] (sp_in_order_of K))
    (z_len : mg "len" = none) : FnK P w K mg base CX0 3 fI kwN (mK K C) := by
  obtain ⟨oc, od, kV, doc, pm, an, cdv, ct, osl, rfl, lk, hcd⟩ := F.ex
  refine fn_starK (ps := ["self"]) (ks := kwN) (pv := "columns") lk hcd sc_Table__init StX.cxUp_none bind_tinit fun A outer s H vs Q E hr h => ?_
  obtain ⟨t, ht, q⟩ := run_tinit T F_are_names B_are_names g_are_names G_are_names F_are_chosen B_are_chosen g_are_chosen G_are_chosen F_in_order_of B_in_order_of g_in_order_of G_in_order_of z_len hr h
  exact ⟨t, ht.nox, q⟩
abbrev s_Table_of : Stmt := inClass (top 10) 2
theorem sc_Table_of : FnScope ["cls", "columns", "key", "fixed", "unique", "reuse", "names"] ["cls", "columns", "key", "fixed", "unique", "reuse"] (defScope s_Table_of) := ⟨rfl, rfl, rfl, by decide +kernel, rfl, by decide +kernel, by decide +kernel⟩
def sp_tof (K : PySem.W.Frag) (C : Addr) : Sp := fun vs H Q _ => ∃ l tk tf tu, ∃ cs ks : List Str, vs = [.ref C, .ref l, .ref tk, .ref tf, .ref tu, .bl true] ∧ H l = some (.lst (cs.map V.str)) ∧ TuS K H tk (ks.map V.str) ∧ TuS K H tf [] ∧ TuS K H tu [] ∧ MayBe cs ks ∧ ∀ x H', Same H H' → Tab C H' x cs ks → Q (.ref x) H'
theorem ok_tof {f fS : Addr} {fd fdS : FuncData} (F : Fun K "of" "Table.of" s_Table_of f fd) (T : ClsT K mg C fI mc p g) (FI : FnK P w K mg base CX0 3 fI kwN (mK K C))
    (F_sequence_of : Fun K "sequence_of" "sequence_of" s_sequence_of fS fdS) (B_sequence_of : Binds K fdS ["things"] []) (g_sequence_of : mg "sequence_of" = some (.ref fS)) (G_sequence_of : FnOk P w K mg base CX0 1 fS fdS ["things"] sp_sequence_of) :
    FnOk P w K mg base CX0 5 f fd ["cls", "columns", "key", "fixed", "unique", "reuse"] (sp_tof K C) := by
  have M := T.M
  have g_C := T.g_C
  refine F.ok sc_Table_of (fun vs H Q E h => ?_) (fun cdv A outer s H vs Q E hr h => ?_)
  · obtain ⟨l, tk, tf, tu, cs, ks, rfl, _⟩ := h
    rfl
  · obtain ⟨l, tk, tf, tu, cs, ks, rfl, hl, hk, hf, hu, mb, q⟩ := h
    refine ⟨_, (pss_cons (ps_set (i := 6) sc_Table_of.nd rfl (Or.inl rfl) (pe_call G_sequence_of (hr.mono (by decide)) rfl g_sequence_of F_sequence_of.kp B_sequence_of .nil pass0 (pa_cons (pv 1) pa_nil)))
 (pss_one (ps_ret (pe_makeSK M FI (hr.mono (by decide)) rfl g_C pass0 (pv 6) (pk_cons (pv 2) (pk_cons (pv 3) (pk_cons (pv 4) (pk_cons (pv 5) pk_nil)))))))), ?_⟩
    walk_at "rd"
    refine ⟨l, _, rfl, hl, fun t H1 s1 h1 => ?_⟩
    walk_at "rd"
    unfold tMakeSK
    walk_at "rd"
    refine ⟨t, cs.map V.str, rfl, ?_⟩
    walk_at "rd"
    refine ⟨.inl (SqT.of h1), rfl, fun x dx hx hdx hne => ?_⟩
    refine ⟨[.ref x], cs.map V.str, rfl, rfl, size_of (by rw [List.length_map]; have := mb.c4; omega), fun p' o hp' oc od => ?_⟩
    have xp : x ≠ p' := fun z => by rw [← z, upd_same] at hp'; cases hp'
    have s2 : Same H1 (upd (upd (upd H1 dx (.own x)) x (.ins C dx [])) p' (.frz o (.tup (cs.map V.str)))) := fun b u e => by
      have n1 := ne_of_none e hx
      have n2 := ne_of_none e hdx
      have n3 : b ≠ p' := fun z => by
        rw [← z, upd_ne n1, upd_ne n2, e] at hp'
        cases hp'
      rw [upd_ne n3, upd_ne n1, upd_ne n2]
      exact e
    refine ⟨x, dx, tk, tf, tu, p', cs, ks, rfl, by rw [upd_ne xp]; exact upd_same, ⟨o, upd_same, oc, od⟩, (hk.up s1).up s2, (hf.up s1).up s2, (hu.up s1).up s2, mb, fun H' off tb => ⟨rfl, q x H' (fun b u e => ?_) tb⟩⟩
    have e1 := s1 _ _ e
    exact off b u (ne_of_none e1 hx) (s2 _ _ e1)
/-- Table.of(columns, key = ..) -/
theorem bn_of {f : Addr} {fd : FuncData} {e1 e2 : Addr} (F : FunD K "of" "Table.of" (defArgs s_Table_of) (defBody s_Table_of) (defScope s_Table_of) [] [("fixed", .ref e1), ("unique", .ref e2), ("reuse", .bl true)] f fd) :
    ∃ mv, KBn K fd ["cls", "columns", "key", "fixed", "unique", "reuse"] 2 ["key"] (fun us ws => us ++ ws ++ mv) (fun vs zs => vs ++ zs ++ [V.ref e1, .ref e2, .bl true]) := by
  refine FunD.kbinds0 F 2 ["key"] [("fixed", .ref e1), ("unique", .ref e2), ("reuse", .bl true)] (fun us mv ws => us ++ ws ++ mv) (by simp) (fun q hq => hq) (fun a b c => (a.append c).append b) ?_
  intro D doc pm an cdv ct us mv ws l1 l2 l3
  match us, l1 with
  | [u1, u2], _ =>
    match mv, l2 with
    | [m1, m2, m3], _ =>
      match ws, l3 with
      | [w1], _ => exact ⟨_, _, _, _, _, _, rfl, rfl, _, _, _, _, _, _, rfl, rfl, _, _, _, _, _, _, rfl, rfl, rfl⟩
end
end Spk

set_option Elab.async false
set_option linter.all false
set_option maxRecDepth 100000
set_option maxHeartbeats 1000000
namespace Spk
open PySem L2
local macro_rules | `(tactic| walk_at "rd") => `(tactic| repeat (first
  | with_reducible refine i_seq ?_ | with_reducible refine i_asg ?_ | with_reducible refine i_ret ?_ | with_reducible refine i_ifS ?_ | with_reducible refine i_if ?_
  | with_reducible refine i_for ?_ | with_reducible refine i_iL ?_ | with_reducible refine i_iT ?_ | with_reducible refine i_ckw ?_ | with_reducible refine i_cm ?_ | with_reducible refine And.intro (rfl : V.ref _ = V.ref _) ?_ | with_reducible refine i_rng1 ?_ | with_reducible refine i_bm ?_ | with_reducible refine i_bm0 ?_
  | with_reducible refine i_drop ?_ | with_reducible refine i_next ?_
  | with_reducible refine i_var rfl ?_ | with_reducible refine i_c ?_ | with_reducible refine i_op ?_ | with_reducible refine i_un ?_ | with_reducible refine i_name ?_
  | with_reducible refine i_rI0 ?_ | with_reducible refine i_rU ?_ | with_reducible refine i_rEq rfl ?_ | with_reducible refine i_rNe rfl ?_
  | with_reducible refine i_test ?_ | with_reducible refine i_tB ?_ | with_reducible refine i_and ?_ | with_reducible refine i_or ?_ | with_reducible refine i_not ?_
  | with_reducible refine i_andV ?_ | with_reducible refine i_orV ?_ | with_reducible refine i_notV ?_
  | with_reducible refine i_cons ?_ | with_reducible refine i_nil ?_ | with_reducible refine i_cb ?_ | with_reducible refine i_call ?_ | with_reducible refine i_bl ?_
  | with_reducible refine i_tup ?_ | with_reducible refine i_lst ?_ | with_reducible refine i_par ?_ | with_reducible refine i_gcons ?_ | with_reducible refine i_gnil ?_
  | with_reducible refine And.intro (rfl : V.non = V.non) ?_ | with_reducible refine i_ixT (by assumption) rfl ?_ | with_reducible refine i_ixL (by assumption) rfl ?_ | with_reducible refine i_gtup (by assumption) rfl ?_
  | with_reducible refine i_gsub ?_
  | with_reducible refine Or.inl (Exists.intro _ (And.intro (rfl : [V.int _] = [V.int _]) ?_)) | with_reducible refine Exists.intro _ (And.intro (rfl : [V.int _] = [V.int _]) ?_)
  | with_reducible refine Or.inr (Exists.intro _ (And.intro (rfl : [V.bl _] = [V.bl _]) ?_))
  | with_reducible refine Exists.intro _ (Exists.intro _ (And.intro (rfl : [V.int _, V.int _] = [V.int _, V.int _]) ?_))
  | with_reducible refine Exists.intro _ (Exists.intro _ (And.intro (rfl : [V.ref _] = [V.ref _]) (And.intro (Or.inl (SqL.of (by assumption))) ?_)))
  | with_reducible refine i_rI (show (0 : Int) < _ by assumption) ?_ | with_reducible refine i_rI (show (0 : Int) < _ by decide) ?_
  | with_reducible refine i_rI (pow_ok (Nat.le_of_ble_eq_true rfl) (Nat.le_of_ble_eq_true rfl)) ?_
  | with_reducible refine i_rI (cmulL rfl) ?_))
/-! ### rows -/
theorem SaysV.up {K : PySem.W.Frag} {H H' : Hp} {y : V} {k : Bool} (e : Same H H') (h : SaysV K H y k) : SaysV K H' y k := by
  rcases h with ⟨n, h, h2⟩ | ⟨⟨t, ty, o⟩, h⟩
  · exact .inl ⟨n, h, h2⟩
  · exact .inr ⟨⟨t, ty_up e ty, o⟩, h⟩
/-- what is said of each value -/
def cellsL (ks : List Str) : List Str → List V → List Bool → List Bool
  | c :: cs, v :: vs, j :: js => (j || (decide (v = .non) && !decide (c ∈ ks))) :: cellsL ks cs vs js
  | _, _, _ => []
theorem cells_at {ks : List Str} : ∀ {cs : List Str} {vs : List V} {js : List Bool} {i : Nat} {c : Str} {v : V} {j : Bool}, cs[i]? = some c → vs[i]? = some v → js[i]? = some j → (cellsL ks cs vs js)[i]? = some (j || (decide (v = .non) && !decide (c ∈ ks)))
  | c :: cs, v :: vs, j :: js, 0, _, _, _, h1, h2, h3 => by
    cases h1
    cases h2
    cases h3
    rfl
  | c :: cs, v :: vs, j :: js, i + 1, _, _, _, h1, h2, h3 => by
    have := cells_at (ks := ks) (cs := cs) (vs := vs) (js := js) (i := i) h1 h2 h3
    exact this
  | [], _, _, i, _, _, _, h1, _, _ => by simp at h1
  | _ :: _, [], _, i, _, _, _, _, h2, _ => by simp at h2
  | _ :: _, _ :: _, [], i, _, _, _, _, _, h3 => by simp at h3
theorem cells_len {ks : List Str} : ∀ {cs : List Str} {vs : List V} {js : List Bool}, vs.length = cs.length → js.length = cs.length → (cellsL ks cs vs js).length = cs.length
  | [], _, _, _, _ => by simp [cellsL]
  | c :: cs, [], _, h, _ => by simp at h
  | c :: cs, v :: vs, [], _, h => by simp at h
  | c :: cs, v :: vs, j :: js, h1, h2 => by
    simp only [cellsL, List.length_cons]
    rw [cells_len (by simpa using h1) (by simpa using h2)]
theorem mem_among {cs ks : List Str} {c : Str} (h : c ∈ cs) : decide (c ∈ among cs ks) = decide (c ∈ ks) := by
  rw [decide_eq_decide, List.mem_filter, decide_eq_true_eq]
  exact ⟨fun z => z.2, fun z => ⟨h, z⟩⟩
/-- what is_row says of it -/
def Judged (K : PySem.W.Frag) (H : Hp) (y : V) (cs ks : List Str) (k : Bool) : Prop :=
  (∃ t, TyX K H y t ∧ PySem.W.kitOne K t (.type "tuple") = some false ∧ k = false) ∨
  (∃ a vs, y = .ref a ∧ H a = some (.tup vs) ∧ vs.length ≠ cs.length ∧ k = false) ∨
  (∃ a vs js, y = .ref a ∧ H a = some (.tup vs) ∧ vs.length = cs.length ∧ Paired (SaysV K H) vs js ∧ k = (cellsL ks cs vs js).all id)
theorem pair_at {α β : Type} {R : α → β → Prop} : ∀ {xs : List α} {ys : List β}, Paired R xs ys → ∀ {i : Nat} {x : α}, xs[i]? = some x → ∃ y, ys[i]? = some y ∧ R x y
  | _, _, .nil, i, x, h => by simp at h
  | _, _, .cons r t, 0, x, h => by
    cases h
    exact ⟨_, rfl, r⟩
  | _, _, .cons r t, i + 1, x, h => pair_at t (i := i) h
/-- the place of a name -/
theorem place_of : ∀ {cs : List Str} {w : Str}, w ∈ cs → ∃ j, cs.idxOf w = j ∧ cs[j]? = some w ∧ ∀ m, m < j → cs[m]? ≠ some w
  | [], w, h => absurd h List.not_mem_nil
  | c :: cs, w, h => by
    by_cases e : c = w
    · subst e
      exact ⟨0, by simp, rfl, fun m hm => absurd hm (Nat.not_lt_zero _)⟩
    · have hw : w ∈ cs := (List.mem_cons.mp h).elim (fun z => absurd z.symm e) id
      obtain ⟨j, e1, e2, e3⟩ := place_of hw
      refine ⟨j + 1, ?_, e2, fun m hm => ?_⟩
      · rw [List.idxOf_cons, show (c == w) = false from by simpa using e, cond_false, e1]
      · cases m with
        | zero => exact fun z => e (Option.some.inj z)
        | succ m => exact e3 m (by omega)
/-- the values of a row at these columns -/
abbrev picked (cs : List Str) (vs : List V) (ws : List Str) : List V := ws.map fun w => vs.getD (cs.idxOf w) .non
theorem picked_snoc (cs : List Str) (vs : List V) (ws : List Str) (c : Str) : picked cs vs (ws ++ [c]) = picked cs vs ws ++ [vs.getD (cs.idxOf c) .non] := by
  unfold picked
  rw [List.map_append]
  rfl
theorem i_methR {C : Addr} {m : Str} {sp : Sp} {E : XK} {ta : TE} {t : TA} {σ : L2.St} {H : Hp} {Q : VK} (h : ta σ H fun x H1 => ∃ a dx fs, x = .ref a ∧ H1 a = some (.ins C dx fs) ∧ fs.lookup m = none ∧ t σ H1 fun vs H2 => sp (x :: vs) H2 Q E) : tMethR C m sp E ta t σ H Q := h
theorem lk_meth {tc tk tf tu : Addr} {m : Str} (h : m = "cut" ∨ m = "is_row" ∨ m = "key_of") : (flds tc tk tf tu).lookup m = none := by
  rcases h with rfl | rfl | rfl
  · simp only [List.lookup, show (("cut" : Str) == "columns") = false from rfl, show (("cut" : Str) == "key") = false from rfl, show (("cut" : Str) == "fixed") = false from rfl, show (("cut" : Str) == "unique") = false from rfl, show (("cut" : Str) == "reuse") = false from rfl]
  · simp only [List.lookup, show (("is_row" : Str) == "columns") = false from rfl, show (("is_row" : Str) == "key") = false from rfl, show (("is_row" : Str) == "fixed") = false from rfl, show (("is_row" : Str) == "unique") = false from rfl, show (("is_row" : Str) == "reuse") = false from rfl]
  · simp only [List.lookup, show (("key_of" : Str) == "columns") = false from rfl, show (("key_of" : Str) == "key") = false from rfl, show (("key_of" : Str) == "fixed") = false from rfl, show (("key_of" : Str) == "unique") = false from rfl, show (("key_of" : Str) == "reuse") = false from rfl]
section
variable {P : Program} {w : World} {K : PySem.W.Frag} {mg : Str → Option Value} {base : Heap} {C fI p g : Addr} {mc : Value}
abbrev s_Table_is_row : Stmt := inClass (top 10) 3
theorem sc_Table_is_row : FnScope ["self", "thing", "column", "value"] ["self", "thing"] (defScope s_Table_is_row) := ⟨rfl, rfl, rfl, by decide +kernel, rfl, by decide +kernel, by decide +kernel⟩
def sp_is_row (K : PySem.W.Frag) (C : Addr) : Sp := fun vs H Q _ => ∃ x y k, ∃ cs ks : List Str, vs = [.ref x, y] ∧ Tab C H x cs ks ∧ cs.length ≤ 100 ∧ Judged K H y cs ks k ∧ ∀ H', Same H H' → Q (.bl k) H'
theorem ok_is_row {f fV : Addr} {fd fdV : FuncData} (F : Fun K "is_row" "Table.is_row" s_Table_is_row f fd) (T : ClsT K mg C fI mc p g)
    (F_is_value : Fun K "is_value" "is_value" s_is_value fV fdV) (B_is_value : Binds K fdV ["thing"] []) (g_is_value : mg "is_value" = some (.ref fV)) (G_is_value : FnOk P w K mg base CX0 2 fV fdV ["thing"] (sp_is_value K))
    (z_isinstance : mg "isinstance" = none) (z_tuple : mg "tuple" = none) (z_len : mg "len" = none) (z_all : mg "all" = none) (z_zip : mg "zip" = none) : FnOk P w K mg base CX0 3 f fd ["self", "thing"] (sp_is_row K C) := by
  refine F.ok sc_Table_is_row (fun vs H Q E h => ?_) (fun cdv A outer s H vs Q E hr h => ?_)
  · obtain ⟨x, y, k, cs, ks, rfl, _⟩ := h
    rfl
  · obtain ⟨x, y, k, cs, ks, rfl, tb, hz, ju, q⟩ := h
    refine ⟨_, (pss_cons (ps_if (pt_not (PW.pt (pw_and (pt_val (pe_callB call_isi (by rfl) z_isinstance (by decide +kernel) (pa_cons (pv 1) (pa_cons (pe_bltn (v := .ty "tuple") (u := .type "tuple") (by rfl) z_tuple (by decide +kernel) rfl) pa_nil)))) (pw_and1 (pt_cmpR op_eq (pe_callB call_len_seq (by rfl) z_len PySem.boot_len (pa_cons (pv 1) pa_nil)) (pe_callB call_len_seq (by rfl) z_len PySem.boot_len (pa_cons (pe_fld (pv 0) rfl) pa_nil)) (nomark _))))))
 (pss_one (ps_ret pe_bl))
 pss_nil)
 (pss_one (ps_ret (pe_callB (cr_all rfl) (by rfl) z_all (by decide +kernel) (pa_cons (pe_lc (own := [("column", 2), ("value", 3)]) (g := gTup K 2 (gCons (gName 2) (gCons (gName 3) gNil))) (tt := tYes) rfl sc_Table_is_row.nd (RZ.pi_zipA (by rfl) z_zip (pa_cons (pe_fld (pv 0) rfl) (pa_cons (pv 1) pa_nil))) (blkOk_by (own := [("column", 2), ("value", 3)]) (N := ["self", "thing", "column", "value"]) (sc := defScope s_Table_is_row) (by decide +kernel)) (fun _ _ _ _ _ => pg_tup (by rfl) (pgs_cons (pg_name (i := 2) sc_Table_is_row.nd rfl (Or.inl rfl)) (pgs_cons (pg_name (i := 3) sc_Table_is_row.nd rfl (Or.inl rfl)) pgs_nil))) (fun _ _ _ _ _ => pts_nil) (fun _ _ _ _ _ => (pe_or (pe_call G_is_value (hr.mono (by decide)) rfl g_is_value F_is_value.kp B_is_value .nil pass0 (pa_cons (pv 3) pa_nil)) (pe_one (pe_and (pe_cmpR op_isN (pv 3) pe_non (nomark _)) (pe_one (pe_cmpR (op_notInK (K := K) rfl) (pv 2) (pe_fldK (K := K) rfl (pv 0) rfl) (by rfl)))))))) pa_nil))))), ?_⟩
    walk_at "rd"
    obtain ⟨dx, tc, tk, tf, tu, hx, hc, hk⟩ := tb
    rcases ju with ⟨t, ty, kt, rfl⟩ | ⟨a, us, rfl, ha, hl, rfl⟩ | ⟨a, us, js, rfl, ha, hl, sj, rfl⟩
    · exact ⟨_, _, _, _, false, rfl, .ty "tuple", ty, kt, false, rfl, iteF (iteT (q H (Same.refl H)))⟩
    · refine ⟨_, _, _, _, true, rfl, .ty "tuple", .base (.tup ha), kit_ty (by decide +kernel), true, rfl, iteT ?_⟩
      walk_at "rd"
      refine ⟨a, us, rfl, .inr (SqT.of ha), ?_⟩
      walk_at "rd"
      refine ⟨_, rfl, x, C, dx, _, _, rfl, hx, T.cl, T.nC, lk_columns, ?_⟩
      walk_at "rd"
      refine ⟨tc, _, rfl, .inr hc.seq, ?_⟩
      refine i_rEq rfl ?_
      rw [List.length_map, decide_eq_false (fun z => hl (by have := V.int.inj z; omega))]
      exact ⟨_, rfl, iteT (q H (Same.refl H))⟩
    · have jl : us.length = js.length := Paired.length sj
      refine ⟨_, _, _, _, true, rfl, .ty "tuple", .base (.tup ha), kit_ty (by decide +kernel), true, rfl, iteT ?_⟩
      walk_at "rd"
      refine ⟨a, us, rfl, .inr (SqT.of ha), ?_⟩
      walk_at "rd"
      refine ⟨_, rfl, x, C, dx, _, _, rfl, hx, T.cl, T.nC, lk_columns, ?_⟩
      walk_at "rd"
      refine ⟨tc, _, rfl, .inr hc.seq, ?_⟩
      refine i_rEq rfl ?_
      rw [List.length_map, decide_eq_true (by rw [hl])]
      refine ⟨_, rfl, iteF ?_⟩
      walk_at "rd"
      unfold tLc
      refine i_zipA ?_
      walk_at "rd"
      refine ⟨_, rfl, x, C, dx, _, _, rfl, hx, T.cl, T.nC, lk_columns, ?_⟩
      walk_at "rd"
      refine ⟨tc, a, _, us, rfl, .inr ⟨hc.seq, SqT.of ha, fun D hD => ?_⟩⟩
      obtain ⟨H1, e1, s1, h1⟩ := new_heap (o := .lst []) hD
      refine lc_it (walk_zipT (K := K) (a := tc) (b := a) (xs := cs.map V.str) (ys := us) (n := cs.length) (List.length_map ..) hl) (fun i H' => Same H H' ∧ H' D = some (.lst (((cellsL ks cs us js).take i).map V.bl))) ⟨by rw [e1]; exact s1, by rw [e1]; exact h1⟩ ?_ ?_ ?_
      · rintro i H' _ ⟨s2, _⟩
        exact ⟨SqT.ext hc.seq s2, SqT.of (s2 _ _ ha)⟩
      · rintro i y H2 _ hi ⟨s2, h2⟩ ⟨t2, c', v, rfl, ht2, rfl, ec, ev⟩
        obtain ⟨c, ec2, rfl⟩ := str_at ec
        obtain ⟨j, ej, sv⟩ := pair_at sj ev
        have cl := cells_at (ks := ks) ec2 ev ej
        obtain ⟨H3, e3, s3, h3⟩ := new_heap (o := .tup [.str c, v]) ht2
        rw [e3]
        have s03 : Same H H3 := fun b o z => s3 _ _ (s2 _ _ z)
        refine i_gtup h3 rfl (i_gcons ?_)
        walk_at "rd"
        refine ⟨rfl, i_yes (iteT ?_)⟩
        walk_at "rd"
        have il : ((cellsL ks cs us js).take i).length ≤ 100 := by
          rw [List.length_take]
          omega
        have fin : ∀ b, b = (j || (decide (v = .non) && !decide (c ∈ ks))) → ∃ acc, H3 D = some (HO.lst acc) ∧ acc.length < sizeLine ∧ (Same H (upd H3 D (HO.lst (acc ++ [V.bl b]))) ∧ (upd H3 D (HO.lst (acc ++ [V.bl b]))) D = some (.lst (((cellsL ks cs us js).take (i + 1)).map V.bl))) := by
          intro b eb
          refine ⟨_, s3 _ _ h2, size_lt (by rw [List.length_map]; omega), Same.mut s03 hD, ?_⟩
          rw [upd_same, take_snoc cl, List.map_append, eb]
          rfl
        refine ⟨v, j, rfl, sv.up s03, j, rfl, ?_⟩
        cases j with
        | true => exact iteT (fin true rfl)
        | false =>
          refine iteF ?_
          walk_at "rd"
          refine ite_d (fun hv => ?_) (fun hv => ?_)
          · walk_at "rd"
            refine ⟨_, rfl, x, C, dx, _, _, rfl, s03 _ _ hx, T.cl, T.nK, lk_key, ?_⟩
            refine notIn_at (.inr (SqT.of (s03 _ _ hk))) ?_
            rw [mem_among (List.mem_of_getElem? ec2)]
            refine fin _ ?_
            rw [decide_eq_true hv]
            rfl
          · refine fin false ?_
            rw [decide_eq_false hv]
            rfl
      · rintro H2 ⟨s2, h2⟩
        rw [← cells_len (ks := ks) hl (jl.symm.trans hl), List.take_length] at h2
        walk_at "rd"
        exact ⟨D, cellsL ks cs us js, rfl, SqL.of h2, q H2 s2⟩
abbrev s_Table_cut : Stmt := inClass (top 10) 5
theorem sc_Table_cut : FnScope ["self", "row", "columns", "column"] ["self", "row", "columns"] (defScope s_Table_cut) := ⟨rfl, rfl, rfl, by decide +kernel, rfl, by decide +kernel, by decide +kernel⟩
def sp_cut (K : PySem.W.Frag) (C : Addr) : Sp := fun vs H Q _ => ∃ x r t, ∃ cs ks : List Str, ∃ us : List V, ∃ ws : List Str, vs = [.ref x, .ref r, .ref t] ∧ Tab C H x cs ks ∧ H r = some (.tup us) ∧ us.length = cs.length ∧ SqT K H t (ws.map V.str) ∧ ws.length ≤ 100 ∧ (∀ c, c ∈ ws → c ∈ cs) ∧
  ∀ p H', Same H H' → H' p = some (.tup (picked cs us ws)) → Q (.ref p) H'
theorem ok_cut {f : Addr} {fd : FuncData} (F : Fun K "cut" "Table.cut" s_Table_cut f fd) (T : ClsT K mg C fI mc p g) (z_tuple : mg "tuple" = none) : FnOk P w K mg base CX0 1 f fd ["self", "row", "columns"] (sp_cut K C) := by
  refine F.ok sc_Table_cut (fun vs H Q E h => ?_) (fun cdv A outer s H vs Q E hr h => ?_)
  · obtain ⟨x, r, t, cs, ks, us, ws, rfl, _⟩ := h
    rfl
  · obtain ⟨x, r, t, cs, ks, us, ws, rfl, tb, hr', hl, ht, hz, sub, q⟩ := h
    refine ⟨_, (pss_one (ps_ret (pe_callTy call_tuple_of (by rfl) z_tuple (by decide +kernel) (pa_cons (pe_lc (own := [("column", 3)]) (g := gName 3) (tt := tYes) rfl sc_Table_cut.nd (pi_tup (pv 2)) (blkOk_by (own := [("column", 3)]) (N := ["self", "row", "columns", "column"]) (sc := defScope s_Table_cut) (by decide +kernel)) (fun _ _ _ _ _ => pg_name (i := 3) sc_Table_cut.nd rfl (Or.inl rfl)) (fun _ _ _ _ _ => pts_nil) (fun _ _ _ _ _ => (pe_ix (ix_tupK (K := K) rfl) (pv 1) (pe_bmF PySem.F.plainAttrs_tuple PySem.F.slot_tuple_index PySem.F.type_tuple_index (mt_tup_indexK (K := K) rfl) (pe_fldK (K := K) rfl (pv 0) rfl) (pa_cons (pv 3) pa_nil)) (fun _ _ => rfl)))) pa_nil)))), ?_⟩
    walk_at "rd"
    obtain ⟨dx, tc, tk, tf, tu, hx, hc, hk⟩ := tb
    unfold tLc
    walk_at "rd"
    refine ⟨t, rfl, ⟨_, ht⟩, fun D hD => ?_⟩
    obtain ⟨H1, e1, s1, h1⟩ := new_heap (o := .lst []) hD
    refine lc_tup (K := K) (a := t) (xs := ws.map V.str) (fun i H' => Same H H' ∧ H' D = some (.lst (picked cs us (ws.take i)))) ⟨by rw [e1]; exact s1, by rw [e1]; exact h1⟩ ?_ ?_ ?_
    · rintro i H' _ ⟨s2, _⟩
      exact SqT.ext ht s2
    · rintro i y H2 hy ⟨s2, h2⟩
      obtain ⟨c, ec, rfl⟩ := str_at hy
      have hi : i < ws.length := (List.getElem?_eq_some_iff.mp ec).1
      obtain ⟨j, ej, e2, e3⟩ := place_of (sub c (List.mem_of_getElem? ec))
      have hj : j < us.length := by
        rw [hl]
        exact (List.getElem?_eq_some_iff.mp e2).1
      walk_at "rd"
      refine ⟨rfl, i_yes (iteT ?_)⟩
      walk_at "rd"
      refine i_bmf ?_
      walk_at "rd"
      refine ⟨_, rfl, x, C, dx, _, _, rfl, s2 _ _ hx, T.cl, T.nC, lk_columns, ⟨tc, _, rfl, hc.up s2⟩, ?_⟩
      walk_at "rd"
      refine ⟨tc, cs, c, j, rfl, rfl, (hc.up s2).seq, e2, e3, ?_⟩
      refine i_ixT (s2 _ _ hr') (atI_nat (List.getElem?_eq_getElem hj)) ?_
      refine ⟨_, h2, size_lt (by rw [List.length_map, List.length_take]; omega), Same.mut s2 hD, ?_⟩
      rw [upd_same, take_snoc ec, picked_snoc, ej, List.getD_eq_getElem?_getD, List.getElem?_eq_getElem hj]
      all_goals rfl
    · rintro H2 ⟨s2, h2⟩
      rw [List.length_map, List.take_length] at h2
      walk_at "rd"
      refine ⟨D, _, rfl, .inl ⟨SqL.of h2, fun p hp => ?_⟩⟩
      obtain ⟨H3, e3, s3, h3⟩ := new_heap (o := .tup (picked cs us ws)) hp
      rw [e3]
      exact q p H3 (fun b o z => s3 _ _ (s2 _ _ z)) h3
/-- the methods of the class -/
structure ClsN (K : PySem.W.Frag) (C hI hK hC : Addr) : Prop where
  is_row : Meth K C "is_row" hI
  key_of : Meth K C "key_of" hK
  cut : Meth K C "cut" hC
/-- as methods are called -/
abbrev mR (K : PySem.W.Frag) (C : Addr) : Sp := fun vs H Q E => sp_is_row K C (vs ++ []) H Q E
abbrev mC (K : PySem.W.Frag) (C : Addr) : Sp := fun vs H Q E => sp_cut K C (vs ++ []) H Q E
abbrev s_Table_key_of : Stmt := inClass (top 10) 4
theorem sc_Table_key_of : FnScope ["self", "row"] ["self", "row"] (defScope s_Table_key_of) := ⟨rfl, rfl, rfl, by decide +kernel, rfl, by decide +kernel, by decide +kernel⟩
def sp_key_of (C : Addr) : Sp := fun vs H Q _ => ∃ x r, ∃ cs ks : List Str, ∃ us : List V, vs = [.ref x, .ref r] ∧ Tab C H x cs ks ∧ H r = some (.tup us) ∧ us.length = cs.length ∧ cs.length ≤ 100 ∧ ∀ p H', Same H H' → H' p = some (.tup (picked cs us (among cs ks))) → Q (.ref p) H'
abbrev mY (C : Addr) : Sp := fun vs H Q E => sp_key_of C (vs ++ []) H Q E
theorem ok_key_of {f hI hK hC : Addr} {fd : FuncData} (F : Fun K "key_of" "Table.key_of" s_Table_key_of f fd) (T : ClsT K mg C fI mc p g) (CN : ClsN K C hI hK hC) (R_cut : FnR P w K mg base CX0 1 hC (mC K C)) : FnOk P w K mg base CX0 2 f fd ["self", "row"] (sp_key_of C) := by
  refine F.ok sc_Table_key_of (fun vs H Q E h => ?_) (fun cdv A outer s H vs Q E hr h => ?_)
  · obtain ⟨x, r, cs, ks, us, rfl, _⟩ := h
    rfl
  · obtain ⟨x, r, cs, ks, us, rfl, tb, hr', hl, hz, q⟩ := h
    refine ⟨_, (pss_one (ps_ret (pe_methR (pv 0) T.cl CN.cut R_cut (hr.mono (by decide)) pass0 (pa_cons (pv 1) (pa_cons (pe_fld (pv 0) rfl) pa_nil))))), ?_⟩
    walk_at "rd"
    obtain ⟨dx, tc, tk, tf, tu, hx, hc, hk⟩ := id tb
    refine i_methR ?_
    walk_at "rd"
    refine ⟨x, dx, _, rfl, hx, lk_meth (.inl rfl), ?_⟩
    walk_at "rd"
    refine ⟨_, rfl, x, C, dx, _, _, rfl, hx, T.cl, T.nK, lk_key, ?_⟩
    walk_at "rd"
    refine ⟨x, r, tk, cs, ks, us, among cs ks, rfl, tb, hr', hl, SqT.of hk, Nat.le_trans (List.length_filter_le ..) hz, fun c hc' => (List.mem_filter.mp hc').1, fun p' H' s1 h1 => q p' H' s1 h1⟩
end
end Spk

set_option Elab.async false
set_option linter.all false
set_option maxRecDepth 100000
set_option maxHeartbeats 2000000
namespace Spk
open PySem L2
local macro_rules | `(tactic| walk_at "rd") => `(tactic| repeat (first
  | with_reducible refine i_seq ?_ | with_reducible refine i_asg ?_ | with_reducible refine i_ret ?_ | with_reducible refine i_ifS ?_ | with_reducible refine i_if ?_
  | with_reducible refine i_for ?_ | with_reducible refine i_iL ?_ | with_reducible refine i_iT ?_ | with_reducible refine i_ckw ?_ | with_reducible refine i_cm ?_ | with_reducible refine And.intro (rfl : V.ref _ = V.ref _) ?_ | with_reducible refine i_rng1 ?_ | with_reducible refine i_bm ?_ | with_reducible refine i_bm0 ?_
  | with_reducible refine i_drop ?_ | with_reducible refine i_next ?_
  | with_reducible refine i_var rfl ?_ | with_reducible refine i_c ?_ | with_reducible refine i_op ?_ | with_reducible refine i_un ?_ | with_reducible refine i_name ?_
  | with_reducible refine i_rI0 ?_ | with_reducible refine i_rU ?_ | with_reducible refine i_rEq rfl ?_ | with_reducible refine i_rNe rfl ?_
  | with_reducible refine i_test ?_ | with_reducible refine i_tB ?_ | with_reducible refine i_and ?_ | with_reducible refine i_or ?_ | with_reducible refine i_not ?_
  | with_reducible refine i_andV ?_ | with_reducible refine i_orV ?_ | with_reducible refine i_notV ?_
  | with_reducible refine i_cons ?_ | with_reducible refine i_nil ?_ | with_reducible refine i_cb ?_ | with_reducible refine i_call ?_ | with_reducible refine i_bl ?_
  | with_reducible refine i_tup ?_ | with_reducible refine i_lst ?_ | with_reducible refine i_par ?_ | with_reducible refine i_gcons ?_ | with_reducible refine i_gnil ?_
  | with_reducible refine And.intro (rfl : V.non = V.non) ?_ | with_reducible refine i_ixT (by assumption) rfl ?_ | with_reducible refine i_ixL (by assumption) rfl ?_ | with_reducible refine i_gtup (by assumption) rfl ?_
  | with_reducible refine i_gsub ?_
  | with_reducible refine Or.inl (Exists.intro _ (And.intro (rfl : [V.int _] = [V.int _]) ?_)) | with_reducible refine Exists.intro _ (And.intro (rfl : [V.int _] = [V.int _]) ?_)
  | with_reducible refine Or.inr (Exists.intro _ (And.intro (rfl : [V.bl _] = [V.bl _]) ?_))
  | with_reducible refine Exists.intro _ (Exists.intro _ (And.intro (rfl : [V.int _, V.int _] = [V.int _, V.int _]) ?_))
  | with_reducible refine Exists.intro _ (Exists.intro _ (And.intro (rfl : [V.ref _] = [V.ref _]) (And.intro (Or.inl (SqL.of (by assumption))) ?_)))
  | with_reducible refine i_rI (show (0 : Int) < _ by assumption) ?_ | with_reducible refine i_rI (show (0 : Int) < _ by decide) ?_
  | with_reducible refine i_rI (pow_ok (Nat.le_of_ble_eq_true rfl) (Nat.le_of_ble_eq_true rfl)) ?_
  | with_reducible refine i_rI (cmulL rfl) ?_))
/-! ### what the law draws -/
def TxsOk (cs : List Str) : Prop := ∀ c, c ∈ cs → PyData.strOk c = true
theorem dps_strs {K : PySem.W.Frag} {H : Hp} : ∀ cs : List Str, DpAll K H (cs.map V.str) (cs.map PyData.str)
  | [] => .nil
  | c :: cs => .cons (.str c) (dps_strs cs)
theorem lay_strs : ∀ {cs : List Str}, TxsOk cs → PyData.canLayAll0 (cs.map PyData.str) = true
  | [], _ => by simp [PyData.canLayAll0]
  | c :: cs, h => by
    have a := h c List.mem_cons_self
    have b := lay_strs (cs := cs) fun d hd => h d (List.mem_cons_of_mem _ hd)
    simp [PyData.canLayAll0, PyData.canLay0, a, b]
theorem dep_strs : ∀ cs : List Str, PyData.depthAll (cs.map PyData.str) = 0
  | [] => by simp [PyData.depthAll]
  | c :: cs => by simp [PyData.depthAll, PyData.depth, dep_strs cs]
theorem shaped_strs {cs : List Str} (h : TxsOk cs) : SeqAt.shaped (.list (cs.map PyData.str)) = true := by
  have a := lay_strs h
  have b := dep_strs cs
  have c : (PyData.list (cs.map PyData.str)).depth ≤ 64 := by
    simp only [PyData.depth, b]
    omega
  unfold SeqAt.shaped
  rw [Bool.and_eq_true, decide_eq_true_eq]
  exact ⟨by simpa only [PyData.canLay0] using a, by omega⟩
theorem eqv_nil (cs : List Str) : PyData.eqv (.list (cs.map PyData.str)) (.list (([] : List Str).map PyData.str)) = decide (cs = []) := by
  cases cs <;> simp [PyData.eqv, PyData.eqvAll]
theorem penny_strs (cs : List Str) : penny (.lst (cs.map V.str)) = false := by
  cases cs <;> rfl
theorem Keep.mut {H0 H : Hp} {d : Addr} {o : HO} (e : Keep H0 H) (h : H0 d = none) : Keep H0 (upd H d o) := fun b u pn hb => by
  rw [upd_ne (ne_of_none hb h)]
  exact e b u pn hb
theorem pen_off {H : Hp} {p L d : Addr} {n : Nat} {o : HO} (h : Pen H p L n) (n1 : p ≠ d) (n2 : L ≠ d) : Pen (upd H d o) p L n := by
  obtain ⟨ns, a, l, h1, h2, r⟩ := h
  exact ⟨ns, a, l, by rw [upd_ne n1]; exact h1, by rw [upd_ne n2]; exact h2, r⟩
theorem pen_ne {H : Hp} {p L d : Addr} {n : Nat} (h : Pen H p L n) (hd : H d = none) : p ≠ d ∧ L ≠ d := by
  obtain ⟨ns, a, l, h1, h2, r⟩ := h
  exact ⟨ne_of_none h1 hd, ne_of_none h2 hd⟩
theorem seq_ix {n : Nat} {d : Int} (h0 : 0 ≤ d) (h1 : d < n) : seqIndex? d n = some d.toNat := by
  refine (ixN_seq (j := d.toNat) ?_).1
  unfold ixN
  rw [if_pos h0, if_pos h1]
theorem map_erase {α β : Type} (f : α → β) (xs : List α) (k : Nat) : (xs.map f).eraseIdx k = (xs.eraseIdx k).map f := by
  induction xs generalizing k with
  | nil => rfl
  | cons x xs ih =>
    cases k with
    | zero => rfl
    | succ k => simp [ih]
theorem perm_erase {α : Type} : ∀ {xs : List α} {k : Nat} (h : k < xs.length), (xs[k] :: xs.eraseIdx k).Perm xs
  | x :: xs, 0, _ => List.Perm.refl _
  | x :: xs, k + 1, h => ((List.Perm.swap x _ _).trans (List.Perm.cons x (perm_erase (xs := xs) (k := k) (by simpa using h))))
section
variable {P : Program} {w : World} {K : PySem.W.Frag} {mg : Str → Option Value} {base : Heap}
abbrev s_some : Stmt := top 16
theorem sc_some : FnScope ["_law_pen_here", "_law_names", "_law_most", "_law_left", "_law_found", "_law_turn"] ["_law_pen_here", "_law_names", "_law_most"] (defScope s_some) := ⟨rfl, rfl, rfl, by decide +kernel, rfl, by decide +kernel, by decide +kernel⟩
def sp_some : Sp := fun vs H Q _ => ∃ p L n l, ∃ cs : List Str, ∃ m : Int, vs = [.ref p, .ref l, .int m] ∧ Pen H p L n ∧ n ≤ 9900 ∧ H l = some (.lst (cs.map V.str)) ∧ cs.length ≤ 8 ∧ cs.Nodup ∧ TxsOk cs ∧ 0 < m ∧ m ≤ 8 ∧
  ∀ t H' ks, Keep H H' → Pen H' p L (n + 1 + m.toNat) → H' t = some (.tup (ks.map V.str)) → ks.Nodup → (∀ c, c ∈ ks → c ∈ cs) → ks.length ≤ m.toNat → (cs ≠ [] → ks ≠ []) → Q (.ref t) H'
structure SoInv (H0 : Hp) (p L l a b : Addr) (n : Nat) (m : Int) (cs : List Str) (i : Nat) (σ : L2.St) (H : Hp) : Prop where
  ex : ∃ (ls ks : List Str) (x : Option V), σ = [some (.ref p), some (.ref l), some (.int m), some (.ref a), some (.ref b), x] ∧ Keep H0 H ∧ Pen H p L (n + 1 + i) ∧ H a = some (.lst (ls.map V.str)) ∧ H b = some (.lst (ks.map V.str)) ∧ (ks ++ ls).Nodup ∧
    (∀ c, c ∈ ks ++ ls → c ∈ cs) ∧ ks.length ≤ i ∧ (cs ≠ [] → 0 < i → ks ≠ []) ∧ (ks = [] → ls = cs) ∧ ls.length ≤ 8
theorem ok_some {f fD : Addr} {fd fdD : FuncData} (F : Fun K "_law_some" "_law_some" s_some f fd)
    (F_draw : Fun K "_law_draw" "_law_draw" s_draw fD fdD) (B_draw : Binds K fdD ["_law_pen_here", "_law_many"] []) (g_draw : mg "_law_draw" = some (.ref fD)) (G_draw : FnOk P w K mg base CX0 1 fD fdD ["_law_pen_here", "_law_many"] sp_draw)
    (z_list : mg "list" = none) (z_len : mg "len" = none) (z_range : mg "range" = none) (z_tuple : mg "tuple" = none) : FnOk P w K mg base CX0 2 f fd ["_law_pen_here", "_law_names", "_law_most"] sp_some := by
  refine F.ok sc_some (fun vs H Q E h => ?_) (fun cdv A outer s H vs Q E hr h => ?_)
  · obtain ⟨p, L, n, l, cs, m, rfl, _⟩ := h
    rfl
  · obtain ⟨p, L, n, l, cs, m, rfl, hp, hn, hl, hz, nd, tx, m0, m8, q⟩ := h
    refine ⟨_, (pss_cons (ps_set (i := 3) sc_some.nd rfl (Or.inl rfl) (pe_callTy call_list_of (by rfl) z_list (by decide +kernel) (pa_cons (pv 1) pa_nil)))
 (pss_cons (ps_set (i := 4) sc_some.nd rfl (Or.inl rfl) (pe_lst pa_nil))
 (pss_cons (ps_for PassesOwn.never rfl (pi_range1 (by rfl) z_range (pa_cons (pe_op op_add pe_int (pe_call G_draw (hr.mono (by decide)) rfl g_draw F_draw.kp B_draw .nil pass0 (pa_cons (pv 0) (pa_cons (pv 2) pa_nil)))) pa_nil)) (pg_name (i := 5) sc_some.nd rfl (Or.inl rfl))
 (pss_one (ps_if (pt_cmpR (op_neD hr.units) (pv 3) (pe_lst pa_nil) (nomark _))
 (pss_one (ps_expr (pe_bm PySem.F.plainAttrs_list PySem.F.slot_list_append PySem.F.type_list_append mt_append (pv 4) (pa_cons (pe_bm PySem.F.plainAttrs_list PySem.F.slot_list_pop PySem.F.type_list_pop mt_popAt (pv 3) (pa_cons (pe_call G_draw (hr.mono (by decide)) rfl g_draw F_draw.kp B_draw .nil pass0 (pa_cons (pv 0) (pa_cons (pe_callB call_len_seq (by rfl) z_len PySem.boot_len (pa_cons (pv 3) pa_nil)) pa_nil))) pa_nil)) pa_nil))))
 pss_nil)))
 (pss_one (ps_ret (pe_callTy call_tuple_of (by rfl) z_tuple (by decide +kernel) (pa_cons (pv 4) pa_nil))))))), ?_⟩
    walk_at "rd"
    intro a ha
    obtain ⟨H1, e1, s1, h1⟩ := new_heap (o := .lst (cs.map V.str)) ha
    rw [e1]
    walk_at "rd"
    refine ⟨Nat.zero_le _, fun b hb => ?_⟩
    obtain ⟨H2, e2, s2, h2⟩ := new_heap (o := .lst []) hb
    rw [e2]
    walk_at "rd"
    have hp1 := hp.up s1
    have p2 := hp1.up s2
    have ab : a ≠ b := ne_of_none h1 hb
    obtain ⟨pa, La⟩ := pen_ne hp ha
    obtain ⟨pb, Lb⟩ := pen_ne hp1 hb
    have hb0 : H b = none := by
      cases hh : H b with
      | none => rfl
      | some o => exact absurd (s1 _ _ hh) (by rw [hb]; exact fun z => nomatch z)
    refine ⟨p, L, n, m, rfl, p2, by omega, m0, by omega, fun d H3 d0 d1 k3 p3 => ?_⟩
    walk_at "rd"
    have k03 : Keep H H3 := (Same.keep (fun c o z => s2 _ _ (s1 _ _ z))).trans k3
    refine ⟨by omega, by omega, for_range (lo := 0) (n := (1 + d).toNat) (SoInv H p L l a b n m cs) ⟨cs, [], _, rfl, k03, p3.mono (by omega), k3 _ _ (penny_strs cs) (s2 _ _ h1), k3 _ _ rfl h2, by simpa using nd, fun c hc => by simpa using hc, Nat.le_refl _, fun _ h0 => absurd h0 (Nat.lt_irrefl 0), fun _ => rfl, hz⟩ ?_ ?_⟩
    · rintro i σ H4 hi ⟨ls, ks, x5, rfl, k4, p4, ha4, hb4, nd4, sub4, kz4, ne4, ls4, lz⟩
      have im : (i : Int) < m := by omega
      have lsub : ∀ c, c ∈ ls → c ∈ cs := fun c hc => sub4 c (List.mem_append_right _ hc)
      walk_at "rd"
      refine ⟨Nat.zero_le _, fun y hy => ?_⟩
      obtain ⟨H5, e5, s5, h5⟩ := new_heap (o := .lst []) hy
      rw [e5]
      have ha5 := s5 _ _ ha4
      have hb5 := s5 _ _ hb4
      have p5 := p4.up s5
      have k5 : Keep H H5 := k4.trans (Same.keep s5)
      refine ⟨.list (ls.map PyData.str), .list (([] : List Str).map PyData.str), .lst (SqL.of ha5) (dps_strs ls), .lst (SqL.of h5) .nil, shaped_strs (fun c hc => tx c (lsub c hc)), shaped_strs (fun c hc => absurd hc List.not_mem_nil), ?_⟩
      rw [eqv_nil]
      refine ⟨_, rfl, ite_nd (fun hne => ?_) (fun he => ?_)⟩
      · have lpos : 0 < ls.length := List.length_pos_iff.mpr hne
        walk_at "rd"
        refine i_tyL hb5 ?_
        walk_at "rd"
        refine i_tyL ha5 ?_
        walk_at "rd"
        rw [List.length_map]
        refine ⟨p, L, _, _, rfl, p5, by omega, by omega, by omega, fun g H6 g0 g1 k6 p6 => ?_⟩
        walk_at "rd"
        have ha6 := k6 _ _ (penny_strs _) ha5
        have hb6 := k6 _ _ (penny_strs _) hb5
        have gl : g.toNat < ls.length := by omega
        refine ⟨a, _, g, g.toNat, .str ls[g.toNat], rfl, rfl, ha6, by omega, by omega, seq_ix g0 (by rw [List.length_map]; omega), by rw [List.getElem?_map, List.getElem?_eq_getElem gl]; rfl, ?_⟩
        rw [map_erase]
        have hb7 : upd H6 a (.lst ((ls.eraseIdx g.toNat).map V.str)) b = some (.lst (ks.map V.str)) := by rw [upd_ne ab.symm]; exact hb6
        walk_at "rd"
        refine i_app hb7 (by rw [List.length_map]; omega) ?_
        have pm := perm_erase gl
        have pm2 : ((ks ++ [ls[g.toNat]]) ++ ls.eraseIdx g.toNat).Perm (ks ++ ls) := by
          rw [List.append_assoc]
          exact List.Perm.append_left ks pm
        refine ⟨ls.eraseIdx g.toNat, ks ++ [ls[g.toNat]], _, rfl, (((k5.trans k6).mut ha).mut hb0), (pen_off (pen_off p6 pa La) pb Lb).mono (by omega), ?_, ?_, pm2.nodup_iff.mpr nd4, fun c hc => sub4 c (pm2.mem_iff.mp hc), by rw [List.length_append]; simp; omega, fun _ _ => by simp, fun z => by simp at z, by rw [List.length_eraseIdx, if_pos gl]; omega⟩
        · rw [upd_ne ab, upd_same]
        · rw [upd_same, List.map_append]
          rfl
      · refine ⟨ls, ks, _, rfl, k5, p5.mono (by omega), ha5, hb5, nd4, sub4, by omega, fun hc _ z => hc ((ls4 z).symm.trans he), ls4, lz⟩
    · rintro σ H4 ⟨ls, ks, x5, rfl, k4, p4, ha4, hb4, nd4, sub4, kz4, ne4, ls4, lz⟩
      walk_at "rd"
      refine ⟨b, _, rfl, .inl ⟨SqL.of hb4, fun t ht => ?_⟩⟩
      obtain ⟨H5, e5, s5, h5⟩ := new_heap (o := .tup (ks.map V.str)) ht
      rw [e5]
      exact q t H5 ks (k4.trans (Same.keep s5)) ((p4.up s5).mono (by omega)) h5 (List.nodup_append.mp nd4).1 (fun c hc => sub4 c (List.mem_append_left _ hc)) (by omega) (fun hc => ne4 hc (by omega))
end
end Spk

set_option Elab.async false
set_option linter.all false
set_option maxRecDepth 100000
set_option maxHeartbeats 2000000
namespace Spk
open PySem L2
local macro_rules | `(tactic| walk_at "rd") => `(tactic| repeat (first
  | with_reducible refine i_seq ?_ | with_reducible refine i_asg ?_ | with_reducible refine i_ret ?_ | with_reducible refine i_ifS ?_ | with_reducible refine i_if ?_
  | with_reducible refine i_for ?_ | with_reducible refine i_iL ?_ | with_reducible refine i_iT ?_ | with_reducible refine i_ckw ?_ | with_reducible refine i_cm ?_ | with_reducible refine And.intro (rfl : V.ref _ = V.ref _) ?_ | with_reducible refine i_rng1 ?_ | with_reducible refine i_bm ?_ | with_reducible refine i_bm0 ?_
  | with_reducible refine i_drop ?_ | with_reducible refine i_next ?_
  | with_reducible refine i_var rfl ?_ | with_reducible refine i_c ?_ | with_reducible refine i_op ?_ | with_reducible refine i_un ?_ | with_reducible refine i_name ?_
  | with_reducible refine i_rI0 ?_ | with_reducible refine i_rU ?_ | with_reducible refine i_rEq rfl ?_ | with_reducible refine i_rNe rfl ?_
  | with_reducible refine i_test ?_ | with_reducible refine i_tB ?_ | with_reducible refine i_and ?_ | with_reducible refine i_or ?_ | with_reducible refine i_not ?_
  | with_reducible refine i_andV ?_ | with_reducible refine i_orV ?_ | with_reducible refine i_notV ?_
  | with_reducible refine i_cons ?_ | with_reducible refine i_nil ?_ | with_reducible refine i_cb ?_ | with_reducible refine i_call ?_ | with_reducible refine i_bl ?_
  | with_reducible refine i_tup ?_ | with_reducible refine i_lst ?_ | with_reducible refine i_par ?_ | with_reducible refine i_gcons ?_ | with_reducible refine i_gnil ?_
  | with_reducible refine And.intro (rfl : V.non = V.non) ?_ | with_reducible refine i_ixT (by assumption) rfl ?_ | with_reducible refine i_ixL (by assumption) rfl ?_ | with_reducible refine i_gtup (by assumption) rfl ?_
  | with_reducible refine i_gsub ?_
  | with_reducible refine Or.inl (Exists.intro _ (And.intro (rfl : [V.int _] = [V.int _]) ?_)) | with_reducible refine Exists.intro _ (And.intro (rfl : [V.int _] = [V.int _]) ?_)
  | with_reducible refine Or.inr (Exists.intro _ (And.intro (rfl : [V.bl _] = [V.bl _]) ?_))
  | with_reducible refine Exists.intro _ (Exists.intro _ (And.intro (rfl : [V.int _, V.int _] = [V.int _, V.int _]) ?_))
  | with_reducible refine Exists.intro _ (Exists.intro _ (And.intro (rfl : [V.ref _] = [V.ref _]) (And.intro (Or.inl (SqL.of (by assumption))) ?_)))
  | with_reducible refine i_rI (show (0 : Int) < _ by assumption) ?_ | with_reducible refine i_rI (show (0 : Int) < _ by decide) ?_
  | with_reducible refine i_rI (pow_ok (Nat.le_of_ble_eq_true rfl) (Nat.le_of_ble_eq_true rfl)) ?_
  | with_reducible refine i_rI (cmulL rfl) ?_))
/-- a value of a row -/
def Good (v : V) (k : Bool) : Prop := (∃ m : Int, v = .int m ∧ absI m < big) ∨ (v = .non ∧ k = false)
theorem item_at {K : PySem.W.Frag} {H : Hp} {l : Addr} {xs : List V} {d : Int} {Q : VK} (h : H l = some (.lst xs)) (h0 : 0 ≤ d) (h1 : d < xs.length) (q : ∀ v, v ∈ xs → Q v H) : rIxL K (.ref l) (.int d) H Q := by
  obtain ⟨j, rfl⟩ : ∃ j : Nat, d = (j : Int) := ⟨d.toNat, by omega⟩
  have hj : j < xs.length := by omega
  exact i_ixL h (atI_nat (List.getElem?_eq_getElem hj)) (q _ (List.getElem_mem hj))
section
variable {P : Program} {w : World} {K : PySem.W.Frag} {mg : Str → Option Value} {base : Heap}
abbrev s_value : Stmt := top 17
theorem sc_value : FnScope ["_law_pen_here", "_law_is_key", "_law_pick"] ["_law_pen_here", "_law_is_key"] (defScope s_value) := ⟨rfl, rfl, rfl, by decide +kernel, rfl, by decide +kernel, by decide +kernel⟩
def sp_value : Sp := fun vs H Q _ => ∃ p L n k, vs = [.ref p, .bl k] ∧ Pen H p L n ∧ n ≤ 9900 ∧ ∀ v H', Keep H H' → Pen H' p L (n + 2) → Good v k → Q v H'
theorem ok_value {f fD : Addr} {fd fdD : FuncData} (F : Fun K "_law_value" "_law_value" s_value f fd)
    (F_draw : Fun K "_law_draw" "_law_draw" s_draw fD fdD) (B_draw : Binds K fdD ["_law_pen_here", "_law_many"] []) (g_draw : mg "_law_draw" = some (.ref fD)) (G_draw : FnOk P w K mg base CX0 1 fD fdD ["_law_pen_here", "_law_many"] sp_draw) :
    FnOk P w K mg base CX0 2 f fd ["_law_pen_here", "_law_is_key"] sp_value := by
  refine F.ok sc_value (fun vs H Q E h => ?_) (fun cdv A outer s H vs Q E hr h => ?_)
  · obtain ⟨p, L, n, k, rfl, _⟩ := h
    rfl
  · obtain ⟨p, L, n, k, rfl, hp, hn, q⟩ := h
    refine ⟨_, (pss_cons (ps_set (i := 2) sc_value.nd rfl (Or.inl rfl) (pe_call G_draw (hr.mono (by decide)) rfl g_draw F_draw.kp B_draw .nil pass0 (pa_cons (pv 0) (pa_cons pe_int pa_nil))))
 (pss_cons (ps_if (pt_cmpR op_eq (pv 2) pe_int (nomark _))
 (pss_one (ps_ret (pe_ix ix_list (pe_lst (pa_cons (pe_op op_pow pe_int pe_int) (pa_cons (pe_op op_sub pe_int (pe_op op_pow pe_int pe_int)) (pa_cons (pe_op op_sub (pe_op op_pow pe_int pe_int) pe_int) pa_nil)))) (pe_call G_draw (hr.mono (by decide)) rfl g_draw F_draw.kp B_draw .nil pass0 (pa_cons (pv 0) (pa_cons pe_int pa_nil))) (fun _ _ => rfl))))
 pss_nil)
 (pss_cons (ps_if (PW.pt (pw_and (pt_cmpR op_lt (pv 2) pe_int (nomark _)) (pw_and1 (pt_not (pt_val (pv 1))))))
 (pss_one (ps_ret pe_non))
 pss_nil)
 (pss_one (ps_ret (pe_op op_sub (pe_call G_draw (hr.mono (by decide)) rfl g_draw F_draw.kp B_draw .nil pass0 (pa_cons (pv 0) (pa_cons pe_int pa_nil))) pe_int)))))), ?_⟩
    walk_at "rd"
    refine ⟨p, L, n, 6, rfl, hp, by omega, by decide, by decide, fun d H1 d0 d1 k1 p1 => ?_⟩
    walk_at "rd"
    refine ite_d (fun h0 => ?_) (fun h0 => ?_)
    · walk_at "rd"
      refine ⟨size_of (Nat.le_of_ble_eq_true rfl), fun l hl => ?_⟩
      obtain ⟨H2, e2, s2, h2⟩ := new_heap (o := .lst [.int ((10 : Int) ^ (29 : Int).toNat), .int (0 - (10 : Int) ^ (29 : Int).toNat), .int ((10 : Int) ^ (30 : Int).toNat - 1)]) hl
      rw [e2]
      walk_at "rd"
      refine ⟨p, L, _, 3, rfl, p1.up s2, by omega, by decide, by decide, fun d2 H3 g0 g1 k3 p3 => ?_⟩
      have h3 := k3 _ _ rfl h2
      refine item_at h3 g0 (by simpa using g1) fun v hv => ?_
      refine q v H3 ((k1.trans (Same.keep s2)).trans k3) (p3.mono (by omega)) (.inl ?_)
      simp only [List.mem_cons, List.not_mem_nil, or_false] at hv
      rcases hv with rfl | rfl | rfl
      · exact ⟨_, rfl, by decide⟩
      · exact ⟨_, rfl, by decide⟩
      · exact ⟨_, rfl, by decide⟩
    · walk_at "rd"
      have last : ∀ H', Keep H H' → Pen H' p L (n + 1) → tRet (tOp (rI0 fun i j => V.int (i - j)) (tCall sp_draw [] E0 (tCons (tVar 0) (tCons (tC (.int 9)) tNil))) (tC (.int 4))) { nx := fun _ H1 => Q .non H1, rt := Q } [some (.ref p), some (.bl k), some (.int d)] H' := by
        intro H' k' p'
        walk_at "rd"
        refine ⟨p, L, _, 9, rfl, p', by omega, by decide, by decide, fun d2 H3 g0 g1 k3 p3 => ?_⟩
        walk_at "rd"
        refine q _ H3 (k'.trans k3) (p3.mono (by omega)) (.inl ⟨_, rfl, ?_⟩)
        have : absI (d2 - 4) ≤ 9 := by
          unfold absI
          split <;> omega
        have b : (9 : Int) < big := by decide
        omega
      refine ite_d (fun h3 => ?_) (fun h3 => ?_)
      · cases k with
        | false =>
          walk_at "rd"
          refine iteT ?_
          walk_at "rd"
          exact q .non H1 k1 (p1.mono (by omega)) (.inr ⟨rfl, rfl⟩)
        | true =>
          walk_at "rd"
          refine iteF ?_
          exact i_next (last H1 k1 p1)
      · exact i_next (last H1 k1 p1)
end
end Spk

set_option Elab.async false
set_option linter.all false
set_option maxRecDepth 100000
set_option maxHeartbeats 2000000
namespace Spk
open PySem L2
local macro_rules | `(tactic| walk_at "rd") => `(tactic| repeat (first
  | with_reducible refine i_seq ?_ | with_reducible refine i_asg ?_ | with_reducible refine i_ret ?_ | with_reducible refine i_ifS ?_ | with_reducible refine i_if ?_
  | with_reducible refine i_for ?_ | with_reducible refine i_iL ?_ | with_reducible refine i_iT ?_ | with_reducible refine i_ckw ?_ | with_reducible refine i_cm ?_ | with_reducible refine And.intro (rfl : V.ref _ = V.ref _) ?_ | with_reducible refine i_rng1 ?_ | with_reducible refine i_bm ?_ | with_reducible refine i_bm0 ?_
  | with_reducible refine i_drop ?_ | with_reducible refine i_next ?_
  | with_reducible refine i_var rfl ?_ | with_reducible refine i_c ?_ | with_reducible refine i_op ?_ | with_reducible refine i_un ?_ | with_reducible refine i_name ?_
  | with_reducible refine i_rI0 ?_ | with_reducible refine i_rU ?_ | with_reducible refine i_rEq rfl ?_ | with_reducible refine i_rNe rfl ?_
  | with_reducible refine i_test ?_ | with_reducible refine i_tB ?_ | with_reducible refine i_and ?_ | with_reducible refine i_or ?_ | with_reducible refine i_not ?_
  | with_reducible refine i_andV ?_ | with_reducible refine i_orV ?_ | with_reducible refine i_notV ?_
  | with_reducible refine i_cons ?_ | with_reducible refine i_nil ?_ | with_reducible refine i_cb ?_ | with_reducible refine i_call ?_ | with_reducible refine i_bl ?_
  | with_reducible refine i_tup ?_ | with_reducible refine i_lst ?_ | with_reducible refine i_par ?_ | with_reducible refine i_gcons ?_ | with_reducible refine i_gnil ?_
  | with_reducible refine And.intro (rfl : V.non = V.non) ?_ | with_reducible refine i_ixT (by assumption) rfl ?_ | with_reducible refine i_ixL (by assumption) rfl ?_ | with_reducible refine i_gtup (by assumption) rfl ?_
  | with_reducible refine i_gsub ?_
  | with_reducible refine Or.inl (Exists.intro _ (And.intro (rfl : [V.int _] = [V.int _]) ?_)) | with_reducible refine Exists.intro _ (And.intro (rfl : [V.int _] = [V.int _]) ?_)
  | with_reducible refine Or.inr (Exists.intro _ (And.intro (rfl : [V.bl _] = [V.bl _]) ?_))
  | with_reducible refine Exists.intro _ (Exists.intro _ (And.intro (rfl : [V.int _, V.int _] = [V.int _, V.int _]) ?_))
  | with_reducible refine Exists.intro _ (Exists.intro _ (And.intro (rfl : [V.ref _] = [V.ref _]) (And.intro (Or.inl (SqL.of (by assumption))) ?_)))
  | with_reducible refine i_rI (show (0 : Int) < _ by assumption) ?_ | with_reducible refine i_rI (show (0 : Int) < _ by decide) ?_
  | with_reducible refine i_rI (pow_ok (Nat.le_of_ble_eq_true rfl) (Nat.le_of_ble_eq_true rfl)) ?_
  | with_reducible refine i_rI (cmulL rfl) ?_))
/-! ### what is no row -/
theorem cut_to (us : List V) {j : Nat} (h : j ≤ us.length) : cutV us none (some (j : Int)) = us.take j := by
  unfold cutV
  have e1 : HT.sIx us.length us.length (some (j : Int)) = j := by
    simp only [HT.sIx]
    rw [if_neg (by omega)]
    omega
  rw [e1]
  simp only [HT.sIx]
  simp
theorem cut_last (us : List V) : cutV us none (some (-1)) = us.take (us.length - 1) := by
  unfold cutV
  have e1 : HT.sIx us.length us.length (some (-1)) = us.length - 1 := by
    simp only [HT.sIx]
    rw [if_pos (by decide)]
    omega
  rw [e1]
  simp only [HT.sIx]
  simp
theorem cut_from (us : List V) {j : Nat} (h : j ≤ us.length) : cutV us (some (j : Int)) none = us.drop j := by
  unfold cutV
  have e1 : HT.sIx us.length 0 (some (j : Int)) = j := by
    simp only [HT.sIx]
    rw [if_neg (by omega)]
    omega
  rw [e1]
  simp only [HT.sIx]
  rw [List.take_of_length_le]
  rw [List.length_drop]
  omega
theorem catA_at {K : PySem.W.Frag} {H : Hp} {a b : Addr} {xs ys : List V} {Q : VK} (ha : H a = some (.tup xs)) (hb : H b = some (.tup ys)) (hz : xs.length + ys.length ≤ 100000) (q : ∀ p H', Same H H' → H' p = some (.tup (xs ++ ys)) → Q (.ref p) H') : rCatA K (.ref a) (.ref b) H Q := by
  refine ⟨a, b, xs, ys, rfl, rfl, SqT.of ha, SqT.of hb, size_of hz, fun e => ?_, fun _ e => ?_, fun _ _ p hp => ?_⟩
  · subst e
    exact q b H (Same.refl H) hb
  · subst e
    exact q a H (Same.refl H) (by rw [List.append_nil]; exact ha)
  · obtain ⟨H1, e1, s1, h1⟩ := new_heap (o := .tup (xs ++ ys)) hp
    rw [e1]
    exact q p H1 s1 h1
theorem sl_at {K : PySem.W.Frag} {H : Hp} {a : Addr} {xs ys : List V} {lo hi : Option Int} {Q : VK} (ha : H a = some (.tup xs)) (e : cutV xs lo hi = ys) (hz : ys.length < xs.length) (q : ∀ p H', Same H H' → H' p = some (.tup ys) → Q (.ref p) H') : rSlT K (.ref a) lo hi H Q := by
  refine ⟨a, xs, rfl, SqT.of ha, fun ⟨h1, h2⟩ => ?_, fun p hp => ?_⟩
  · have : cutV xs lo hi = xs := by
      unfold cutV
      rw [h1, h2]
      simp
    rw [← e, this] at hz
    omega
  · obtain ⟨H1, e1, s1, h1⟩ := new_heap (o := .tup (cutV xs lo hi)) hp
    rw [e1]
    exact q p H1 s1 (by rw [h1, e])
theorem i_sl {r : V → Option Int → Option Int → Hp → VK → Prop} {te : TE} {tl th : TO} {σ : L2.St} {H : Hp} {Q : VK} (h : te σ H fun x H1 => tl σ H1 fun l H2 => th σ H2 fun u H3 => r x l u H3 Q) : tSl r te tl th σ H Q := h
theorem i_part {te : TE} {σ : L2.St} {H : Hp} {P : Option Int → Hp → Prop} (h : te σ H fun x H1 => ∃ i, x = .int i ∧ P (some i) H1) : tPart te σ H P := h
theorem i_noPart {σ : L2.St} {H : Hp} {P : Option Int → Hp → Prop} (h : P none H) : tNoPart σ H P := h
/-- r[:j] + (x,) + r[j + 1:] -/
theorem i_splice {K : PySem.W.Frag} {σ : L2.St} {H : Hp} {tr ti tx : TE} {r : Addr} {us : List V} {j : Nat} {x : V} {Q : VK} (hr : H r = some (.tup us)) (hj : j < us.length) (hu : us.length ≤ 100)
    (fr : ∀ (R : VK) (H' : Hp), R (.ref r) H' → tr σ H' R) (fi : ∀ (R : VK) (H' : Hp), R (.int (j : Int)) H' → ti σ H' R) (fx : ∀ (R : VK) (H' : Hp), R x H' → tx σ H' R)
    (q : ∀ p H', Same H H' → H' p = some (.tup (us.set j x)) → Q (.ref p) H') :
    tOp (rCatA K) (tOp (rCatA K) (tSl (rSlT K) tr tNoPart (tPart ti)) (tTup (tCons tx tNil))) (tSl (rSlT K) tr (tPart (tOp (rI0 fun i j => V.int (i + j)) ti (tC (.int 1)))) tNoPart) σ H Q := by
  have lt : (us.take j).length = j := by rw [List.length_take]; omega
  have ld : (us.drop (j + 1)).length = us.length - (j + 1) := List.length_drop
  refine i_op (i_op (i_sl (fr _ _ (i_noPart (i_part (fi _ _ ⟨_, rfl, sl_at hr (cut_to us (by omega)) (by omega) fun p1 H1 s1 h1 => ?_⟩))))))
  refine i_tup (i_cons (fx _ _ (i_nil ⟨size_of (Nat.le_of_ble_eq_true rfl), fun p2 hp2 => ?_⟩)))
  obtain ⟨H2, e2, s2, h2⟩ := new_heap (o := .tup [x]) hp2
  rw [e2]
  refine catA_at (s2 _ _ h1) h2 (by rw [lt]; simp; omega) fun p3 H3 s3 h3 => ?_
  have s03 : Same H H3 := fun b o z => s3 _ _ (s2 _ _ (s1 _ _ z))
  refine i_sl (fr _ _ (i_part (i_op (fi _ _ (i_c (i_rI0 ⟨_, rfl, i_noPart ?_⟩))))))
  refine sl_at (s03 _ _ hr) (show cutV us (some ((j : Int) + 1)) none = us.drop (j + 1) from cut_from us (j := j + 1) (by omega)) (by rw [ld]; omega) fun p4 H4 s4 h4 => ?_
  refine catA_at (s4 _ _ h3) h4 (by rw [List.length_append, lt, ld]; simp; omega) fun p5 H5 s5 h5 => ?_
  refine q p5 H5 (fun b o z => s5 _ _ (s4 _ _ (s03 _ _ z))) ?_
  rw [h5, List.set_eq_take_append_cons_drop, if_pos hj, List.append_assoc]
  rfl
end Spk

set_option Elab.async false
set_option linter.all false
set_option maxRecDepth 100000
set_option maxHeartbeats 4000000
namespace Spk
open PySem L2
local macro_rules | `(tactic| walk_at "rd") => `(tactic| repeat (first
  | with_reducible refine i_seq ?_ | with_reducible refine i_asg ?_ | with_reducible refine i_ret ?_ | with_reducible refine i_ifS ?_ | with_reducible refine i_if ?_
  | with_reducible refine i_for ?_ | with_reducible refine i_iL ?_ | with_reducible refine i_iT ?_ | with_reducible refine i_ckw ?_ | with_reducible refine i_cm ?_ | with_reducible refine And.intro (rfl : V.ref _ = V.ref _) ?_ | with_reducible refine i_rng1 ?_ | with_reducible refine i_bm ?_ | with_reducible refine i_bm0 ?_
  | with_reducible refine i_drop ?_ | with_reducible refine i_next ?_
  | with_reducible refine i_var rfl ?_ | with_reducible refine i_c ?_ | with_reducible refine i_op ?_ | with_reducible refine i_un ?_ | with_reducible refine i_name ?_
  | with_reducible refine i_rI0 ?_ | with_reducible refine i_rU ?_ | with_reducible refine i_rEq rfl ?_ | with_reducible refine i_rNe rfl ?_
  | with_reducible refine i_test ?_ | with_reducible refine i_tB ?_ | with_reducible refine i_and ?_ | with_reducible refine i_or ?_ | with_reducible refine i_not ?_
  | with_reducible refine i_andV ?_ | with_reducible refine i_orV ?_ | with_reducible refine i_notV ?_
  | with_reducible refine i_cons ?_ | with_reducible refine i_nil ?_ | with_reducible refine i_cb ?_ | with_reducible refine i_call ?_ | with_reducible refine i_bl ?_
  | with_reducible refine i_tup ?_ | with_reducible refine i_lst ?_ | with_reducible refine i_par ?_ | with_reducible refine i_gcons ?_ | with_reducible refine i_gnil ?_
  | with_reducible refine And.intro (rfl : V.non = V.non) ?_ | with_reducible refine i_ixT (by assumption) rfl ?_ | with_reducible refine i_ixL (by assumption) rfl ?_ | with_reducible refine i_gtup (by assumption) rfl ?_
  | with_reducible refine i_gsub ?_
  | with_reducible refine Or.inl (Exists.intro _ (And.intro (rfl : [V.int _] = [V.int _]) ?_)) | with_reducible refine Exists.intro _ (And.intro (rfl : [V.int _] = [V.int _]) ?_)
  | with_reducible refine Or.inr (Exists.intro _ (And.intro (rfl : [V.bl _] = [V.bl _]) ?_))
  | with_reducible refine Exists.intro _ (Exists.intro _ (And.intro (rfl : [V.int _, V.int _] = [V.int _, V.int _]) ?_))
  | with_reducible refine Exists.intro _ (Exists.intro _ (And.intro (rfl : [V.ref _] = [V.ref _]) (And.intro (Or.inl (SqL.of (by assumption))) ?_)))
  | with_reducible refine i_rI (show (0 : Int) < _ by assumption) ?_ | with_reducible refine i_rI (show (0 : Int) < _ by decide) ?_
  | with_reducible refine i_rI (pow_ok (Nat.le_of_ble_eq_true rfl) (Nat.le_of_ble_eq_true rfl)) ?_
  | with_reducible refine i_rI (cmulL rfl) ?_))
theorem pair_set {α β : Type} {R : α → β → Prop} {v : α} {j : β} (r : R v j) : ∀ {xs : List α} {ys : List β} (i : Nat), Paired R xs ys → Paired R (xs.set i v) (ys.set i j)
  | _, _, _, .nil => .nil
  | _, _, 0, .cons _ t => .cons r t
  | _, _, i + 1, .cons q t => .cons q (pair_set r i t)
theorem Judged.up {K : PySem.W.Frag} {H H' : Hp} {y : V} {cs ks : List Str} {k : Bool} (e : Same H H') (h : Judged K H y cs ks k) : Judged K H' y cs ks k := by
  rcases h with ⟨t, ty, kt, z⟩ | ⟨a, us, h1, ha, hl, z⟩ | ⟨a, us, js, h1, ha, hl, sj, z⟩
  · exact .inl ⟨t, ty_up e ty, kt, z⟩
  · exact .inr (.inl ⟨a, us, h1, e _ _ ha, hl, z⟩)
  · exact .inr (.inr ⟨a, us, js, h1, e _ _ ha, hl, Paired.mapP sj fun _ _ q => q.up e, z⟩)
theorem judged_set {K : PySem.W.Frag} {H : Hp} {a : Addr} {us : List V} {js : List Bool} {cs ks : List Str} {v : V} {j : Bool} {i : Nat} {c : Str} (ha : H a = some (.tup (us.set i v))) (hl : us.length = cs.length) (sj : Paired (SaysV K H) us js) (hi : cs[i]? = some c) (sv : SaysV K H v j)
    (no : (j || (decide (v = .non) && !decide (c ∈ ks))) = false) : Judged K H (.ref a) cs ks false := by
  have ci : i < cs.length := (List.getElem?_eq_some_iff.mp hi).1
  have jl : us.length = js.length := Paired.length sj
  refine .inr (.inr ⟨a, us.set i v, js.set i j, rfl, ha, by rw [List.length_set]; exact hl, pair_set sv i sj, ?_⟩)
  have e := cells_at (ks := ks) hi (List.getElem?_set_self (by omega) : (us.set i v)[i]? = some v) (List.getElem?_set_self (by omega) : (js.set i j)[i]? = some j)
  rw [no] at e
  symm
  rw [List.all_eq_false]
  exact ⟨false, List.mem_of_getElem? e, by simp⟩
theorem judged_ty {K : PySem.W.Frag} {H : Hp} {y : V} {cs ks : List Str} {T : String} (ty : TyX K H y (.type T)) (h : PySem.W.kitOne K (.type T) (.type "tuple") = some false) : Judged K H y cs ks false := .inl ⟨_, ty, h, rfl⟩
/-- a whole number or None -/
def Plain (v : V) : Prop := (∃ m : Int, v = .int m) ∨ v = .non
theorem other_non {K : PySem.W.Frag} {H : Hp} : Other K H .non := ⟨.type "NoneType", .base .non, .inl (kit_ty (by decide +kernel))⟩
theorem plain_says {K : PySem.W.Frag} {H : Hp} : ∀ {us : List V}, (∀ v, v ∈ us → Plain v) → ∃ js, Paired (SaysV K H) us js
  | [], _ => ⟨[], .nil⟩
  | v :: us, h => by
    obtain ⟨js, sj⟩ := plain_says (K := K) (H := H) (us := us) fun u hu => h u (List.mem_cons_of_mem _ hu)
    rcases h v List.mem_cons_self with ⟨m, rfl⟩ | rfl
    · exact ⟨_, .cons (.inl ⟨m, rfl, rfl⟩) sj⟩
    · exact ⟨false :: js, .cons (.inr ⟨other_non, rfl⟩) sj⟩
section
variable {P : Program} {w : World} {K : PySem.W.Frag} {mg : Str → Option Value} {base : Heap}
abbrev s_wrong : Stmt := top 18
theorem sc_wrong : FnScope ["_law_pen_here", "_law_row", "_law_at", "_law_odd", "_law_place", "_law_some_here", "_law_large"] ["_law_pen_here", "_law_row", "_law_at"] (defScope s_wrong) := ⟨rfl, rfl, rfl, by decide +kernel, rfl, by decide +kernel, by decide +kernel⟩
def sp_wrong (K : PySem.W.Frag) : Sp := fun vs H Q _ => ∃ p L n r, ∃ us : List V, ∃ cs ks : List Str, ∃ (j : Nat) (c : Str), vs = [.ref p, .ref r, .int (j : Int)] ∧ Pen H p L n ∧ n ≤ 9900 ∧ H r = some (.tup us) ∧ us.length = cs.length ∧ cs.length ≤ 8 ∧ cs[j]? = some c ∧ c ∈ ks ∧ (∀ v, v ∈ us → Plain v) ∧
  ∀ l H' ys, Keep H H' → Pen H' p L (n + 2) → H' l = some (.lst ys) → ys.length ≤ 100 → (∀ y, y ∈ ys → Judged K H' y cs ks false) → Q (.ref l) H'
theorem ok_wrong {f fD : Addr} {fd fdD : FuncData} (F : Fun K "_law_wrong" "_law_wrong" s_wrong f fd)
    (F_draw : Fun K "_law_draw" "_law_draw" s_draw fD fdD) (B_draw : Binds K fdD ["_law_pen_here", "_law_many"] []) (g_draw : mg "_law_draw" = some (.ref fD)) (G_draw : FnOk P w K mg base CX0 1 fD fdD ["_law_pen_here", "_law_many"] sp_draw)
    (z_list : mg "list" = none) (z_len : mg "len" = none) : FnOk P w K mg base CX0 2 f fd ["_law_pen_here", "_law_row", "_law_at"] (sp_wrong K) := by
  refine F.ok sc_wrong (fun vs H Q E h => ?_) (fun cdv A outer s H vs Q E hr h => ?_)
  · obtain ⟨p, L, n, r, us, cs, ks, j, c, rfl, _⟩ := h
    rfl
  · obtain ⟨p, L, n, r, us, cs, ks, j, c, rfl, hp, hn, hr', hl, hz, hj, hc, pl, q⟩ := h
    refine ⟨_, (pss_cons (ps_set (i := 3) sc_wrong.nd rfl (Or.inl rfl) (pe_ix ix_list (pe_lst (pa_cons pe_bl (pa_cons pe_bl (pa_cons pe_str (pa_cons pe_str (pa_cons (pe_tup pa_nil) (pa_cons (pe_tup (pa_cons pe_int pa_nil)) (pa_cons (pe_lst pa_nil) (pa_cons pe_dnewK pa_nil))))))))) (pe_call G_draw (hr.mono (by decide)) rfl g_draw F_draw.kp B_draw .nil pass0 (pa_cons (pv 0) (pa_cons pe_int pa_nil))) (fun _ _ => rfl)))
 (pss_cons (ps_set (i := 4) sc_wrong.nd rfl (Or.inr rfl) (pe_call G_draw (hr.mono (by decide)) rfl g_draw F_draw.kp B_draw .nil pass0 (pa_cons (pv 0) (pa_cons (pe_callB call_len_seq (by rfl) z_len PySem.boot_len (pa_cons (pv 1) pa_nil)) pa_nil))))
 (pss_cons (ps_set (i := 5) sc_wrong.nd rfl (Or.inl rfl) (pe_lst (pa_cons (pe_callTy call_list_of (by rfl) z_list (by decide +kernel) (pa_cons (pv 1) pa_nil)) (pa_cons (pe_slice sl_tup (pv 1) po_none (po_some (pe_un un_neg pe_int))) (pa_cons (pe_op op_catA (pv 1) (pe_tup (pa_cons pe_int pa_nil))) (pa_cons (pe_tup (pa_cons (pv 1) pa_nil)) (pa_cons pe_non (pa_cons pe_int (pa_cons pe_bl (pa_cons pe_str (pa_cons pe_dnewK (pa_cons (pe_tup pa_nil) pa_nil))))))))))))
 (pss_cons (ps_set (i := 5) sc_wrong.nd rfl (Or.inl rfl) (pe_op op_cat (pv 5) (pe_lst (pa_cons (pe_op op_catA (pe_op op_catA (pe_slice sl_tup (pv 1) po_none (po_some (pv 2))) (pe_tup (pa_cons pe_non pa_nil))) (pe_slice sl_tup (pv 1) (po_some (pe_op op_add (pv 2) pe_int)) po_none)) (pa_cons (pe_op op_catA (pe_op op_catA (pe_slice sl_tup (pv 1) po_none (po_some (pv 4))) (pe_tup (pa_cons (pv 3) pa_nil))) (pe_slice sl_tup (pv 1) (po_some (pe_op op_add (pv 4) pe_int)) po_none)) (pa_cons (pe_op op_catA (pv 1) (pe_tup (pa_cons pe_non pa_nil))) pa_nil))))))
 (pss_one (ps_ret (pe_op op_cat (pv 5) (pe_lc (own := [("_law_large", 6)]) (g := gName 6) (tt := tYes) rfl sc_wrong.nd (pi_tup (pe_tup (pa_cons (pe_op op_pow pe_int pe_int) (pa_cons (pe_op op_sub pe_int (pe_op op_pow pe_int pe_int)) (pa_cons (pe_op op_pow pe_int pe_int) pa_nil))))) (blkOk_by (own := [("_law_large", 6)]) (N := ["_law_pen_here", "_law_row", "_law_at", "_law_odd", "_law_place", "_law_some_here", "_law_large"]) (sc := defScope s_wrong) (by decide +kernel)) (fun _ _ _ _ _ => pg_name (i := 6) sc_wrong.nd rfl (Or.inl rfl)) (fun _ _ _ _ _ => pts_nil) (fun _ _ _ _ _ => (pe_op (op_catAK (K := K) rfl) (pe_op (op_catAK (K := K) rfl) (pe_slice (sl_tupK (K := K) rfl) (pv 1) po_none (po_some (pv 4))) (pe_tup (pa_cons (pv 6) pa_nil))) (pe_slice (sl_tupK (K := K) rfl) (pv 1) (po_some (pe_op op_add (pv 4) pe_int)) po_none))))))))))), ?_⟩
    have jl : j < cs.length := (List.getElem?_eq_some_iff.mp hj).1
    have ul : 0 < us.length := by omega
    walk_at "rd"
    refine ⟨Nat.zero_le _, fun t0 ht0 => ?_⟩
    obtain ⟨H1, e1, s1, h1⟩ := new_heap (o := .tup []) ht0
    rw [e1]
    walk_at "rd"
    refine ⟨size_of (Nat.le_of_ble_eq_true rfl), fun t1 ht1 => ?_⟩
    obtain ⟨H2, e2, s2, h2⟩ := new_heap (o := .tup [.int 0]) ht1
    rw [e2]
    walk_at "rd"
    refine ⟨Nat.zero_le _, fun l0 hl0 => ?_⟩
    obtain ⟨H3, e3, s3, h3⟩ := new_heap (o := .lst []) hl0
    rw [e3]
    walk_at "rd"
    intro d0 hd0
    obtain ⟨H4, e4, s4, h4⟩ := new_heap (o := .dK []) hd0
    rw [e4]
    walk_at "rd"
    refine ⟨size_of (Nat.le_of_ble_eq_true rfl), fun o8 ho8 => ?_⟩
    obtain ⟨H5, e5, s5, h5⟩ := new_heap (o := .lst [.bl true, .bl false, .str "0", .str "", .ref t0, .ref t1, .ref l0, .ref d0]) ho8
    rw [e5]
    walk_at "rd"
    have s05 : Same H H5 := fun b o z => s5 _ _ (s4 _ _ (s3 _ _ (s2 _ _ (s1 _ _ z))))
    refine ⟨p, L, n, 8, rfl, hp.up s05, by omega, by decide, by decide, fun d H6 g0 g1 k6 p6 => ?_⟩
    refine item_at (k6 _ _ rfl h5) g0 (by simpa using g1) fun odd ho => ?_
    walk_at "rd"
    have k06 : Keep H H6 := (Same.keep s05).trans k6
    have hr6 := k06 _ _ rfl hr'
    refine ⟨r, us, rfl, .inr (SqT.of hr6), ?_⟩
    walk_at "rd"
    refine ⟨p, L, _, (us.length : Int), rfl, p6, by omega, by omega, by omega, fun g7 H7 a0 a1 k7 p7 => ?_⟩
    obtain ⟨g, rfl⟩ : ∃ g : Nat, g7 = (g : Int) := ⟨g7.toNat, by omega⟩
    have gl : g < us.length := by omega
    have k57 : Keep H5 H7 := k6.trans k7
    have k07 : Keep H H7 := k06.trans k7
    have hr7 := k07 _ _ rfl hr'
    have od : Other K H7 odd ∧ odd ≠ .non := by
      have a0' : H7 t0 = some (.tup []) := k57 _ _ rfl (s5 _ _ (s4 _ _ (s3 _ _ (s2 _ _ h1))))
      have a1' : H7 t1 = some (.tup [.int 0]) := k57 _ _ rfl (s5 _ _ (s4 _ _ (s3 _ _ h2)))
      have a2' : H7 l0 = some (.lst []) := k57 _ _ rfl (s5 _ _ (s4 _ _ h3))
      have a3' : H7 d0 = some (.dK []) := k57 _ _ rfl (s5 _ _ h4)
      simp only [List.mem_cons, List.not_mem_nil, or_false] at ho
      rcases ho with rfl | rfl | rfl | rfl | rfl | rfl | rfl | rfl
      · exact ⟨⟨_, .base (.bl true), .inr ⟨kit_ty (by decide +kernel), kit_ty (by decide +kernel)⟩⟩, fun z => nomatch z⟩
      · exact ⟨⟨_, .base (.bl false), .inr ⟨kit_ty (by decide +kernel), kit_ty (by decide +kernel)⟩⟩, fun z => nomatch z⟩
      · exact ⟨⟨_, .base (.str _), .inl (kit_ty (by decide +kernel))⟩, fun z => nomatch z⟩
      · exact ⟨⟨_, .base (.str _), .inl (kit_ty (by decide +kernel))⟩, fun z => nomatch z⟩
      · exact ⟨⟨_, .base (.tup a0'), .inl (kit_ty (by decide +kernel))⟩, fun z => nomatch z⟩
      · exact ⟨⟨_, .base (.tup a1'), .inl (kit_ty (by decide +kernel))⟩, fun z => nomatch z⟩
      · exact ⟨⟨_, .base (.lst a2'), .inl (kit_ty (by decide +kernel))⟩, fun z => nomatch z⟩
      · exact ⟨⟨_, .base (.dK a3'), .inl (kit_ty (by decide +kernel))⟩, fun z => nomatch z⟩
    clear h1 h2 h3 h4 h5 ho s1 s2 s3 s4 s5 s05 e1 e2 e3 e4 e5 ht0 ht1 hl0 hd0 ho8
    walk_at "rd"
    refine ⟨r, us, rfl, .inr (SqT.of hr7), fun l1 hl1 => ?_⟩
    obtain ⟨H8, e8, s8, h8⟩ := new_heap (o := .lst us) hl1
    rw [e8]
    walk_at "rd"
    refine i_sl ?_
    walk_at "rd"
    refine i_noPart (i_part ?_)
    walk_at "rd"
    refine ⟨-1, rfl, ?_⟩
    have hr8 := s8 _ _ hr7
    refine sl_at hr8 (cut_last us) (by rw [List.length_take]; omega) fun t2 H9 s9 h9 => ?_
    walk_at "rd"
    refine ⟨size_of (Nat.le_of_ble_eq_true rfl), fun z1 hz1 => ?_⟩
    obtain ⟨H10, e10, s10, h10⟩ := new_heap (o := .tup [.int 0]) hz1
    rw [e10]
    have hr10 := s10 _ _ (s9 _ _ hr8)
    refine catA_at hr10 h10 (by simp; omega) fun t3 H11 s11 h11 => ?_
    walk_at "rd"
    refine ⟨size_of (Nat.le_of_ble_eq_true rfl), fun t4 ht4 => ?_⟩
    obtain ⟨H12, e12, s12, h12⟩ := new_heap (o := .tup [.ref r]) ht4
    rw [e12]
    walk_at "rd"
    intro d5 hd5
    obtain ⟨H13, e13, s13, h13⟩ := new_heap (o := .dK []) hd5
    rw [e13]
    walk_at "rd"
    refine ⟨Nat.zero_le _, fun t6 ht6 => ?_⟩
    obtain ⟨H14, e14, s14, h14⟩ := new_heap (o := .tup []) ht6
    rw [e14]
    walk_at "rd"
    refine ⟨size_of (Nat.le_of_ble_eq_true rfl), fun q7 hq7 => ?_⟩
    obtain ⟨H15, e15, s15, h15⟩ := new_heap (o := .lst [.ref l1, .ref t2, .ref t3, .ref t4, .non, .int 0, .bl true, .str "", .ref d5, .ref t6]) hq7
    rw [e15]
    have s815 : Same H8 H15 := fun b o z => s15 _ _ (s14 _ _ (s13 _ _ (s12 _ _ (s11 _ _ (s10 _ _ (s9 _ _ z))))))
    have s715 : Same H7 H15 := fun b o z => s815 _ _ (s8 _ _ z)
    have hr15 := s815 _ _ hr8
    obtain ⟨js, sj⟩ := plain_says (K := K) (H := H15) pl
    have first : ∀ y, y ∈ ([.ref l1, .ref t2, .ref t3, .ref t4, .non, .int 0, .bl true, .str "", .ref d5, .ref t6] : List V) → Judged K H15 y cs ks false := by
      intro y hy
      simp only [List.mem_cons, List.not_mem_nil, or_false] at hy
      rcases hy with rfl | rfl | rfl | rfl | rfl | rfl | rfl | rfl | rfl | rfl
      · exact judged_ty (.base (.lst (s815 _ _ h8))) (kit_ty (by decide +kernel))
      · exact .inr (.inl ⟨t2, _, rfl, s15 _ _ (s14 _ _ (s13 _ _ (s12 _ _ (s11 _ _ (s10 _ _ h9))))), by rw [List.length_take]; omega, rfl⟩)
      · exact .inr (.inl ⟨t3, _, rfl, s15 _ _ (s14 _ _ (s13 _ _ (s12 _ _ h11))), by rw [List.length_append]; simp; omega, rfl⟩)
      · have h4' : H15 t4 = some (.tup [.ref r]) := s15 _ _ (s14 _ _ (s13 _ _ h12))
        by_cases one : cs.length = 1
        · have e0 : cs[0]? = some c := by
            have : j = 0 := by omega
            rw [this] at hj
            exact hj
          refine .inr (.inr ⟨t4, [.ref r], [false], rfl, h4', by simp [one], .cons (.inr ⟨⟨_, .base (.tup hr15), .inl (kit_ty (by decide +kernel))⟩, rfl⟩) .nil, ?_⟩)
          have e := cells_at (ks := ks) (vs := [V.ref r]) (js := [false]) e0 rfl rfl
          symm
          rw [List.all_eq_false]
          exact ⟨_, List.mem_of_getElem? e, by simp⟩
        · exact .inr (.inl ⟨t4, _, rfl, h4', by simp; omega, rfl⟩)
      · exact judged_ty (.base .non) (kit_ty (by decide +kernel))
      · exact judged_ty (.base (.int 0)) (kit_ty (by decide +kernel))
      · exact judged_ty (.base (.bl true)) (kit_ty (by decide +kernel))
      · exact judged_ty (.base (.str "")) (kit_ty (by decide +kernel))
      · exact judged_ty (.base (.dK (s15 _ _ (s14 _ _ h13)))) (kit_ty (by decide +kernel))
      · exact .inr (.inl ⟨t6, _, rfl, s15 _ _ h14, by simp; omega, rfl⟩)
    have od15 : Other K H15 odd := by
      obtain ⟨t, ty, o⟩ := od.1
      exact ⟨t, ty_up s715 ty, o⟩
    have odn := od.2
    have k015 : Keep H H15 := k07.trans (Same.keep s715)
    have p15 : Pen H15 p L (n + 2) := (p7.up s715).mono (by omega)
    clear h8 h9 h10 h11 h12 h13 h14 e8 e10 e12 e13 e14 e15 s8 s9 s10 s11 s12 s13 s14 s15 hl1 hz1 ht4 hd5 ht6 hr6 hr7 hr8 hr10 od s715 s815 k6 k7 k57 k07 k06 p6 p7
    generalize hys : ([.ref l1, .ref t2, .ref t3, .ref t4, .non, .int 0, .bl true, .str "", .ref d5, .ref t6] : List V) = ys at *
    have yz : ys.length = 10 := by rw [← hys]; rfl
    refine i_name (i_seq (i_asg (i_op (i_var rfl (i_lst (i_cons ?_))))))
    refine i_splice (K := K) (j := j) (x := .non) hr15 (by omega) (by omega) (fun R H' z => i_var rfl z) (fun R H' z => i_var rfl z) (fun R H' z => i_c z) fun t8 H16 s16 h16 => ?_
    refine i_cons ?_
    refine i_splice (K := K) (j := g) (x := odd) (s16 _ _ hr15) gl (by omega) (fun R H' z => i_var rfl z) (fun R H' z => i_var rfl z) (fun R H' z => i_var rfl z) fun t9 H17 s17 h17 => ?_
    walk_at "rd"
    refine ⟨size_of (Nat.le_of_ble_eq_true rfl), fun z2 hz2 => ?_⟩
    obtain ⟨H18, e18, s18, h18⟩ := new_heap (o := .tup [.non]) hz2
    rw [e18]
    have hr18 := s18 _ _ (s17 _ _ (s16 _ _ hr15))
    refine catA_at hr18 h18 (by simp; omega) fun t10 H19 s19 h19 => ?_
    walk_at "rd"
    refine ⟨size_of (Nat.le_of_ble_eq_true rfl), fun q8 hq8 => ?_⟩
    obtain ⟨H20, e20, s20, h20⟩ := new_heap (o := .lst [.ref t8, .ref t9, .ref t10]) hq8
    rw [e20]
    have s1520 : Same H15 H20 := fun b o z => s20 _ _ (s19 _ _ (s18 _ _ (s17 _ _ (s16 _ _ z))))
    refine ⟨q7, q8, _, _, rfl, rfl, s1520 _ _ h15, h20, size_of (by rw [yz]; show 10 + 3 ≤ 100000; decide), fun q9 hq9 => ?_⟩
    obtain ⟨H21, e21, s21, h21⟩ := new_heap (o := .lst (ys ++ [.ref t8, .ref t9, .ref t10])) hq9
    rw [e21]
    have s1521 : Same H15 H21 := fun b o z => s21 _ _ (s1520 _ _ z)
    have hr21 := s1521 _ _ hr15
    have second : ∀ y, y ∈ ys ++ [.ref t8, .ref t9, .ref t10] → Judged K H21 y cs ks false := by
      have sj21 : Paired (SaysV K H21) us js := Paired.mapP sj fun _ _ q => q.up s1521
      intro y hy
      rcases List.mem_append.mp hy with hy | hy
      · exact (first y hy).up s1521
      · simp only [List.mem_cons, List.not_mem_nil, or_false] at hy
        rcases hy with rfl | rfl | rfl
        · refine judged_set (i := j) (c := c) (j := false) (v := .non) (s21 _ _ (s20 _ _ (s19 _ _ (s18 _ _ (s17 _ _ h16))))) hl sj21 hj (.inr ⟨other_non, rfl⟩) ?_
          simp [hc]
        · obtain ⟨cg, hcg⟩ : ∃ cg, cs[g]? = some cg := ⟨_, List.getElem?_eq_getElem (by omega)⟩
          obtain ⟨t, ty, o⟩ := od15
          refine judged_set (i := g) (c := cg) (j := false) (v := odd) (s21 _ _ (s20 _ _ (s19 _ _ (s18 _ _ h17)))) hl sj21 hcg (.inr ⟨⟨t, ty_up s1521 ty, o⟩, rfl⟩) ?_
          simp [odn]
        · exact .inr (.inl ⟨t10, _, rfl, s21 _ _ (s20 _ _ h19), by rw [List.length_append]; simp; omega, rfl⟩)
    have k021 : Keep H H21 := k015.trans (Same.keep s1521)
    have p21 := p15.up s1521
    clear first h15 h16 h17 h18 h19 h20 e18 e20 e21 s16 s17 s18 s19 s20 s21 hz2 hq8 hq9 hr18 s1520 od15
    generalize hzs : ys ++ ([.ref t8, .ref t9, .ref t10] : List V) = zs at *
    have zz : zs.length = 13 := by rw [← hzs, List.length_append, yz]; rfl
    refine i_name (i_ret (i_op (i_var rfl ?_)))
    unfold tLc
    walk_at "rd"
    refine ⟨size_of (Nat.le_of_ble_eq_true rfl), fun t11 ht11 => ?_⟩
    obtain ⟨H22, e22, s22, h22⟩ := new_heap (o := .tup ([(10 : Int) ^ (30 : Int).toNat, 0 - (10 : Int) ^ (30 : Int).toNat, (10 : Int) ^ (59 : Int).toNat].map V.int)) ht11
    have e22' : upd H21 t11 (.tup [.int ((10 : Int) ^ (30 : Int).toNat), .int (0 - (10 : Int) ^ (30 : Int).toNat), .int ((10 : Int) ^ (59 : Int).toNat)]) = H22 := e22
    rw [e22']
    have hr22 := s22 _ _ hr21
    refine ⟨t11, rfl, ⟨_, SqT.of h22⟩, fun D hD => ?_⟩
    obtain ⟨H23, e23, s23, h23⟩ := new_heap (o := .lst []) hD
    refine lc_tup (K := K) (a := t11) (xs := [(10 : Int) ^ (30 : Int).toNat, 0 - (10 : Int) ^ (30 : Int).toNat, (10 : Int) ^ (59 : Int).toNat].map V.int) (fun i H' => Same H22 H' ∧ ∃ ws, H' D = some (.lst ws) ∧ ws.length = i ∧ ∀ y, y ∈ ws → ∃ a m, y = .ref a ∧ H' a = some (.tup (us.set g (.int m))) ∧ ¬ absI m < big) ⟨by rw [e23]; exact s23, [], by rw [e23]; exact h23, rfl, fun y hy => absurd hy List.not_mem_nil⟩ ?_ ?_ ?_
    · rintro i H' _ ⟨sm, _⟩
      exact SqT.of (sm _ _ h22)
    · rintro i x H' hx ⟨sm, ws, hw, wl, wj⟩
      obtain ⟨m, rfl, hm⟩ : ∃ m, x = .int m ∧ ¬ absI m < big := by
        have hx' := List.mem_of_getElem? hx
        rw [List.mem_map] at hx'
        obtain ⟨m, hm, rfl⟩ := hx'
        refine ⟨m, rfl, ?_⟩
        simp only [List.mem_cons, List.not_mem_nil, or_false] at hm
        rcases hm with rfl | rfl | rfl <;> decide
      have hi : i < 3 := by
        have := (List.getElem?_eq_some_iff.mp hx).1
        simpa using this
      refine i_name ⟨rfl, i_yes (iteT ?_)⟩
      refine i_splice (K := K) (j := g) (x := .int m) (sm _ _ hr22) gl (by omega) (fun R H' z => i_var rfl z) (fun R H' z => i_var rfl z) (fun R H' z => i_var rfl z) fun t12 H24 s24 h24 => ?_
      have hw24 := s24 _ _ hw
      refine ⟨ws, hw24, size_lt (by omega), Same.mut (fun b o z => s24 _ _ (sm _ _ z)) hD, ws ++ [.ref t12], upd_same, by rw [List.length_append, wl]; rfl, fun y hy => ?_⟩
      rcases List.mem_append.mp hy with hy | hy
      · obtain ⟨a, m', e, ha, hb⟩ := wj y hy
        have ha24 := s24 _ _ ha
        exact ⟨a, m', e, by rw [upd_ne (ne_of ha24 hw24 (fun z => nomatch z))]; exact ha24, hb⟩
      · rw [List.mem_singleton] at hy
        exact ⟨t12, m, hy, by rw [upd_ne (ne_of h24 hw24 (fun z => nomatch z))]; exact h24, hm⟩
    · rintro H' ⟨sm, ws, hw, wl, wj⟩
      walk_at "rd"
      have h9' : H' q9 = some (.lst zs) := sm _ _ (s22 _ _ h21)
      refine ⟨q9, D, _, _, rfl, rfl, h9', hw, size_of (by rw [zz, wl]; decide), fun l hl' => ?_⟩
      obtain ⟨H25, e25, s25, h25⟩ := new_heap (o := .lst (zs ++ ws)) hl'
      rw [e25]
      have s2125 : Same H21 H25 := fun b o z => s25 _ _ (sm _ _ (s22 _ _ z))
      refine q l H25 _ (k021.trans (Same.keep s2125)) (p21.up s2125) h25 (by rw [List.length_append, zz, wl]; decide) fun y hy => ?_
      rcases List.mem_append.mp hy with hy | hy
      · exact (second y hy).up s2125
      · obtain ⟨a, m, rfl, ha, hb⟩ := wj y hy
        obtain ⟨cg, hcg⟩ : ∃ cg, cs[g]? = some cg := ⟨_, List.getElem?_eq_getElem (by omega)⟩
        refine judged_set (i := g) (c := cg) (j := decide (absI m < big)) (v := .int m) (s25 _ _ ha) hl (Paired.mapP sj fun _ _ q => q.up (fun b o z => s2125 _ _ (s1521 _ _ z))) hcg (.inl ⟨m, rfl, rfl⟩) ?_
        rw [decide_eq_false hb]
        rfl
end
end Spk

set_option Elab.async false
set_option linter.all false
set_option maxRecDepth 100000
set_option maxHeartbeats 4000000
namespace Spk
open PySem L2
local macro_rules | `(tactic| walk_at "rd") => `(tactic| repeat (first
  | with_reducible refine i_seq ?_ | with_reducible refine i_asg ?_ | with_reducible refine i_ret ?_ | with_reducible refine i_ifS ?_ | with_reducible refine i_if ?_
  | with_reducible refine i_for ?_ | with_reducible refine i_iL ?_ | with_reducible refine i_iT ?_ | with_reducible refine i_ckw ?_ | with_reducible refine i_cm ?_ | with_reducible refine And.intro (rfl : V.ref _ = V.ref _) ?_ | with_reducible refine i_rng1 ?_ | with_reducible refine i_bm ?_ | with_reducible refine i_bm0 ?_
  | with_reducible refine i_drop ?_ | with_reducible refine i_next ?_
  | with_reducible refine i_var rfl ?_ | with_reducible refine i_c ?_ | with_reducible refine i_op ?_ | with_reducible refine i_un ?_ | with_reducible refine i_name ?_
  | with_reducible refine i_rI0 ?_ | with_reducible refine i_rU ?_ | with_reducible refine i_rEq rfl ?_ | with_reducible refine i_rNe rfl ?_
  | with_reducible refine i_test ?_ | with_reducible refine i_tB ?_ | with_reducible refine i_and ?_ | with_reducible refine i_or ?_ | with_reducible refine i_not ?_
  | with_reducible refine i_andV ?_ | with_reducible refine i_orV ?_ | with_reducible refine i_notV ?_
  | with_reducible refine i_cons ?_ | with_reducible refine i_nil ?_ | with_reducible refine i_cb ?_ | with_reducible refine i_call ?_ | with_reducible refine i_bl ?_
  | with_reducible refine i_tup ?_ | with_reducible refine i_lst ?_ | with_reducible refine i_par ?_ | with_reducible refine i_gcons ?_ | with_reducible refine i_gnil ?_
  | with_reducible refine And.intro (rfl : V.non = V.non) ?_ | with_reducible refine i_ixT (by assumption) rfl ?_ | with_reducible refine i_ixL (by assumption) rfl ?_ | with_reducible refine i_gtup (by assumption) rfl ?_
  | with_reducible refine i_gsub ?_
  | with_reducible refine Or.inl (Exists.intro _ (And.intro (rfl : [V.int _] = [V.int _]) ?_)) | with_reducible refine Exists.intro _ (And.intro (rfl : [V.int _] = [V.int _]) ?_)
  | with_reducible refine Or.inr (Exists.intro _ (And.intro (rfl : [V.bl _] = [V.bl _]) ?_))
  | with_reducible refine Exists.intro _ (Exists.intro _ (And.intro (rfl : [V.int _, V.int _] = [V.int _, V.int _]) ?_))
  | with_reducible refine Exists.intro _ (Exists.intro _ (And.intro (rfl : [V.ref _] = [V.ref _]) (And.intro (Or.inl (SqL.of (by assumption))) ?_)))
  | with_reducible refine i_rI (show (0 : Int) < _ by assumption) ?_ | with_reducible refine i_rI (show (0 : Int) < _ by decide) ?_
  | with_reducible refine i_rI (pow_ok (Nat.le_of_ble_eq_true rfl) (Nat.le_of_ble_eq_true rfl)) ?_
  | with_reducible refine i_rI (cmulL rfl) ?_))
/-! ### rows of values -/
def dV : V → PyData
  | .int i => .int i
  | _ => .none
theorem dps_plain {K : PySem.W.Frag} {H : Hp} : ∀ {us : List V}, (∀ v, v ∈ us → Plain v) → DpAll K H us (us.map dV)
  | [], _ => .nil
  | v :: us, h => by
    have t := dps_plain (K := K) (H := H) (us := us) fun u hu => h u (List.mem_cons_of_mem _ hu)
    rcases h v List.mem_cons_self with ⟨m, rfl⟩ | rfl
    · exact .cons (.int m) t
    · exact .cons .non t
theorem lay_plain : ∀ us : List V, PyData.canLayAll0 (us.map dV) = true
  | [] => by simp [PyData.canLayAll0]
  | v :: us => by
    have t := lay_plain us
    have e : (dV v).canLay0 = true := by cases v <;> simp [dV, PyData.canLay0]
    simp [PyData.canLayAll0, e, t]
theorem dep_plain : ∀ us : List V, PyData.depthAll (us.map dV) ≤ 1
  | [] => by simp [PyData.depthAll]
  | v :: us => by
    have t := dep_plain us
    have e : (dV v).depth ≤ 1 := by cases v <;> simp [dV, PyData.depth]
    simp only [List.map_cons, PyData.depthAll]
    omega
theorem shaped_plain (us : List V) : SeqAt.shaped (.tuple (us.map dV)) = true := by
  have a := lay_plain us
  have b := dep_plain us
  have c : (PyData.tuple (us.map dV)).depth ≤ 64 := by
    simp only [PyData.depth]
    omega
  unfold SeqAt.shaped
  rw [Bool.and_eq_true, decide_eq_true_eq]
  exact ⟨by simpa only [PyData.canLay0] using a, by omega⟩
theorem ne_same {K : PySem.W.Frag} {H : Hp} {a b : Addr} {us : List V} {Q : VK} (ha : H a = some (.tup us)) (hb : H b = some (.tup us)) (pl : ∀ v, v ∈ us → Plain v) (q : Q (.bl false) H) : rNeD K (.ref a) (.ref b) H Q := by
  refine ⟨.tuple (us.map dV), .tuple (us.map dV), .tup (SqT.of ha) (dps_plain pl), .tup (SqT.of hb) (dps_plain pl), shaped_plain us, shaped_plain us, ?_⟩
  rw [SeqAt.eqv_refl _ (by simpa only [PyData.canLay0] using lay_plain us)]
  exact q
theorem penny_plain {us : List V} (h : ∀ v, v ∈ us → Plain v) : penny (.lst us) = false := by
  cases us with
  | nil => rfl
  | cons v us =>
    rcases h v List.mem_cons_self with ⟨m, rfl⟩ | rfl
    · cases us <;> rfl
    · cases us <;> rfl
/-- a row for these columns -/
abbrev RowOk (ks cs : List Str) (us : List V) : Prop := Paired (fun v c => Good v (decide (c ∈ ks))) us cs
theorem good_plain {v : V} {k : Bool} (h : Good v k) : Plain v := h.elim (fun ⟨m, e, _⟩ => .inl ⟨m, e⟩) fun ⟨e, _⟩ => .inr e
theorem row_plain {ks : List Str} : ∀ {us : List V} {cs : List Str}, RowOk ks cs us → ∀ v, v ∈ us → Plain v
  | _, _, .nil, v, h => absurd h List.not_mem_nil
  | _, _, .cons r t, v, h => (List.mem_cons.mp h).elim (fun e => e ▸ good_plain r) fun z => row_plain t v z
theorem row_says {K : PySem.W.Frag} {H : Hp} {ks : List Str} : ∀ {us : List V} {cs : List Str}, RowOk ks cs us → ∃ js, Paired (SaysV K H) us js ∧ (cellsL ks cs us js).all id = true
  | _, _, .nil => ⟨[], .nil, rfl⟩
  | v :: us, c :: cs, .cons r t => by
    obtain ⟨js, sj, al⟩ := row_says (K := K) (H := H) t
    rcases r with ⟨m, rfl, hm⟩ | ⟨rfl, hk⟩
    · refine ⟨true :: js, .cons (.inl ⟨m, rfl, (decide_eq_true hm).symm⟩) sj, ?_⟩
      simp only [cellsL, List.all_cons, al, Bool.true_or, id_eq, Bool.and_self]
    · refine ⟨false :: js, .cons (.inr ⟨other_non, rfl⟩) sj, ?_⟩
      simp only [cellsL, List.all_cons, al, hk, id_eq]
      simp
/-- the values of the key columns -/
def duesL (ks : List Str) : List Str → List V → List V
  | c :: cs, v :: vs => if c ∈ ks then v :: duesL ks cs vs else duesL ks cs vs
  | _, _ => []
theorem dues_snoc {ks : List Str} {c : Str} {v : V} : ∀ {cs : List Str} {vs : List V}, cs.length = vs.length → duesL ks (cs ++ [c]) (vs ++ [v]) = duesL ks cs vs ++ (if c ∈ ks then [v] else [])
  | [], [], _ => by simp [duesL]
  | a :: cs, b :: vs, h => by
    have := dues_snoc (ks := ks) (c := c) (v := v) (cs := cs) (vs := vs) (by simpa using h)
    simp only [List.cons_append, duesL, this]
    split <;> simp
  | [], _ :: _, h => by simp at h
  | _ :: _, [], h => by simp at h
theorem dues_len {ks : List Str} : ∀ (cs : List Str) (vs : List V), (duesL ks cs vs).length ≤ cs.length
  | [], _ => by simp [duesL]
  | _ :: _, [] => by simp [duesL]
  | c :: cs, v :: vs => by
    have := dues_len (ks := ks) cs vs
    simp only [duesL]
    split <;> simp only [List.length_cons] <;> omega
theorem dues_map {ks : List Str} (f : Str → V) : ∀ cs : List Str, duesL ks cs (cs.map f) = (among cs ks).map f
  | [] => rfl
  | c :: cs => by
    have := dues_map (ks := ks) f cs
    unfold among at this ⊢
    simp only [List.map_cons, duesL, this, List.filter_cons, decide_eq_true_eq]
    split <;> simp
theorem picked_all {cs : List Str} {us : List V} (nd : cs.Nodup) (hl : us.length = cs.length) : picked cs us cs = us := by
  refine List.ext_getElem (by rw [List.length_map]; exact hl.symm) fun i h1 h2 => ?_
  have hi : i < cs.length := by omega
  obtain ⟨j, ej, e2, e3⟩ := place_of (List.getElem_mem hi)
  have hj : j < cs.length := (List.getElem?_eq_some_iff.mp e2).1
  have e : j = i := by
    rw [← List.getElem?_eq_getElem hi] at e2
    exact (List.getElem?_inj hj nd).mp e2
  rw [List.getElem_map, ej, e, List.getD_eq_getElem?_getD, List.getElem?_eq_getElem h2]
  rfl
theorem dues_picked {ks cs : List Str} {us : List V} (nd : cs.Nodup) (hl : us.length = cs.length) : duesL ks cs us = picked cs us (among cs ks) := by
  have e := dues_map (ks := ks) (fun w => us.getD (cs.idxOf w) V.non) cs
  have e2 : cs.map (fun w => us.getD (cs.idxOf w) V.non) = us := picked_all nd hl
  rw [e2] at e
  exact e
theorem picked_plain {cs : List Str} {us : List V} {ws : List Str} (h : ∀ v, v ∈ us → Plain v) : ∀ v, v ∈ picked cs us ws → Plain v := by
  intro v hv
  obtain ⟨w, _, rfl⟩ := List.mem_map.mp hv
  rw [List.getD_eq_getElem?_getD]
  cases e : us[cs.idxOf w]? with
  | none => exact .inr rfl
  | some u => exact h u (List.mem_of_getElem? e)
/-! ### the law's words -/
def words : List Str := ["k", "r", "u", "key", "in", "a", "b", "once"]
instance (z : Str) : Decidable (NameOk z) := by unfold NameOk; exact inferInstance
theorem words_nd : words.Nodup := by decide
theorem words_ok : ∀ c, c ∈ words → NameOk c ∧ PyData.strOk c = true := by decide +kernel
theorem Tab.keep {C : Addr} {H H' : Hp} {x : Addr} {cs ks : List Str} (e : Keep H H') (h : Tab C H x cs ks) : Tab C H' x cs ks := by
  obtain ⟨dx, tc, tk, tf, tu, h1, ⟨o, h2, r⟩, h3⟩ := h
  exact ⟨dx, tc, tk, tf, tu, e _ _ rfl h1, ⟨o, e _ _ rfl h2, r⟩, e _ _ rfl h3⟩
theorem eqv_str (a b : Str) : PyData.eqv (.str a) (.str b) = decide (a = b) := by
  simp only [PyData.eqv]
  rw [Bool.eq_iff_iff]
  simp
end Spk

set_option Elab.async false
set_option linter.all false
set_option maxRecDepth 100000
set_option maxHeartbeats 8000000
namespace Spk
open PySem L2
local macro_rules | `(tactic| walk_at "rd") => `(tactic| repeat (first
  | with_reducible refine i_seq ?_ | with_reducible refine i_asg ?_ | with_reducible refine i_ret ?_ | with_reducible refine i_ifS ?_ | with_reducible refine i_if ?_
  | with_reducible refine i_for ?_ | with_reducible refine i_iL ?_ | with_reducible refine i_iT ?_ | with_reducible refine i_ckw ?_ | with_reducible refine i_cm ?_ | with_reducible refine And.intro (rfl : V.ref _ = V.ref _) ?_ | with_reducible refine i_rng1 ?_ | with_reducible refine i_bm ?_ | with_reducible refine i_bm0 ?_
  | with_reducible refine i_drop ?_ | with_reducible refine i_next ?_
  | with_reducible refine i_var rfl ?_ | with_reducible refine i_c ?_ | with_reducible refine i_op ?_ | with_reducible refine i_un ?_ | with_reducible refine i_name ?_
  | with_reducible refine i_rI0 ?_ | with_reducible refine i_rU ?_ | with_reducible refine i_rEq rfl ?_ | with_reducible refine i_rNe rfl ?_
  | with_reducible refine i_test ?_ | with_reducible refine i_tB ?_ | with_reducible refine i_and ?_ | with_reducible refine i_or ?_ | with_reducible refine i_not ?_
  | with_reducible refine i_andV ?_ | with_reducible refine i_orV ?_ | with_reducible refine i_notV ?_
  | with_reducible refine i_cons ?_ | with_reducible refine i_nil ?_ | with_reducible refine i_cb ?_ | with_reducible refine i_call ?_ | with_reducible refine i_bl ?_
  | with_reducible refine i_tup ?_ | with_reducible refine i_lst ?_ | with_reducible refine i_par ?_ | with_reducible refine i_gcons ?_ | with_reducible refine i_gnil ?_
  | with_reducible refine And.intro (rfl : V.non = V.non) ?_ | with_reducible refine i_ixT (by assumption) rfl ?_ | with_reducible refine i_ixL (by assumption) rfl ?_ | with_reducible refine i_gtup (by assumption) rfl ?_
  | with_reducible refine i_gsub ?_
  | with_reducible refine Or.inl (Exists.intro _ (And.intro (rfl : [V.int _] = [V.int _]) ?_)) | with_reducible refine Exists.intro _ (And.intro (rfl : [V.int _] = [V.int _]) ?_)
  | with_reducible refine Or.inr (Exists.intro _ (And.intro (rfl : [V.bl _] = [V.bl _]) ?_))
  | with_reducible refine Exists.intro _ (Exists.intro _ (And.intro (rfl : [V.int _, V.int _] = [V.int _, V.int _]) ?_))
  | with_reducible refine Exists.intro _ (Exists.intro _ (And.intro (rfl : [V.ref _] = [V.ref _]) (And.intro (Or.inl (SqL.of (by assumption))) ?_)))
  | with_reducible refine i_rI (show (0 : Int) < _ by assumption) ?_ | with_reducible refine i_rI (show (0 : Int) < _ by decide) ?_
  | with_reducible refine i_rI (pow_ok (Nat.le_of_ble_eq_true rfl) (Nat.le_of_ble_eq_true rfl)) ?_
  | with_reducible refine i_rI (cmulL rfl) ?_))
/-! ### the law -/
structure TInv (a p L : Addr) (i : Nat) (σ : L2.St) (H : Hp) : Prop where
  ex : ∃ x2 x3 x4 x5 x6 x7 x8 x9 x10 x11 x12 x13 x14 x15 x16 x17 : Option V, σ = [some (.ref a), some (.ref p), x2, x3, x4, x5, x6, x7, x8, x9, x10, x11, x12, x13, x14, x15, x16, x17] ∧ Pen H p L (80 * i)
structure WInv (C a p L lc tk x : Addr) (cs ks : List Str) (n i : Nat) (σ : L2.St) (H : Hp) : Prop where
  ex : ∃ x2 x3 x7 x8 x9 x10 x11 x12 x13 x14 x15 x16 x17 : Option V, σ = [some (.ref a), some (.ref p), x2, x3, some (.ref lc), some (.ref tk), some (.ref x), x7, x8, x9, x10, x11, x12, x13, x14, x15, x16, x17] ∧ Pen H p L (n + 16 * i) ∧
    H lc = some (.lst (cs.map V.str)) ∧ H tk = some (.tup (ks.map V.str)) ∧ Tab C H x cs ks
theorem shaped_str1 {c : Str} (h : PyData.strOk c = true) : SeqAt.shaped (.str c) = true := by
  unfold SeqAt.shaped
  simp [PyData.canLay0, PyData.depth, h]
section
variable {P : Program} {w : World} {K : PySem.W.Frag} {mg : Str → Option Value} {base : Heap} {C fI p g : Addr} {mc : Value}
abbrev s_law : Stmt := top 19
theorem sc_law : FnScope ["_law_script", "_law_pen_here", "_law_turn", "_law_left", "_law_columns", "_law_keyed", "_law_table", "_law_step", "_law_row", "_law_due", "_law_at", "_law_odd", "_law_wanted", "_law_told", "_law_k", "_law_column", "_law_value_here", "_law_place"] ["_law_script"] (defScope s_law) := ⟨rfl, rfl, rfl, by decide +kernel, rfl, by decide +kernel, by decide +kernel⟩
def sp_law (K : PySem.W.Frag) : Sp := fun vs H Q _ => ∃ a, ∃ ns : List Int, vs = [.ref a] ∧ SqL K H a (ns.map V.int) ∧ ns.length ≤ 63 ∧ ∀ H', Q (.bl true) H'
theorem ok_law {f fP fD fS fV fW hI hK hC e1 e2 : Addr} {fd fdP fdD fdS fdV fdW fdO : FuncData} {mv : List Value} (F : Fun K "law" "law" s_law f fd) (T : ClsT K mg C fI mc p g) (CN : ClsN K C hI hK hC)
    (F_pen : Fun K "_law_pen" "_law_pen" s_pen fP fdP) (B_pen : Binds K fdP ["_law_script"] []) (g_pen : mg "_law_pen" = some (.ref fP)) (G_pen : FnOk P w K mg base CX0 1 fP fdP ["_law_script"] (sp_pen K))
    (F_draw : Fun K "_law_draw" "_law_draw" s_draw fD fdD) (B_draw : Binds K fdD ["_law_pen_here", "_law_many"] []) (g_draw : mg "_law_draw" = some (.ref fD)) (G_draw : FnOk P w K mg base CX0 1 fD fdD ["_law_pen_here", "_law_many"] sp_draw)
    (F_some : Fun K "_law_some" "_law_some" s_some fS fdS) (B_some : Binds K fdS ["_law_pen_here", "_law_names", "_law_most"] []) (g_some : mg "_law_some" = some (.ref fS)) (G_some : FnOk P w K mg base CX0 2 fS fdS ["_law_pen_here", "_law_names", "_law_most"] sp_some)
    (F_value : Fun K "_law_value" "_law_value" s_value fV fdV) (B_value : Binds K fdV ["_law_pen_here", "_law_is_key"] []) (g_value : mg "_law_value" = some (.ref fV)) (G_value : FnOk P w K mg base CX0 2 fV fdV ["_law_pen_here", "_law_is_key"] sp_value)
    (F_wrong : Fun K "_law_wrong" "_law_wrong" s_wrong fW fdW) (B_wrong : Binds K fdW ["_law_pen_here", "_law_row", "_law_at"] []) (g_wrong : mg "_law_wrong" = some (.ref fW)) (G_wrong : FnOk P w K mg base CX0 2 fW fdW ["_law_pen_here", "_law_row", "_law_at"] (sp_wrong K))
    (G_of : FnOk P w K mg base CX0 5 g fdO ["cls", "columns", "key", "fixed", "unique", "reuse"] (sp_tof K C)) (hb_of : KBn K fdO ["cls", "columns", "key", "fixed", "unique", "reuse"] 2 ["key"] (fun us ws => us ++ ws ++ mv) (fun vs zs => vs ++ zs ++ [V.ref e1, .ref e2, .bl true]))
    (te1 : ∀ H, TuS K H e1 []) (te2 : ∀ H, TuS K H e2 [])
    (R_is_row : FnR P w K mg base CX0 3 hI (mR K C)) (R_key_of : FnR P w K mg base CX0 2 hK (mY C)) (R_cut : FnR P w K mg base CX0 1 hC (mC K C))
    (z_range : mg "range" = none) (z_len : mg "len" = none) (z_tuple : mg "tuple" = none) (z_zip : mg "zip" = none) (z_enumerate : mg "enumerate" = none) (z_isinstance : mg "isinstance" = none) : FnOk P w K mg base CX0 6 f fd ["_law_script"] (sp_law K) := by
  have g_C := T.g_C
  refine F.ok sc_law (fun vs H Q E h => ?_) (fun cdv A outer s H vs Q E hr h => ?_)
  · obtain ⟨a, ns, rfl, _⟩ := h
    rfl
  · obtain ⟨a, ns, rfl, ha, hn, q⟩ := h
    refine ⟨_, (pss_cons (ps_set (i := 1) sc_law.nd rfl (Or.inr rfl) (pe_call G_pen (hr.mono (by decide)) rfl g_pen F_pen.kp B_pen .nil pass0 (pa_cons (pv 0) pa_nil)))
 (pss_cons (ps_for PassesOwn.never rfl (pi_range1 (by rfl) z_range (pa_cons pe_int pa_nil)) (pg_name (i := 2) sc_law.nd rfl (Or.inl rfl))
 (pss_cons (ps_set (i := 3) sc_law.nd rfl (Or.inr rfl) (pe_lst (pa_cons pe_str (pa_cons pe_str (pa_cons pe_str (pa_cons pe_str (pa_cons pe_str (pa_cons pe_str (pa_cons pe_str (pa_cons pe_str pa_nil))))))))))
 (pss_cons (ps_set (i := 4) sc_law.nd rfl (Or.inr rfl) (pe_lc (own := [("_law_k", 14)]) (g := gName 14) (tt := tYes) rfl sc_law.nd (pi_range1 (by rfl) z_range (pa_cons (pe_op op_add pe_int (pe_call G_draw (hr.mono (by decide)) rfl g_draw F_draw.kp B_draw .nil pass0 (pa_cons (pv 1) (pa_cons pe_int pa_nil)))) pa_nil)) (blkOk_by (own := [("_law_k", 14)]) (N := ["_law_script", "_law_pen_here", "_law_turn", "_law_left", "_law_columns", "_law_keyed", "_law_table", "_law_step", "_law_row", "_law_due", "_law_at", "_law_odd", "_law_wanted", "_law_told", "_law_k", "_law_column", "_law_value_here", "_law_place"]) (sc := defScope s_law) (by decide +kernel)) (fun _ _ _ _ _ => pg_name (i := 14) sc_law.nd rfl (Or.inl rfl)) (fun _ _ _ _ _ => pts_nil) (fun _ _ _ _ _ => (pe_bmK (K := K) rfl PySem.F.plainAttrs_list PySem.F.slot_list_pop PySem.F.type_list_pop mt_popAt (pv 3) (pa_cons (pe_call G_draw (hr.mono (by decide)) rfl g_draw F_draw.kp B_draw .nil pass0 (pa_cons (pv 1) (pa_cons (pe_callB (call_len_seqK (K := K) rfl) (by rfl) z_len PySem.boot_len (pa_cons (pv 3) pa_nil)) pa_nil))) pa_nil)))))
 (pss_cons (ps_set (i := 5) sc_law.nd rfl (Or.inr rfl) (pe_call G_some (hr.mono (by decide)) rfl g_some F_some.kp B_some .nil pass0 (pa_cons (pv 1) (pa_cons (pv 4) (pa_cons pe_int pa_nil)))))
 (pss_cons (ps_set (i := 6) sc_law.nd rfl (Or.inl rfl) (pe_cmethK (pe_glob rfl g_C (relR _)) T.rd T.of G_of hb_of (hr.mono (by decide)) pass0 (pa_cons (pv 4) pa_nil) (pk_cons (pv 5) pk_nil)))
 (pss_one (ps_for PassesOwn.never rfl (pi_range1 (by rfl) z_range (pa_cons pe_int pa_nil)) (pg_name (i := 7) sc_law.nd rfl (Or.inl rfl))
 (pss_cons (ps_set (i := 8) sc_law.nd rfl (Or.inr rfl) (pe_callTy call_tuple_of (by rfl) z_tuple (by decide +kernel) (pa_cons (pe_lc (own := [("_law_column", 15)]) (g := gName 15) (tt := tYes) rfl sc_law.nd (pi_list (pv 4)) (blkOk_by (own := [("_law_column", 15)]) (N := ["_law_script", "_law_pen_here", "_law_turn", "_law_left", "_law_columns", "_law_keyed", "_law_table", "_law_step", "_law_row", "_law_due", "_law_at", "_law_odd", "_law_wanted", "_law_told", "_law_k", "_law_column", "_law_value_here", "_law_place"]) (sc := defScope s_law) (by decide +kernel)) (fun _ _ _ _ _ => pg_name (i := 15) sc_law.nd rfl (Or.inl rfl)) (fun _ _ _ _ _ => pts_nil) (fun _ _ _ _ _ => (pe_call G_value (hr.mono (by decide)) rfl g_value F_value.kp B_value .nil pass0 (pa_cons (pv 1) (pa_cons (pe_cmpR (op_inK (K := K) rfl) (pv 15) (pv 5) (by rfl)) pa_nil))))) pa_nil)))
 (pss_cons (ps_set (i := 9) sc_law.nd rfl (Or.inl rfl) (pe_callTy call_tuple_of (by rfl) z_tuple (by decide +kernel) (pa_cons (pe_lc (own := [("_law_column", 15), ("_law_value_here", 16)]) (g := gTup K 2 (gCons (gName 15) (gCons (gName 16) gNil))) rfl sc_law.nd (pi_zipM (by rfl) z_zip (pa_cons (pv 4) (pa_cons (pv 8) pa_nil))) (blkOk_by (own := [("_law_column", 15), ("_law_value_here", 16)]) (N := ["_law_script", "_law_pen_here", "_law_turn", "_law_left", "_law_columns", "_law_keyed", "_law_table", "_law_step", "_law_row", "_law_due", "_law_at", "_law_odd", "_law_wanted", "_law_told", "_law_k", "_law_column", "_law_value_here", "_law_place"]) (sc := defScope s_law) (by decide +kernel)) (fun _ _ _ _ _ => pg_tup (by rfl) (pgs_cons (pg_name (i := 15) sc_law.nd rfl (Or.inl rfl)) (pgs_cons (pg_name (i := 16) sc_law.nd rfl (Or.inl rfl)) pgs_nil))) (fun _ _ _ _ _ => pts_one (pt_cmpR (op_inK (K := K) rfl) (pv 15) (pv 5) (by rfl))) (fun _ _ _ _ _ => (pv 16))) pa_nil)))
 (pss_cons (ps_if (PW.pt (pw_or (pt_cmpR op_notBl (pe_methR (pv 6) T.cl CN.is_row R_is_row (hr.mono (by decide)) pass0 (pa_cons (pv 8) pa_nil)) pe_bl (nomark _)) (pw_or1 (pt_cmpR (op_neD hr.units) (pe_methR (pv 6) T.cl CN.key_of R_key_of (hr.mono (by decide)) pass0 (pa_cons (pv 8) pa_nil)) (pv 9) (nomark _)))))
 (pss_one (ps_ret pe_bl))
 pss_nil)
 (pss_cons (ps_set (i := 10) sc_law.nd rfl (Or.inl rfl) (pe_ix ix_list (pe_lc (own := [("_law_place", 17), ("_law_column", 15)]) (g := gTup K 2 (gCons (gName 17) (gCons (gName 15) gNil))) rfl sc_law.nd (pi_enum (by rfl) z_enumerate (pa_cons (pv 4) pa_nil)) (blkOk_by (own := [("_law_place", 17), ("_law_column", 15)]) (N := ["_law_script", "_law_pen_here", "_law_turn", "_law_left", "_law_columns", "_law_keyed", "_law_table", "_law_step", "_law_row", "_law_due", "_law_at", "_law_odd", "_law_wanted", "_law_told", "_law_k", "_law_column", "_law_value_here", "_law_place"]) (sc := defScope s_law) (by decide +kernel)) (fun _ _ _ _ _ => pg_tup (by rfl) (pgs_cons (pg_name (i := 17) sc_law.nd rfl (Or.inl rfl)) (pgs_cons (pg_name (i := 15) sc_law.nd rfl (Or.inl rfl)) pgs_nil))) (fun _ _ _ _ _ => pts_one (pt_cmpR (op_inK (K := K) rfl) (pv 15) (pv 5) (by rfl))) (fun _ _ _ _ _ => (pv 17))) (pe_un un_neg pe_int) (fun _ _ => rfl)))
 (pss_cons (ps_for PassesOwn.never rfl (pi_list (pe_call G_wrong (hr.mono (by decide)) rfl g_wrong F_wrong.kp B_wrong .nil pass0 (pa_cons (pv 1) (pa_cons (pv 8) (pa_cons (pv 10) pa_nil))))) (pg_name (i := 11) sc_law.nd rfl (Or.inl rfl))
 (pss_one (ps_if (pt_cmpR op_notBl (pe_methR (pv 6) T.cl CN.is_row R_is_row (hr.mono (by decide)) pass0 (pa_cons (pv 11) pa_nil)) pe_bl (nomark _))
 (pss_one (ps_ret pe_bl))
 pss_nil)))
 (pss_cons (ps_set (i := 12) sc_law.nd rfl (Or.inl rfl) (pe_call G_some (hr.mono (by decide)) rfl g_some F_some.kp B_some .nil pass0 (pa_cons (pv 1) (pa_cons (pv 4) (pa_cons pe_int pa_nil)))))
 (pss_cons (ps_set (i := 13) sc_law.nd rfl (Or.inl rfl) (pe_methR (pv 6) T.cl CN.cut R_cut (hr.mono (by decide)) pass0 (pa_cons (pv 8) (pa_cons (pv 12) pa_nil))))
 (pss_cons (ps_if (PW.pt (pw_or (pt_cmpR (op_neD hr.units) (pv 13) (pe_callTy call_tuple_of (by rfl) z_tuple (by decide +kernel) (pa_cons (pe_lc (own := [("_law_column", 15)]) (g := gName 15) (tt := tYes) rfl sc_law.nd (pi_tup (pv 12)) (blkOk_by (own := [("_law_column", 15)]) (N := ["_law_script", "_law_pen_here", "_law_turn", "_law_left", "_law_columns", "_law_keyed", "_law_table", "_law_step", "_law_row", "_law_due", "_law_at", "_law_odd", "_law_wanted", "_law_told", "_law_k", "_law_column", "_law_value_here", "_law_place"]) (sc := defScope s_law) (by decide +kernel)) (fun _ _ _ _ _ => pg_name (i := 15) sc_law.nd rfl (Or.inl rfl)) (fun _ _ _ _ _ => pts_nil) (fun _ _ _ _ _ => (pe_ix (ix_tupK (K := K) rfl) (pv 8) (pe_bmK (K := K) rfl PySem.F.plainAttrs_list PySem.F.slot_list_index PySem.F.type_list_index (mt_indexDK (K := K) rfl (room65 hr)) (pv 4) (pa_cons (pv 15) pa_nil)) (fun _ _ => rfl)))) pa_nil)) (nomark _)) (pw_or1 (pt_not (pt_val (pe_callB call_isi (by rfl) z_isinstance (by decide +kernel) (pa_cons (pv 13) (pa_cons (pe_bltn (v := .ty "tuple") (u := .type "tuple") (by rfl) z_tuple (by decide +kernel) rfl) pa_nil))))))))
 (pss_one (ps_ret pe_bl))
 pss_nil)
 (pss_one (ps_if (PW.pt (pw_or (pt_cmpR (op_neD hr.units) (pe_methR (pv 6) T.cl CN.cut R_cut (hr.mono (by decide)) pass0 (pa_cons (pv 8) (pa_cons (pe_fld (pv 6) rfl) pa_nil))) (pv 8) (nomark _)) (pw_or (pt_cmpR (op_neD hr.units) (pe_methR (pv 6) T.cl CN.cut R_cut (hr.mono (by decide)) pass0 (pa_cons (pv 8) (pa_cons (pe_tup pa_nil) pa_nil))) (pe_tup pa_nil) (nomark _)) (pw_or1 (pt_cmpR (op_neD hr.units) (pe_methR (pv 6) T.cl CN.cut R_cut (hr.mono (by decide)) pass0 (pa_cons (pv 8) (pa_cons (pe_fld (pv 6) rfl) pa_nil))) (pv 9) (nomark _))))))
 (pss_one (ps_ret pe_bl))
 pss_nil)))))))))))))))))
 (pss_one (ps_ret pe_bl)))), ?_⟩
    walk_at "rd"
    refine ⟨a, ns, rfl, ha, hn, fun p L H1 s1 hp => ?_⟩
    walk_at "rd"
    refine ⟨by decide, by decide, for_range (lo := 0) (n := 4) (TInv a p L) ⟨_, _, _, _, _, _, _, _, _, _, _, _, _, _, _, _, rfl, hp.mono (by omega)⟩ ?_ ?_⟩
    · rintro i σ H2 hi ⟨x2, x3, x4, x5, x6, x7, x8, x9, x10, x11, x12, x13, x14, x15, x16, x17, rfl, p2⟩
      walk_at "rd"
      refine ⟨size_of (Nat.le_of_ble_eq_true rfl), fun l hl => ?_⟩
      obtain ⟨H3, e3, s3, h3⟩ := new_heap (o := .lst (words.map V.str)) hl
      have e3' : upd H2 l (.lst [.str "k", .str "r", .str "u", .str "key", .str "in", .str "a", .str "b", .str "once"]) = H3 := e3
      rw [e3']
      walk_at "rd"
      unfold tLc
      walk_at "rd"
      have p3 := p2.up s3
      refine ⟨p, L, _, 4, rfl, p3, by omega, by decide, by decide, fun d H4 d0 d1 k4 p4 => ?_⟩
      walk_at "rd"
      have h4 := k4 _ _ (penny_strs words) h3
      obtain ⟨dn, rfl⟩ : ∃ dn : Nat, d = (dn : Int) := ⟨d.toNat, by omega⟩
      refine ⟨by omega, by omega, fun D hD => ?_⟩
      obtain ⟨pD, LD⟩ := pen_ne p4 hD
      obtain ⟨pl', Ll'⟩ := pen_ne p2 hl
      have lD : l ≠ D := ne_of_none h4 hD
      refine lc_range (lo := 0) (n := ((1 : Int) + (dn : Int)).toNat) (fun j H' => ∃ cs ls : List Str, H' l = some (.lst (ls.map V.str)) ∧ H' D = some (.lst (cs.map V.str)) ∧ (cs ++ ls).Perm words ∧ cs.length = j ∧ Pen H' p L (80 * i + 1 + j)) ⟨[], words, by rw [upd_ne lD]; exact h4, upd_same, List.Perm.refl _, rfl, (pen_off p4 pD LD).mono (by omega)⟩ ?_ ?_
      · rintro j H5 hj ⟨cs, ls, h5, hD5, pm, cz, p5⟩
        have lz : ls.length = 8 - j := by
          have := pm.length_eq
          rw [List.length_append] at this
          have w8 : words.length = 8 := rfl
          omega
        have hj4 : j < 4 := by omega
        walk_at "rd"
        refine ⟨rfl, i_yes (iteT ?_)⟩
        walk_at "rd"
        refine i_tyL h5 ?_
        walk_at "rd"
        rw [List.length_map]
        refine ⟨p, L, _, _, rfl, p5, by omega, by omega, by omega, fun g6 H6 g0 g1 k6 p6 => ?_⟩
        walk_at "rd"
        have h6 := k6 _ _ (penny_strs ls) h5
        have hD6 := k6 _ _ (penny_strs cs) hD5
        have gl : g6.toNat < ls.length := by omega
        refine ⟨l, _, g6, g6.toNat, .str ls[g6.toNat], rfl, rfl, h6, by omega, by omega, seq_ix g0 (by rw [List.length_map]; omega), by rw [List.getElem?_map, List.getElem?_eq_getElem gl]; rfl, ?_⟩
        rw [map_erase]
        have hD7 : upd H6 l (.lst ((ls.eraseIdx g6.toNat).map V.str)) D = some (.lst (cs.map V.str)) := by rw [upd_ne lD.symm]; exact hD6
        have pm2 : ((cs ++ [ls[g6.toNat]]) ++ ls.eraseIdx g6.toNat).Perm (cs ++ ls) := by
          rw [List.append_assoc]
          exact List.Perm.append_left cs (perm_erase gl)
        refine ⟨_, hD7, size_lt (by rw [List.length_map]; omega), cs ++ [ls[g6.toNat]], ls.eraseIdx g6.toNat, by rw [upd_ne lD, upd_same], ?_, pm2.trans pm, by rw [List.length_append, cz]; rfl, (pen_off (pen_off p6 pl' Ll') pD LD).mono (by omega)⟩
        rw [upd_same, List.map_append]
        rfl
      · rintro H5 ⟨cs, ls, h5, hD5, pm, cz, p5⟩
        have nd := List.nodup_append.mp (pm.nodup_iff.mpr words_nd)
        have sub : ∀ c, c ∈ cs → c ∈ words := fun c hc => pm.mem_iff.mp (List.mem_append_left _ hc)
        have tx : TxsOk cs := fun c hc => (words_ok c (sub c hc)).2
        have c0 : cs ≠ [] := fun z => by
          rw [z] at cz
          simp at cz
          omega
        walk_at "rd"
        refine ⟨p, L, _, D, cs, 2, rfl, p5, by omega, hD5, by omega, nd.1, tx, by decide, by decide, fun t H6 ks k6 p6 h6 kn ksub kz kne => ?_⟩
        walk_at "rd"
        have mb : MayBe cs ks := ⟨c0, by omega, nd.1, fun c hc => (words_ok c (sub c hc)).1, kne c0, kz, kn, ksub⟩
        refine i_cmk ?_
        walk_at "rd"
        refine ⟨rfl, rfl, D, t, e1, e2, cs, ks, rfl, k6 _ _ (penny_strs cs) hD5, TuS.of h6, te1 _, te2 _, mb, fun x H7 s7 tb => ?_⟩
        have p7 : Pen H7 p L (80 * i + 8) := (p6.up s7).mono (by show _ ≤ 80 * i + 8; have : (2 : Int).toNat = 2 := rfl; omega)
        have hD7 := s7 _ _ (k6 _ _ (penny_strs cs) hD5)
        have h7 := s7 _ _ h6
        clear h5 hD5 p5 p6 k6 h6 h3 h4 k4 p4 p3 s3 e3 e3' pm hl p2 s7 hD
        walk_at "rd"
        refine ⟨by decide, by decide, for_range (lo := 0) (n := 4) (WInv C a p L D t x cs ks (80 * i + 8)) ⟨_, _, _, _, _, _, _, _, _, _, _, _, _, rfl, p7, hD7, h7, tb⟩ ?_ ?_⟩
        · rintro j σ H8 hj ⟨x2, x3, x7, x8, x9, x10, x11, x12, x13, x14, x15, x16, x17, rfl, p8, hD8, h8, tb8⟩
          walk_at "rd"
          refine ⟨D, rfl, ⟨_, SqL.of hD8⟩, fun G hG => ?_⟩
          obtain ⟨pG, LG⟩ := pen_ne p8 hG
          obtain ⟨H9, e9, s9, h9⟩ := new_heap (o := .lst []) hG
          refine lc_list (K := K) (a := D) (xs := cs.map V.str) (fun m H' => ∃ us, Keep H8 H' ∧ Pen H' p L (80 * i + 8 + 16 * j + 2 * m) ∧ H' G = some (.lst us) ∧ RowOk ks (cs.take m) us) ⟨[], by rw [e9]; exact Same.keep s9, by rw [e9]; exact (p8.up s9).mono (by omega), by rw [e9]; exact h9, .nil⟩ ?_ ?_ ?_
          · rintro m H' _ ⟨us, k, _⟩
            exact SqL.of (k _ _ (penny_strs cs) hD8)
          · rintro m y H' hy ⟨us, k9, p9, hG9, ro⟩
            obtain ⟨c, ec, rfl⟩ := str_at hy
            have hm : m < cs.length := (List.getElem?_eq_some_iff.mp ec).1
            have uz : us.length = m := by
              have := Paired.length ro
              rw [List.length_take] at this
              omega
            walk_at "rd"
            refine ⟨rfl, i_yes (iteT ?_)⟩
            walk_at "rd"
            refine in_at (.inr (SqT.of (k9 _ _ rfl h8))) ?_
            walk_at "rd"
            refine ⟨p, L, _, _, rfl, p9, by omega, fun v H10 k10 p10 gv => ?_⟩
            have hG10 := k10 _ _ (penny_plain (row_plain ro)) hG9
            refine ⟨us, hG10, size_lt (by omega), us ++ [v], (k9.trans k10).mut hG, (pen_off p10 pG LG).mono (by omega), upd_same, ?_⟩
            rw [take_snoc ec]
            exact Paired.snoc ro gv
          rintro H10 ⟨us, k10, p10, hG10, ro⟩
          rw [List.length_map, List.take_length] at ro
          rw [List.length_map] at p10
          have hl : us.length = cs.length := Paired.length ro
          have pl := row_plain ro
          walk_at "rd"
          refine ⟨G, us, rfl, .inl ⟨SqL.of hG10, fun r hr' => ?_⟩⟩
          obtain ⟨H11, e11, s11, h11⟩ := new_heap (o := .tup us) hr'
          rw [e11]
          have hD11 := s11 _ _ (k10 _ _ (penny_strs cs) hD8)
          have ht11 := s11 _ _ (k10 _ _ rfl h8)
          have tb11 := (tb8.keep k10).up s11
          have p11 : Pen H11 p L (80 * i + 8 + 16 * j + 8) := (p10.up s11).mono (by omega)
          clear hG10 p10 k10 e11 s11 hr' hG pG LG e9 s9 h9 p8 hD8 h8 tb8
          walk_at "rd"
          refine i_zipM ?_
          walk_at "rd"
          refine ⟨D, r, _, us, rfl, SqL.of hD11, SqT.of h11, fun G2 hG2 => ?_⟩
          obtain ⟨H12, e12, s12, h12⟩ := new_heap (o := .lst []) hG2
          refine lc_it (walk_zipM (K := K) (a := D) (b := r) (xs := cs.map V.str) (ys := us) (n := cs.length) (List.length_map ..) hl) (fun m H' => Same H11 H' ∧ H' G2 = some (.lst (duesL ks (cs.take m) (us.take m)))) ⟨by rw [e12]; exact s12, by rw [e12]; exact h12⟩ ?_ ?_ ?_
          · rintro m H' _ ⟨s2, _⟩
            exact ⟨SqL.of (s2 _ _ hD11), SqT.of (s2 _ _ h11)⟩
          · rintro m y H13 _ hm ⟨s13, h13⟩ ⟨t2, c', v, rfl, ht2, rfl, ec, ev⟩
            obtain ⟨c, ec2, rfl⟩ := str_at ec
            obtain ⟨H14, e14, s14, h14⟩ := new_heap (o := .tup [.str c, v]) ht2
            rw [e14]
            have s1114 : Same H11 H14 := fun b o z => s14 _ _ (s13 _ _ z)
            have tl : (cs.take m).length = (us.take m).length := by rw [List.length_take, List.length_take, hl]
            refine i_gtup h14 rfl (i_gcons ?_)
            walk_at "rd"
            refine ⟨rfl, ?_⟩
            walk_at "rd"
            refine in_at (.inr (SqT.of (s1114 _ _ ht11))) ⟨_, rfl, ?_⟩
            refine ite_d (fun hk => ?_) (fun hk => ?_)
            · walk_at "rd"
              refine ⟨_, s14 _ _ h13, size_lt ?_, Same.mut s1114 hG2, ?_⟩
              · have := dues_len (ks := ks) (cs.take m) (us.take m)
                rw [List.length_take] at this
                omega
              · rw [upd_same, take_snoc ec2, take_snoc ev, dues_snoc tl, if_pos hk]
            · refine ⟨s1114, ?_⟩
              rw [take_snoc ec2, take_snoc ev, dues_snoc tl, if_neg hk, List.append_nil]
              exact s14 _ _ h13
          rintro H13 ⟨s13, h13⟩
          rw [List.take_length, List.take_of_length_le (by omega), dues_picked mb.cn hl] at h13
          walk_at "rd"
          refine ⟨G2, _, rfl, .inl ⟨SqL.of h13, fun u hu => ?_⟩⟩
          obtain ⟨H14, e14, s14, h14⟩ := new_heap (o := .tup (picked cs us (among cs ks))) hu
          rw [e14]
          have s1114 : Same H11 H14 := fun b o z => s14 _ _ (s13 _ _ z)
          have hD14 := s1114 _ _ hD11
          have ht14 := s1114 _ _ ht11
          have hr14 := s1114 _ _ h11
          have tb14 := tb11.up s1114
          have p14 := p11.up s1114
          clear h11 hD11 ht11 tb11 p11 e12 s12 h12 hG2 s13 h13 e14 s14 hu s1114
          walk_at "rd"
          obtain ⟨dx, tc, tk, tf, tu, hx, hc, hk⟩ := id tb14
          refine i_methR ?_
          walk_at "rd"
          refine ⟨x, dx, _, rfl, hx, lk_meth (.inr (.inl rfl)), ?_⟩
          walk_at "rd"
          obtain ⟨js, sj, al⟩ := row_says (K := K) (H := H14) ro
          refine ⟨x, .ref r, true, cs, ks, rfl, tb14, by omega, .inr (.inr ⟨r, us, js, rfl, hr14, hl, sj, al.symm⟩), fun H15 s15 => ?_⟩
          walk_at "rd"
          refine ⟨true, true, rfl, rfl, false, rfl, iteF ?_⟩
          walk_at "rd"
          refine i_methR ?_
          walk_at "rd"
          have hx15 := s15 _ _ hx
          have hr15 := s15 _ _ hr14
          refine ⟨x, dx, _, rfl, hx15, lk_meth (.inr (.inr rfl)), ?_⟩
          walk_at "rd"
          refine ⟨x, r, cs, ks, us, rfl, tb14.up s15, hr15, hl, by omega, fun u2 H16 s16 h16 => ?_⟩
          walk_at "rd"
          refine ne_same h16 (s16 _ _ (s15 _ _ h14)) (picked_plain pl) ⟨false, rfl, iteF ?_⟩
          have s1416 : Same H14 H16 := fun b o z => s16 _ _ (s15 _ _ z)
          have hD16 := s1416 _ _ hD14
          have ht16 := s1416 _ _ ht14
          have hr16 := s1416 _ _ hr14
          have tb16 := tb14.up s1416
          have hu16 := s1416 _ _ h14
          have p16 := p14.up s1416
          clear hD14 ht14 hr14 tb14 h14 p14 hx hc hk hx15 hr15 s15 s16 h16 sj al js s1416
          walk_at "rd"
          refine i_iE ?_
          walk_at "rd"
          refine ⟨D, _, rfl, SqL.of hD16, fun G3 hG3 => ?_⟩
          obtain ⟨H17, e17, s17, h17⟩ := new_heap (o := .lst []) hG3
          refine lc_it (walk_enum (K := K) (a := D) (xs := cs.map V.str)) (fun m H' => Same H16 H' ∧ ∃ js : List Nat, H' G3 = some (.lst (js.map fun q : Nat => V.int (q : Int))) ∧ js.length ≤ m ∧ (∀ q, q ∈ js → ∃ c, cs[q]? = some c ∧ c ∈ ks) ∧ (∀ q c, q < m → cs[q]? = some c → c ∈ ks → js ≠ [])) ⟨by rw [e17]; exact s17, [], by rw [e17]; exact h17, Nat.le_refl _, fun q hq => absurd hq List.not_mem_nil, fun q c hq => absurd hq (Nat.not_lt_zero _)⟩ ?_ ?_ ?_
          · rintro m H' _ ⟨s2, _⟩
            exact SqL.of (s2 _ _ hD16)
          · rintro m y H18 _ hm ⟨s18, js, h18, jz, ja, jn⟩ ⟨t2, c', v, rfl, ht2, rfl, ec, ev⟩
            obtain ⟨c, ev2, rfl⟩ := str_at ev
            have ec' := Option.some.inj ec
            subst ec'
            have hm' : m < cs.length := by simpa using hm
            obtain ⟨H19, e19, s19, h19⟩ := new_heap (o := .tup [.int (m : Int), .str c]) ht2
            rw [e19]
            have s1619 : Same H16 H19 := fun b o z => s19 _ _ (s18 _ _ z)
            refine i_gtup h19 rfl (i_gcons ?_)
            walk_at "rd"
            refine ⟨rfl, ?_⟩
            walk_at "rd"
            refine in_at (.inr (SqT.of (s1619 _ _ ht16))) ⟨_, rfl, ?_⟩
            refine ite_d (fun hk => ?_) (fun hk => ?_)
            · walk_at "rd"
              refine ⟨_, s19 _ _ h18, size_lt (by rw [List.length_map]; omega), Same.mut s1619 hG3, js ++ [m], ?_, by rw [List.length_append]; simp; omega, fun q hq => ?_, fun _ _ _ _ _ => by simp⟩
              · rw [upd_same, List.map_append]
                rfl
              · rcases List.mem_append.mp hq with hq | hq
                · exact ja q hq
                · rw [List.mem_singleton] at hq
                  subst hq
                  exact ⟨c, ev2, hk⟩
            · refine ⟨s1619, js, s19 _ _ h18, by omega, ja, fun q c2 hq e2 h2 => ?_⟩
              by_cases e : q = m
              · subst e
                rw [ev2] at e2
                cases e2
                exact absurd h2 hk
              · exact jn q c2 (by omega) e2 h2
          rintro H18 ⟨s18, js, h18, _, ja, jn⟩
          rw [List.length_map] at jn
          obtain ⟨kc, hkc⟩ : ∃ kc, kc ∈ ks := List.exists_mem_of_ne_nil ks mb.k0
          have hjs : js ≠ [] := by
            obtain ⟨q, _, e2, _⟩ := place_of (mb.sub kc hkc)
            exact jn q kc (List.getElem?_eq_some_iff.mp e2).1 e2 hkc
          obtain ⟨js', jt, rfl⟩ : ∃ js' jt, js = js' ++ [jt] := ⟨js.dropLast, js.getLast hjs, (List.dropLast_concat_getLast hjs).symm⟩
          obtain ⟨cj, ecj, hcj⟩ := ja jt (List.mem_append_right _ List.mem_cons_self)
          rw [List.map_append] at h18
          walk_at "rd"
          refine i_ixL h18 (atI_last _ _) ?_
          have hD18 := s18 _ _ hD16
          have ht18 := s18 _ _ ht16
          have hr18 := s18 _ _ hr16
          have tb18 := tb16.up s18
          have hu18 := s18 _ _ hu16
          have p18 := p16.up s18
          clear hD16 ht16 hr16 tb16 hu16 p16 e17 s17 h17 hG3 s18 h18 jn hjs ja
          walk_at "rd"
          refine ⟨p, L, _, r, us, cs, ks, jt, cj, rfl, p18, by omega, hr18, hl, by omega, ecj, hcj, pl, fun l2 H19 ys k19 p19 h19 yz jd => ?_⟩
          have hD19 := k19 _ _ (penny_strs cs) hD18
          have ht19 := k19 _ _ rfl ht18
          have hr19 := k19 _ _ rfl hr18
          have hu19 := k19 _ _ rfl hu18
          have tb19 := tb18.keep k19
          clear hD18 ht18 hr18 hu18 tb18 p18 k19
          refine ⟨l2, rfl, ⟨_, SqL.of h19⟩, for_list (K := K) (a := l2) (xs := ys) (fun m σ H' => ∃ y7 y10 y11 : Option V, σ = [some (.ref a), some (.ref p), x2, x3, some (.ref D), some (.ref t), some (.ref x), y7, some (.ref r), some (.ref u), y10, y11, x12, x13, x14, x15, x16, x17] ∧ Same H19 H') ⟨_, _, _, rfl, Same.refl _⟩ ?_ ?_ ?_⟩
          · rintro m σ H' _ ⟨y7, y10, y11, _, s20⟩
            exact SqL.of (s20 _ _ h19)
          · rintro m y σ H20 hy ⟨y7, y10, y11, rfl, s20⟩
            have tb20 := tb19.up s20
            obtain ⟨dx, tc, tk, tf, tu, hx, hc, hk⟩ := id tb20
            walk_at "rd"
            refine i_methR ?_
            walk_at "rd"
            refine ⟨x, dx, _, rfl, hx, lk_meth (.inr (.inl rfl)), ?_⟩
            walk_at "rd"
            refine ⟨x, y, false, cs, ks, rfl, tb20, by omega, (jd y (List.mem_of_getElem? hy)).up s20, fun H21 s21 => ?_⟩
            walk_at "rd"
            refine ⟨false, false, rfl, rfl, false, rfl, iteF ?_⟩
            exact i_next ⟨_, _, _, rfl, fun b o z => s21 _ _ (s20 _ _ z)⟩
          rintro σ H20 ⟨y7, y10, y11, rfl, s20⟩
          have hD20 := s20 _ _ hD19
          have ht20 := s20 _ _ ht19
          have hr20 := s20 _ _ hr19
          have hu20 := s20 _ _ hu19
          have tb20 := tb19.up s20
          have p20 := p19.up s20
          clear hD19 ht19 hr19 hu19 tb19 p19 h19 jd s20
          walk_at "rd"
          refine ⟨p, L, _, D, cs, 4, rfl, p20, by omega, hD20, by omega, mb.cn, tx, by decide, by decide, fun t3 H21 ws k21 p21 h21 wn wsub wz wne => ?_⟩
          have hD21 := k21 _ _ (penny_strs cs) hD20
          have ht21 := k21 _ _ rfl ht20
          have hr21 := k21 _ _ rfl hr20
          have hu21 := k21 _ _ rfl hu20
          have tb21 := tb20.keep k21
          have wz4 : ws.length ≤ 4 := wz
          clear hD20 ht20 hr20 hu20 tb20 p20 k21
          obtain ⟨dx, tc, tk, tf, tu, hx, hc, hk⟩ := id tb21
          walk_at "rd"
          refine i_methR ?_
          walk_at "rd"
          refine ⟨x, dx, _, rfl, hx, lk_meth (.inl rfl), ?_⟩
          walk_at "rd"
          refine ⟨x, r, t3, cs, ks, us, ws, rfl, tb21, hr21, hl, SqT.of h21, by omega, wsub, fun q1 H22 s22 h22 => ?_⟩
          walk_at "rd"
          refine ⟨t3, rfl, ⟨_, SqT.of (s22 _ _ h21)⟩, fun G4 hG4 => ?_⟩
          obtain ⟨H23, e23, s23, h23⟩ := new_heap (o := .lst []) hG4
          refine lc_tup (K := K) (a := t3) (xs := ws.map V.str) (fun m H' => Same H22 H' ∧ H' G4 = some (.lst (picked cs us (ws.take m)))) ⟨by rw [e23]; exact s23, by rw [e23]; exact h23⟩ ?_ ?_ ?_
          · rintro m H' _ ⟨s2, _⟩
            exact SqT.of (s2 _ _ (s22 _ _ h21))
          · rintro m y H24 hy ⟨s24, h24⟩
            obtain ⟨c, ec, rfl⟩ := str_at hy
            have hm : m < ws.length := (List.getElem?_eq_some_iff.mp ec).1
            obtain ⟨jj, ej, e2, e3⟩ := place_of (wsub c (List.mem_of_getElem? ec))
            have hj' : jj < us.length := by
              rw [hl]
              exact (List.getElem?_eq_some_iff.mp e2).1
            have hD24 := s24 _ _ (s22 _ _ hD21)
            walk_at "rd"
            refine ⟨rfl, i_yes (iteT ?_)⟩
            walk_at "rd"
            refine i_tyL hD24 ?_
            walk_at "rd"
            refine ⟨D, .str c, .str c, cs.map PyData.str, jj, .str c, rfl, rfl, .lst (SqL.of hD24) (dps_strs cs), .str c, shaped_strs tx, shaped_str1 (tx c (wsub c (List.mem_of_getElem? ec))), by rw [List.getElem?_map, e2]; rfl, by rw [eqv_str]; simp, fun q z' hq hz' => ?_, ?_⟩
            · rw [List.getElem?_map] at hz'
              cases hcq : cs[q]? with
              | none => rw [hcq] at hz'; cases hz'
              | some cq =>
                rw [hcq] at hz'
                cases hz'
                show PyData.eqv (.str cq) (.str c) = false
                rw [eqv_str, decide_eq_false_iff_not]
                intro z
                exact e3 q hq (by rw [hcq, z])
            refine i_ixT (s24 _ _ (s22 _ _ hr21)) (atI_nat (List.getElem?_eq_getElem hj')) ?_
            refine ⟨_, h24, size_lt (by rw [List.length_map, List.length_take]; omega), Same.mut s24 hG4, ?_⟩
            rw [upd_same, take_snoc ec, picked_snoc, ej, List.getD_eq_getElem?_getD, List.getElem?_eq_getElem hj']
            all_goals rfl
          rintro H24 ⟨s24, h24⟩
          rw [List.length_map, List.take_length] at h24
          walk_at "rd"
          refine ⟨G4, _, rfl, .inl ⟨SqL.of h24, fun v2 hv2 => ?_⟩⟩
          obtain ⟨H25, e25, s25, h25⟩ := new_heap (o := .tup (picked cs us ws)) hv2
          rw [e25]
          have s2225 : Same H22 H25 := fun b o z => s25 _ _ (s24 _ _ z)
          have hq1 := s2225 _ _ h22
          refine ne_same hq1 h25 (picked_plain pl) ⟨false, rfl, iteF ?_⟩
          walk_at "rd"
          refine ⟨_, _, _, _, true, rfl, .ty "tuple", .base (.tup hq1), kit_ty (by decide +kernel), true, rfl, ?_⟩
          refine iteF ?_
          have s2125 : Same H21 H25 := fun b o z => s2225 _ _ (s22 _ _ z)
          have hx25 := s2125 _ _ hx
          have hr25 := s2125 _ _ hr21
          have hD25 := s2125 _ _ hD21
          have ht25 := s2125 _ _ ht21
          have hu25 := s2125 _ _ hu21
          have tb25 := tb21.up s2125
          have hc25 := hc.up s2125
          have hk25 := s2125 _ _ hk
          have p25 := p21.up s2125
          clear hD21 ht21 hr21 hu21 tb21 h21 s22 h22 e23 s23 h23 hG4 s24 h24 hv2 e25 s25 h25 s2225 hq1 s2125 hx hc hk p21
          walk_at "rd"
          refine i_methR ?_
          walk_at "rd"
          refine ⟨x, dx, _, rfl, hx25, lk_meth (.inl rfl), ?_⟩
          walk_at "rd"
          refine ⟨_, rfl, x, C, dx, _, _, rfl, hx25, T.cl, T.nC, lk_columns, ?_⟩
          walk_at "rd"
          refine ⟨x, r, tc, cs, ks, us, cs, rfl, tb25, hr25, hl, hc25.seq, by omega, fun c hc => hc, fun q2 H26 s26 h26 => ?_⟩
          rw [picked_all mb.cn hl] at h26
          walk_at "rd"
          have hr26 := s26 _ _ hr25
          refine ne_same h26 hr26 pl ⟨false, rfl, iteF ?_⟩
          walk_at "rd"
          refine i_methR ?_
          walk_at "rd"
          refine ⟨x, dx, _, rfl, s26 _ _ hx25, lk_meth (.inl rfl), ?_⟩
          walk_at "rd"
          refine ⟨Nat.zero_le _, fun w1 hw1 => ?_⟩
          obtain ⟨H27, e27, s27, h27⟩ := new_heap (o := .tup []) hw1
          rw [e27]
          walk_at "rd"
          have s2527 : Same H25 H27 := fun b o z => s27 _ _ (s26 _ _ z)
          refine ⟨x, r, w1, cs, ks, us, [], rfl, tb25.up s2527, s27 _ _ hr26, hl, SqT.of h27, Nat.zero_le _, fun c hc => absurd hc List.not_mem_nil, fun q3 H28 s28 h28 => ?_⟩
          walk_at "rd"
          refine ⟨Nat.zero_le _, fun w2 hw2 => ?_⟩
          obtain ⟨H29, e29, s29, h29⟩ := new_heap (o := .tup []) hw2
          rw [e29]
          refine ne_same (us := []) (s29 _ _ h28) h29 (fun v hv => absurd hv List.not_mem_nil) ⟨false, rfl, iteF ?_⟩
          have s2529 : Same H25 H29 := fun b o z => s29 _ _ (s28 _ _ (s2527 _ _ z))
          walk_at "rd"
          refine i_methR ?_
          walk_at "rd"
          refine ⟨x, dx, _, rfl, s2529 _ _ hx25, lk_meth (.inl rfl), ?_⟩
          walk_at "rd"
          refine ⟨_, rfl, x, C, dx, _, _, rfl, s2529 _ _ hx25, T.cl, T.nK, lk_key, ?_⟩
          walk_at "rd"
          refine ⟨x, r, tk, cs, ks, us, among cs ks, rfl, tb25.up s2529, s2529 _ _ hr25, hl, SqT.of (s2529 _ _ hk25), Nat.le_trans (List.length_filter_le ..) (by omega), fun c hc => (List.mem_filter.mp hc).1, fun q4 H30 s30 h30 => ?_⟩
          walk_at "rd"
          have s2530 : Same H25 H30 := fun b o z => s30 _ _ (s2529 _ _ z)
          refine ne_same h30 (s2530 _ _ hu25) (picked_plain pl) ⟨false, rfl, iteF ?_⟩
          refine i_next ⟨_, _, _, _, _, _, _, _, _, _, _, _, _, rfl, (p25.up s2530).mono (by have : (4 : Int).toNat = 4 := rfl; omega), s2530 _ _ hD25, s2530 _ _ ht25, tb25.up s2530⟩
        · rintro σ H8 ⟨x2, x3, x7, x8, x9, x10, x11, x12, x13, x14, x15, x16, x17, rfl, p8, hD8, h8, tb8⟩
          exact ⟨_, _, _, _, _, _, _, _, _, _, _, _, _, _, _, _, rfl, p8.mono (by omega)⟩
    · rintro σ H2 ⟨x2, x3, x4, x5, x6, x7, x8, x9, x10, x11, x12, x13, x14, x15, x16, x17, rfl, p2⟩
      walk_at "rd"
      exact q H2
end
end Spk

set_option Elab.async false
set_option linter.all false
set_option maxRecDepth 100000
set_option maxHeartbeats 0
namespace Spk
open PySem L2
/-! ### what the top leaves -/
abbrev at1 (x : Str) : PySem.W.Frag → Addr := fun K => He.ga K x
abbrev atM (m : Str) : PySem.W.Frag → Addr := fun K => He.ma K (He.ga K "Table") m
abbrev atC (m : Str) : PySem.W.Frag → Addr := fun K => He5.wf K (He.ga K "Table") "classmethod" m
/-- where a keyword's value stands -/
def kwA (K : PySem.W.Frag) (f : Addr) (x : Str) : Addr := match K.lookup f with
  | some o => (match o.data with
    | .func fd => (match fd.kwdefaults with
      | .ref D => (match PySem.W.nsIn K D x with
        | some (some (.ref a)) => a
        | _ => 0)
      | _ => 0)
    | _ => 0)
  | none => 0
def kwa (x : Str) : PySem.W.Frag → Addr := fun K => kwA K (He5.wf K (He.ga K "Table") "classmethod" "of") x
def dfk (a : PySem.W.Frag → Addr) (x q : Str) (st : Stmt) : He5.DefA := ⟨a, x, q, defArgs st, defBody st, defScope st, [], [("fixed", .adr (kwa "fixed")), ("unique", .adr (kwa "unique")), ("reuse", .bl true)]⟩
def dfn (a : PySem.W.Frag → Addr) (x q : Str) (st : Stmt) : He5.DefA := ⟨a, x, q, defArgs st, defBody st, defScope st, [], []⟩
def defs : List He5.DefA := [dfn (at1 "is_number") "is_number" "is_number" s_is_number,
  dfn (at1 "is_value") "is_value" "is_value" s_is_value,
  dfn (at1 "is_name") "is_name" "is_name" s_is_name,
  dfn (at1 "are_names") "are_names" "are_names" s_are_names,
  dfn (at1 "sequence_of") "sequence_of" "sequence_of" s_sequence_of,
  dfn (at1 "are_chosen") "are_chosen" "are_chosen" s_are_chosen,
  dfn (at1 "in_order_of") "in_order_of" "in_order_of" s_in_order_of,
  dfn (at1 "_law_pen") "_law_pen" "_law_pen" s_pen,
  dfn (at1 "_law_draw") "_law_draw" "_law_draw" s_draw,
  dfn (at1 "_law_some") "_law_some" "_law_some" s_some,
  dfn (at1 "_law_value") "_law_value" "_law_value" s_value,
  dfn (at1 "_law_wrong") "_law_wrong" "_law_wrong" s_wrong,
  dfn (at1 "law") "law" "law" s_law,
  dfn (atM "__init__") "__init__" "Table.__init__" s_Table__init,
  dfn (atM "is_row") "is_row" "Table.is_row" s_Table_is_row,
  dfn (atM "key_of") "key_of" "Table.key_of" s_Table_key_of,
  dfn (atM "cut") "cut" "Table.cut" s_Table_cut,
  dfk (atC "of") "of" "Table.of" s_Table_of]
def names : List Str := ["is_number", "is_value", "is_name", "are_names", "sequence_of", "are_chosen", "in_order_of", "_law_pen", "_law_draw", "_law_some", "_law_value", "_law_wrong", "law", "Table"]
def kits : List Str := ["abs", "all", "bool", "enumerate", "int", "isinstance", "len", "list", "range", "set", "str", "tuple", "zip"]
def plain : List He.Fa := names.map He.Fa.glo ++ (kits.map He.Fa.free ++ [.cls "Table", .noat "Table" "columns", .noat "Table" "key", .noat "Table" "fixed", .noat "Table" "unique", .noat "Table" "reuse", .mkr "Table", .meth "Table" "is_row", .meth "Table" "key_of", .meth "Table" "cut"])
def emptyB (K : PySem.W.Frag) (a : Addr) : Bool := match K.lookup a with
  | some o => o.cls == .type "tuple" && (match o.data with | .seq its _ => its.size == 0 | _ => false)
  | none => false
def mostB (K : PySem.W.Frag) (C : Addr) : Bool := match PySem.W.findCls K (.ref C) (.type "type") "MOST_COLUMNS" with
  | some (.val (.int i _)) => decide (i = 4)
  | _ => false
/-- what else is told of the class -/
def moreB (K : PySem.W.Frag) (C : Addr) : Bool :=
  PySem.W.readsIn K C (.type "type") && (decide (PySem.W.specialIn K (.ref C) "__getattribute__" = some (some (.builtin "type.__getattribute__"))) && (He5.wrapB K C "classmethod" "classmethod.__get__" "of" && (PySem.W.fnIn K (He5.wf K C "classmethod" "of") &&
  (mostB K C && (emptyB K (kwa "fixed" K) && emptyB K (kwa "unique" K))))))
abbrev Seen : Type := Bool × He.AlD
def seenAt (n : Nat) (g : Addr → Option Obj) : Seen := (moreB (He.frG g (He5.asA g n)) (He.ga (He.frG g (He5.asA g n)) "Table"), He5.obsA plain defs (He.frG g (He5.asA g n)))
def Told (K : PySem.W.Frag) : Prop := moreB K (He.ga K "Table") = true ∧ He5.SaysA plain defs K
def hook (n : Nat) : PySem.W.Hook where
  α := Seen
  obs := fun s => seenAt n s.heap.get?
  val := fun _ => (true, He5.valA defs)
  says := fun _ h => ∃ K : PySem.W.Frag, K.In h ∧ Told K
  of := fun _ _ e => ⟨_, He.frG_in, congrArg Prod.fst e, congrArg Prod.snd e⟩
  keeps := fun _ _ _ ⟨K, hK, c⟩ k => ⟨K, PySem.W.Frag.In.keeps hK k, c⟩
abbrev Rw : PySem.W.OpenRow := PySem.W.OpenLaw.row PySem.Challenge.rw_speaklast_k10_rows_of_tables
abbrev hk : PySem.W.Hook := hook 6
def obT (s : PySem.W.SharedT) : Seen := seenAt 6 (HandSHeadRun.getT s)
theorem obT_eq (s : PySem.W.SharedT) : obT s = hk.obs s.abs := by
  have e : HandSHeadRun.getT s = s.abs.heap.get? := funext (HandSHeadRun.getT_eq s)
  unfold obT
  rw [e]
  rfl
def loose : List Str := ["FeedError", "InvalidTable", "is_number", "is_value", "is_name", "are_names", "sequence_of", "Table", "are_chosen", "in_order_of", "_law_pen", "_law_draw", "_law_some", "_law_value", "_law_wrong"]
theorem runs (w : World) : HandSHeadRun.RunEq Rw (PySem.W.view Rw.prog [19]) hk obT 4000 loose w := by
  intro os
  kernel_rfl
end Spk

set_option Elab.async false
set_option linter.all false
set_option maxRecDepth 100000
set_option maxHeartbeats 1000000
namespace Spk
open PySem L2
/-! ### the facts by name -/
theorem Told.fa {K : PySem.W.Frag} (c : Told K) (i : Nat) {f : He.Fa} (h : plain[i]? = some f) : f.ok K = true := He5.SaysA.fact c.2 i h
theorem Told.fn {K : PySem.W.Frag} (c : Told K) (i : Nat) {a : PySem.W.Frag → Addr} {x q : Str} {st : Stmt} (h : defs[i]? = some (dfn a x q st)) : ∃ fd, Fun K x q st (a K) fd := by
  obtain ⟨fd, F⟩ := He5.SaysA.def_ c.2 i h
  exact ⟨fd, He5.fun_of F⟩
structure ClsX (K : PySem.W.Frag) (C : Addr) : Prop where
  rd : ClX.CRead K C (.type "type")
  met : ClX.CMet K C (.type "type") "of" (He.ma K C "of") (He5.wf K C "classmethod" "of")
  most : ∃ u, ClX.CVal K C (.type "type") "MOST_COLUMNS" (.int 4) u
  e1 : ∀ H, TuS K H (kwa "fixed" K) []
  e2 : ∀ H, TuS K H (kwa "unique" K) []
theorem empty_ok {K : PySem.W.Frag} {a : Addr} (h : emptyB K a = true) (H : Hp) : TuS K H a [] := by
  unfold emptyB at h
  split at h
  · rename_i o ho
    obtain ⟨h1, h2⟩ := He.ba h
    have hc : o.cls = .type "tuple" := eq_of_beq h1
    split at h2
    · rename_i its n hd
      have hz : its.size = 0 := eq_of_beq h2
      have e : its.toList = [] := List.eq_nil_of_length_eq_zero (by simpa using hz)
      exact ⟨.inr ⟨o, its, n, ho, hc, hd, by omega, by rw [e]; exact .nil⟩, .kTuple ho hc⟩
    · cases h2
  · cases h
theorem most_ok {K : PySem.W.Frag} {C : Addr} (h : mostB K C = true) : ∃ u, ClX.CVal K C (.type "type") "MOST_COLUMNS" (.int 4) u := by
  unfold mostB at h
  split at h
  · rename_i i t hi
    have e : i = 4 := of_decide_eq_true h
    subst e
    exact ⟨_, hi, _, rfl⟩
  · cases h
theorem more_ok {K : PySem.W.Frag} {C : Addr} (h : moreB K C = true) : ClsX K C := by
  obtain ⟨h1, h⟩ := He.ba h
  obtain ⟨h2, h⟩ := He.ba h
  obtain ⟨h3, h⟩ := He.ba h
  obtain ⟨h4, h⟩ := He.ba h
  obtain ⟨h5, h⟩ := He.ba h
  obtain ⟨h6, h7⟩ := He.ba h
  exact ⟨⟨h1, of_decide_eq_true h2⟩, He5.cmet_of h3 h4, most_ok h5, fun H => empty_ok h6 H, fun H => empty_ok h7 H⟩
theorem facts {P : Program} {w : World} {K : PySem.W.Frag} {h : Heap} {mg : Str → Option Value} {f : Addr} (X : K.In h) (G : h.Ns mainGlobals mg) (hfa : mg ("law" : Str) = some (.ref f)) (c : Told K) :
    ∃ fd : FuncData, (∀ (s : Shared) (v : Value), BindsTo s fd ⟨[v], []⟩ [("_law_script", v)]) ∧ ∀ base : Heap, K.In base → base.Ns mainGlobals mg → FnOk P w K mg base CX0 6 f fd ["_law_script"] (sp_law K) := by
  have g_is_number := He.glo_ok X G (c.fa 0 (f := .glo "is_number") rfl)
  have g_is_value := He.glo_ok X G (c.fa 1 (f := .glo "is_value") rfl)
  have g_is_name := He.glo_ok X G (c.fa 2 (f := .glo "is_name") rfl)
  have g_are_names := He.glo_ok X G (c.fa 3 (f := .glo "are_names") rfl)
  have g_sequence_of := He.glo_ok X G (c.fa 4 (f := .glo "sequence_of") rfl)
  have g_are_chosen := He.glo_ok X G (c.fa 5 (f := .glo "are_chosen") rfl)
  have g_in_order_of := He.glo_ok X G (c.fa 6 (f := .glo "in_order_of") rfl)
  have g_pen := He.glo_ok X G (c.fa 7 (f := .glo "_law_pen") rfl)
  have g_draw := He.glo_ok X G (c.fa 8 (f := .glo "_law_draw") rfl)
  have g_some := He.glo_ok X G (c.fa 9 (f := .glo "_law_some") rfl)
  have g_value := He.glo_ok X G (c.fa 10 (f := .glo "_law_value") rfl)
  have g_wrong := He.glo_ok X G (c.fa 11 (f := .glo "_law_wrong") rfl)
  have g_law := He.glo_ok X G (c.fa 12 (f := .glo "law") rfl)
  have g_C := He.glo_ok X G (c.fa 13 (f := .glo "Table") rfl)
  have z_abs := He.free_ok X G (c.fa 14 (f := .free "abs") rfl)
  have z_all := He.free_ok X G (c.fa 15 (f := .free "all") rfl)
  have z_bool := He.free_ok X G (c.fa 16 (f := .free "bool") rfl)
  have z_enumerate := He.free_ok X G (c.fa 17 (f := .free "enumerate") rfl)
  have z_int := He.free_ok X G (c.fa 18 (f := .free "int") rfl)
  have z_isinstance := He.free_ok X G (c.fa 19 (f := .free "isinstance") rfl)
  have z_len := He.free_ok X G (c.fa 20 (f := .free "len") rfl)
  have z_list := He.free_ok X G (c.fa 21 (f := .free "list") rfl)
  have z_range := He.free_ok X G (c.fa 22 (f := .free "range") rfl)
  have z_set := He.free_ok X G (c.fa 23 (f := .free "set") rfl)
  have z_str := He.free_ok X G (c.fa 24 (f := .free "str") rfl)
  have z_tuple := He.free_ok X G (c.fa 25 (f := .free "tuple") rfl)
  have z_zip := He.free_ok X G (c.fa 26 (f := .free "zip") rfl)
  have cCl := He.cls_ok (c.fa 27 (f := .cls "Table") rfl)
  have cNo_columns := He.noat_ok (c.fa 28 (f := .noat "Table" "columns") rfl)
  have cNo_key := He.noat_ok (c.fa 29 (f := .noat "Table" "key") rfl)
  have cNo_fixed := He.noat_ok (c.fa 30 (f := .noat "Table" "fixed") rfl)
  have cNo_unique := He.noat_ok (c.fa 31 (f := .noat "Table" "unique") rfl)
  have cNo_reuse := He.noat_ok (c.fa 32 (f := .noat "Table" "reuse") rfl)
  have cMk := He.mkr_ok (c.fa 33 (f := .mkr "Table") rfl)
  have m_is_row := He.meth_ok (c.fa 34 (f := .meth "Table" "is_row") rfl)
  have m_key_of := He.meth_ok (c.fa 35 (f := .meth "Table" "key_of") rfl)
  have m_cut := He.meth_ok (c.fa 36 (f := .meth "Table" "cut") rfl)
  have cX := more_ok c.1
  obtain ⟨fd_is_number, F_is_number⟩ := c.fn 0 (a := at1 "is_number") (x := "is_number") (q := "is_number") (st := s_is_number) rfl
  have B_is_number := F_is_number.binds (ps := ["thing"]) fun _ _ _ _ _ _ us hl => match us, hl with | [_], _ => rfl
  obtain ⟨fd_is_value, F_is_value⟩ := c.fn 1 (a := at1 "is_value") (x := "is_value") (q := "is_value") (st := s_is_value) rfl
  have B_is_value := F_is_value.binds (ps := ["thing"]) fun _ _ _ _ _ _ us hl => match us, hl with | [_], _ => rfl
  obtain ⟨fd_is_name, F_is_name⟩ := c.fn 2 (a := at1 "is_name") (x := "is_name") (q := "is_name") (st := s_is_name) rfl
  have B_is_name := F_is_name.binds (ps := ["thing"]) fun _ _ _ _ _ _ us hl => match us, hl with | [_], _ => rfl
  obtain ⟨fd_are_names, F_are_names⟩ := c.fn 3 (a := at1 "are_names") (x := "are_names") (q := "are_names") (st := s_are_names) rfl
  have B_are_names := F_are_names.binds (ps := ["things"]) fun _ _ _ _ _ _ us hl => match us, hl with | [_], _ => rfl
  obtain ⟨fd_sequence_of, F_sequence_of⟩ := c.fn 4 (a := at1 "sequence_of") (x := "sequence_of") (q := "sequence_of") (st := s_sequence_of) rfl
  have B_sequence_of := F_sequence_of.binds (ps := ["things"]) fun _ _ _ _ _ _ us hl => match us, hl with | [_], _ => rfl
  obtain ⟨fd_are_chosen, F_are_chosen⟩ := c.fn 5 (a := at1 "are_chosen") (x := "are_chosen") (q := "are_chosen") (st := s_are_chosen) rfl
  have B_are_chosen := F_are_chosen.binds (ps := ["names", "columns"]) fun _ _ _ _ _ _ us hl => match us, hl with | [_, _], _ => rfl
  obtain ⟨fd_in_order_of, F_in_order_of⟩ := c.fn 6 (a := at1 "in_order_of") (x := "in_order_of") (q := "in_order_of") (st := s_in_order_of) rfl
  have B_in_order_of := F_in_order_of.binds (ps := ["columns", "names"]) fun _ _ _ _ _ _ us hl => match us, hl with | [_, _], _ => rfl
  obtain ⟨fd_pen, F_pen⟩ := c.fn 7 (a := at1 "_law_pen") (x := "_law_pen") (q := "_law_pen") (st := s_pen) rfl
  have B_pen := F_pen.binds (ps := ["_law_script"]) fun _ _ _ _ _ _ us hl => match us, hl with | [_], _ => rfl
  obtain ⟨fd_draw, F_draw⟩ := c.fn 8 (a := at1 "_law_draw") (x := "_law_draw") (q := "_law_draw") (st := s_draw) rfl
  have B_draw := F_draw.binds (ps := ["_law_pen_here", "_law_many"]) fun _ _ _ _ _ _ us hl => match us, hl with | [_, _], _ => rfl
  obtain ⟨fd_some, F_some⟩ := c.fn 9 (a := at1 "_law_some") (x := "_law_some") (q := "_law_some") (st := s_some) rfl
  have B_some := F_some.binds (ps := ["_law_pen_here", "_law_names", "_law_most"]) fun _ _ _ _ _ _ us hl => match us, hl with | [_, _, _], _ => rfl
  obtain ⟨fd_value, F_value⟩ := c.fn 10 (a := at1 "_law_value") (x := "_law_value") (q := "_law_value") (st := s_value) rfl
  have B_value := F_value.binds (ps := ["_law_pen_here", "_law_is_key"]) fun _ _ _ _ _ _ us hl => match us, hl with | [_, _], _ => rfl
  obtain ⟨fd_wrong, F_wrong⟩ := c.fn 11 (a := at1 "_law_wrong") (x := "_law_wrong") (q := "_law_wrong") (st := s_wrong) rfl
  have B_wrong := F_wrong.binds (ps := ["_law_pen_here", "_law_row", "_law_at"]) fun _ _ _ _ _ _ us hl => match us, hl with | [_, _, _], _ => rfl
  obtain ⟨fd_law, D_law⟩ := He5.SaysA.def_ c.2 12 (d := dfn (at1 "law") "law" "law" s_law) rfl
  have F_law : Fun K "law" "law" s_law (He.ga K "law") fd_law := He5.fun_of D_law
  have bl := FunD.bindsA (ps := ["_law_script"]) D_law fun _ _ _ _ _ _ us hl => match us, hl with | [_], _ => rfl
  obtain ⟨fd_init, F_init⟩ : ∃ fd, Fun K "__init__" "Table.__init__" s_Table__init (He.ma K (He.ga K "Table") "__init__") fd := c.fn 13 (a := atM "__init__") (x := "__init__") (q := "Table.__init__") (st := s_Table__init) rfl
  obtain ⟨fd_is_row, F_is_row⟩ : ∃ fd, Fun K "is_row" "Table.is_row" s_Table_is_row (He.ma K (He.ga K "Table") "is_row") fd := c.fn 14 (a := atM "is_row") (x := "is_row") (q := "Table.is_row") (st := s_Table_is_row) rfl
  have B_is_row := F_is_row.binds (ps := ["self", "thing"]) fun _ _ _ _ _ _ us hl => match us, hl with | [_, _], _ => rfl
  obtain ⟨fd_key_of, F_key_of⟩ : ∃ fd, Fun K "key_of" "Table.key_of" s_Table_key_of (He.ma K (He.ga K "Table") "key_of") fd := c.fn 15 (a := atM "key_of") (x := "key_of") (q := "Table.key_of") (st := s_Table_key_of) rfl
  have B_key_of := F_key_of.binds (ps := ["self", "row"]) fun _ _ _ _ _ _ us hl => match us, hl with | [_, _], _ => rfl
  obtain ⟨fd_cut, F_cut⟩ : ∃ fd, Fun K "cut" "Table.cut" s_Table_cut (He.ma K (He.ga K "Table") "cut") fd := c.fn 16 (a := atM "cut") (x := "cut") (q := "Table.cut") (st := s_Table_cut) rfl
  have B_cut := F_cut.binds (ps := ["self", "row", "columns"]) fun _ _ _ _ _ _ us hl => match us, hl with | [_, _, _], _ => rfl
  obtain ⟨fd_of, D_of⟩ := He5.SaysA.def_ c.2 17 (d := dfk (atC "of") "of" "Table.of" s_Table_of) rfl
  have F_of : Fun K "of" "Table.of" s_Table_of (He5.wf K (He.ga K "Table") "classmethod" "of") fd_of := He5.fun_of D_of
  generalize eC : He.ga K "Table" = C at *
  have e := hfa.symm.trans g_law
  cases e
  have T : ClsT K mg C (He.ma K C "__init__") (.type "type") _ _ := ⟨cCl, cNo_columns, cNo_key, cNo_fixed, cNo_unique, cNo_reuse, cMk, g_C, cX.rd, cX.met, cX.most⟩
  have CN : ClsN K C (He.ma K C "is_row") (He.ma K C "key_of") (He.ma K C "cut") := ⟨m_is_row, m_key_of, m_cut⟩
  refine ⟨fd_law, fun s v => bl s [v] rfl, fun base _ _ => ?_⟩
  have G_is_number := ok_is_number (P := P) (w := w) (mg := mg) (base := base) F_is_number z_isinstance z_int z_bool
  have G_is_value := ok_is_value (P := P) (w := w) (mg := mg) (base := base) F_is_value F_is_number B_is_number g_is_number G_is_number z_abs
  have G_is_name := ok_is_name (P := P) (w := w) (mg := mg) (base := base) F_is_name z_isinstance z_str z_len z_all
  have G_are_names := ok_are_names (P := P) (w := w) (mg := mg) (base := base) F_are_names F_is_name B_is_name g_is_name G_is_name z_len z_all z_set
  have G_sequence_of := ok_sequence_of (P := P) (w := w) (mg := mg) (base := base) F_sequence_of z_isinstance z_list z_tuple
  have G_are_chosen := ok_are_chosen (P := P) (w := w) (mg := mg) (base := base) F_are_chosen z_isinstance z_tuple z_str z_len z_all z_set
  have G_in_order_of := ok_in_order_of (P := P) (w := w) (mg := mg) (base := base) F_in_order_of z_tuple
  have FI := ok_tinit F_init T F_are_names B_are_names g_are_names G_are_names F_are_chosen B_are_chosen g_are_chosen G_are_chosen F_in_order_of B_in_order_of g_in_order_of G_in_order_of z_len
  have G_of := ok_tof F_of T FI F_sequence_of B_sequence_of g_sequence_of G_sequence_of
  obtain ⟨mv, hb_of⟩ := bn_of D_of
  have R_is_row : FnR P w K mg base CX0 3 (He.ma K C "is_row") (mR K C) := FnOk.raw (ok_is_row F_is_row T F_is_value B_is_value g_is_value G_is_value z_isinstance z_tuple z_len z_all z_zip) B_is_row .nil
  have R_cut : FnR P w K mg base CX0 1 (He.ma K C "cut") (mC K C) := FnOk.raw (ok_cut F_cut T z_tuple) B_cut .nil
  have R_key_of : FnR P w K mg base CX0 2 (He.ma K C "key_of") (mY C) := FnOk.raw (ok_key_of F_key_of T CN R_cut) B_key_of .nil
  have G_pen := ok_pen (P := P) (w := w) (mg := mg) (base := base) F_pen z_list
  have G_draw := ok_draw (P := P) (w := w) (mg := mg) (base := base) F_draw z_int z_len z_abs
  have G_some := ok_some F_some F_draw B_draw g_draw G_draw z_list z_len z_range z_tuple
  have G_value := ok_value F_value F_draw B_draw g_draw G_draw
  have G_wrong := ok_wrong F_wrong F_draw B_draw g_draw G_draw z_list z_len
  exact ok_law F_law T CN F_pen B_pen g_pen G_pen F_draw B_draw g_draw G_draw F_some B_some g_some G_some F_value B_value g_value G_value F_wrong B_wrong g_wrong G_wrong G_of hb_of cX.e1 cX.e2 R_is_row R_key_of R_cut z_range z_len z_tuple z_zip z_enumerate z_isinstance
end Spk
open PySem PySem.W PySem.Calls PyProof.Rows
theorem PySem.Challenge.cw_speaklast_k10_rows_of_tables_holds : PySem.Challenge.rw_speaklast_k10_rows_of_tables.Holds := by
  w_on; o_law
  refine HandSHeadRun.head_any (r := Spk.Rw) (q := view Spk.Rw.prog [19]) (H := Spk.hk) (ob := Spk.obT) (M := 4000) (loose := Spk.loose) (d := HandSHeadRun.topDef Spk.Rw.prog 19) (kwd := []) Spk.obT_eq
    (by kernel_rfl) (fun s => by kernel_rfl) Spk.runs (by kernel_rfl) (by kernel_rfl) (by kernel_rfl) (by rfl) (by first | assumption | decide +kernel) (by decide +kernel) ⟨rfl, rfl, rfl, rfl, rfl, by decide +kernel⟩ ?hw ?hc
  case hw => w_witness2
  case hc =>
    refine L2.walk_ofE (l := PySem.Challenge.rw_speaklast_k10_rows_of_tables) (n := 63) (k := 6) (x := "_law_script") (CX := L2.CX0) rfl (by decide) (by kernel_rfl) ⟨rfl, by decide, by decide⟩ ?F (fun _ _ _ _ z => z)
    intro w mg fa h Y G hmg0
    obtain ⟨K, KX, c⟩ := Y
    have hmg : mg ("law" : PySem.Str) = some (.ref fa) := by
      have e : (HandSHeadRun.topDef Spk.Rw.prog 19).name = ("law" : PySem.Str) := by kernel_rfl
      rw [← e]
      exact hmg0
    obtain ⟨fd, hb, hF⟩ := Spk.facts (P := (PySem.Challenge.rw_speaklast_k10_rows_of_tables).prog) (w := w) KX G hmg c
    exact ⟨K, fd, Spk.sp_law K, KX, hb, fun H a ns hl _ hS => ⟨a, ns, rfl, hS, hl, fun _ => rfl⟩, hF⟩

