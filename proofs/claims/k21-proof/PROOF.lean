import PyProof.Rows.All
import Wide.All
import OpenK.AllK
import Wide.FinOn
import PyProof.EqAt
import PyProof.EqKinds
import PyProof.TupleCall
import PyProof.CompFree
import PyProof.CompUse
import PyProof.ListMulRoad
import PyProof.Rows.EnumRows
import PyProof.ZipIter
import PyProof.Rows.Range3
import KE.KRevIter
import PyProof.RaisesMany
import PyProof.Rows.TopTwo
import PyProof.Rows.CatchOwn
import OpenK.KOwn
import KE.KIsAll
import PyProof.ExcAttrAll.ValueError
import PyProof.StrBlockH
import PyProof.Rows.StrWeight2
import KE.KMinBuiltin
import PyProof.Rows.CallKwBuiltin
import Lean
import PySem.Challenge.RW_primefold_k21_whole_split_or_prime
-- CHANGE: your row's module here,as the last of these rows
set_option bootstrap.genMatcherCode false
set_option Elab.async false
set_option linter.all false
set_option maxRecDepth 100000
namespace L2
open PySem PySem.Spec PyProof.Rows
noncomputable abbrev Key:=Sum Int Str
noncomputable def keyIs:Key→Value→Bool
  | .inl k,v=>Value.isInt k v
  | .inr x,v=>Value.isStrOf x v
noncomputable def keyH (w:World):Key→Int
  | .inl k=>hashInt k
  | .inr x=>hashStr w x
theorem keyIs_shape:∀ {k:Key} {v:Value},keyIs k v=true→(∃ i t,k=Sum.inl i∧v=Value.int i t)∨(∃ x t,k=Sum.inr x∧v=Value.str x t)
  | .inl i,v,h=>by
    obtain ⟨t,e⟩:=Value.isInt_shape (k:=i) (v:=v) h
    exact .inl ⟨i,t,rfl,e⟩
  | .inr x,v,h=>by
    obtain ⟨t,e⟩:=Value.isStrOf_shape (x:=x) (v:=v) h
    exact .inr ⟨x,t,rfl,e⟩
theorem keyIs_int (i:Int) (t:Tok):keyIs (.inl i) (.int i t)=true:=by simp [keyIs,Value.isInt]
theorem keyIs_str (x:Str) (t:Tok):keyIs (.inr x) (.str x t)=true:=by simp [keyIs,Value.isStrOf]
theorem key_ll (a b:Int):decide ((Sum.inl a:Key)=Sum.inl b)=(a == b):=by
  by_cases e:a=b
  · subst e; simp
  · have h:¬ (Sum.inl a:Key)=Sum.inl b:=fun q=>e (Sum.inl.inj q)
    rw [decide_eq_false h]
    exact (beq_eq_false_iff_ne.mpr e).symm
theorem key_rr (a b:Str):decide ((Sum.inr a:Key)=Sum.inr b)=decide (a=b):=by
  by_cases e:a=b
  · subst e; simp
  · have h:¬ (Sum.inr a:Key)=Sum.inr b:=fun q=>e (Sum.inr.inj q)
    rw [decide_eq_false h,decide_eq_false e]
theorem key_lr (a:Int) (b:Str):decide ((Sum.inl a:Key)=Sum.inr b)=false:=decide_eq_false (fun q=>nomatch q)
theorem key_rl (a:Str) (b:Int):decide ((Sum.inr a:Key)=Sum.inl b)=false:=decide_eq_false (fun q=>nomatch q)
noncomputable def mixKind (prog:Program) (w:World):PySem.KeyKind prog w Key where
  is:=keyIs
  hash:=keyH w
  inj:=fun v a b ha hb=>by
    rcases keyIs_shape ha with ⟨i,t,rfl,rfl⟩ | ⟨x,t,rfl,rfl⟩
    · rcases keyIs_shape hb with ⟨j,u,rfl,e⟩ | ⟨y,u,rfl,e⟩
      · injection e with e1 _; rw [e1]
      · exact nomatch e
    · rcases keyIs_shape hb with ⟨j,u,rfl,e⟩ | ⟨y,u,rfl,e⟩
      · exact nomatch e
      · injection e with e1 _; rw [e1]
  byValue:=fun k v h=>by
    rcases keyIs_shape h with ⟨i,t,rfl,rfl⟩ | ⟨x,t,rfl,rfl⟩ <;> rfl
  pyHash:=fun hv h=>by
    rcases keyIs_shape hv with ⟨i,t,rfl,rfl⟩ | ⟨x,t,rfl,rfl⟩
    · exact wpAny_pyHash_int h
    · exact wpAny_pyHash_str h
  eqBool:=fun hu hv h=>by
    rcases keyIs_shape hu with ⟨i,t,rfl,rfl⟩ | ⟨x,t,rfl,rfl⟩
    · rcases keyIs_shape hv with ⟨j,u,rfl,rfl⟩ | ⟨y,u,rfl,rfl⟩
      · rw [key_ll] at h; exact wpAny_eqBool_int h
      · rw [key_lr] at h; exact SeqAt.EqAt.int_str i t y u _ _ _ _ h
    · rcases keyIs_shape hv with ⟨j,u,rfl,rfl⟩ | ⟨y,u,rfl,rfl⟩
      · rw [key_rl] at h; exact SeqAt.EqAt.str_int x t j u _ _ _ _ h
      · rw [key_rr] at h; exact wpAny_eqBool_str h
  «strs»:=fun k x t v h=>by
    rcases keyIs_shape h with ⟨i,u,rfl,e⟩ | ⟨y,u,rfl,e⟩
    · exact nomatch e
    · injection e with e1 _
      subst e1
      cases v <;> rfl
theorem mixKind_int (prog:Program) (w:World) (i:Int) (t:Tok):(mixKind prog w).is (.inl i) (.int i t)=true:=keyIs_int i t
theorem mixKind_str (prog:Program) (w:World) (x:Str) (t:Tok):(mixKind prog w).is (.inr x) (.str x t)=true:=keyIs_str x t
end L2
namespace L2
open PySem PySem.Spec PyProof.Rows
inductive V where
  | non | bl (b:Bool) | int (i:Int) | str (x:Str) | byt (b:Array UInt8) | flt (b:UInt64) | ref (a:Addr) | ty (n:String)
  deriving DecidableEq
noncomputable def RelV:V→Value→Prop
  | .non,u=>u=Value.none
  | .bl b,u=>u=Value.bool b
  | .int i,u=>∃ t,u=Value.int i t
  | .str x,u=>∃ t,u=Value.str x t
  | .byt b,u=>∃ t,u=Value.bytes b t
  | .flt b,u=>∃ t,u=Value.float b t
  | .ref a,u=>u=Value.ref a
  | .ty n,u=>u=Value.type n
noncomputable abbrev Vals:List V→List Value→Prop:=Paired RelV
theorem Vals.length {xs:List V} {us:List Value} (r:Vals xs us):xs.length=us.length:=Paired.length r
theorem Vals.get:∀ {xs:List V} {us:List Value} {i:Nat} {x:V},Vals xs us→xs[i]?=some x→∃ u,us[i]?=some u∧RelV x u
  | _,_,_,_,.nil,e=>by simp at e
  | _,_,0,_,.cons r _,e=>by simp at e; subst e; exact ⟨_,rfl,r⟩
  | _,_,i + 1,x,.cons _ t,e=>by
    obtain ⟨u,h1,h2⟩:=Vals.get (i:=i) (x:=x) t (by simpa using e)
    exact ⟨u,by simpa using h1,h2⟩
theorem Vals.set {x:V} {u:Value} (r:RelV x u):∀ {xs:List V} {us:List Value} (i:Nat),Vals xs us→Vals (xs.set i x) (us.set i u)
  | _,_,_,.nil=>.nil
  | _,_,0,.cons _ t=>.cons r t
  | _,_,i + 1,.cons q t=>.cons q (Vals.set r i t)
theorem Vals.append:∀ {xs ys:List V} {us ws:List Value},Vals xs us→Vals ys ws→Vals (xs ++ ys) (us ++ ws)
  | _,_,_,_,.nil,s=>s
  | _,_,_,_,.cons r t,s=>.cons r (Vals.append t s)
theorem Vals.take:∀ {xs:List V} {us:List Value} (n:Nat),Vals xs us→Vals (xs.take n) (us.take n)
  | _,_,0,_=>.nil
  | _,_,_ + 1,.nil=>.nil
  | _,_,n + 1,.cons r t=>.cons r (Vals.take n t)
theorem Vals.drop:∀ {xs:List V} {us:List Value} (n:Nat),Vals xs us→Vals (xs.drop n) (us.drop n)
  | _,_,0,r=>r
  | _,_,_ + 1,.nil=>.nil
  | _,_,n + 1,.cons _ t=>Vals.drop n t
theorem Vals.none_of:∀ {xs:List V} {us:List Value} {i:Nat},Vals xs us→xs[i]?=none→us[i]?=none:=fun {xs us i} r e=>by
  have h1:=r.length
  have h2:xs.length ≤ i:=List.getElem?_eq_none_iff.mp e
  exact List.getElem?_eq_none_iff.mpr (by omega)
noncomputable def RelO:Option V→Option Value→Prop
  | some v,some u=>RelV v u
  | none,none=>True
  | _,_=>False
noncomputable def KV {κ:Type}:List (κ × V)→List (κ × Value)→Prop:=Paired fun (p:κ × V) (q:κ × Value)=>p.1=q.1∧RelV p.2 q.2
noncomputable def kV:Key→V
  | .inl i=>.int i
  | .inr x=>.str x
inductive HO where
  | lst (xs:List V)
  | tup (xs:List V)
  | dK (kvs:List (Key × V)) | dT (kvs:List (List Key × V))
  | set (S:Int→Bool) (n:Nat)
  | ins (C dx:Addr) (fs:List (Str × V))
  | own (x:Addr)
  | xd (fs:List (Str × V))
  | met (f x:Addr)
  | rng (lo hi:Int)
  | frz (o:Obj) (u:HO)
  | tbl (ps:Array Value)
  | ext (φ:Heap→Prop)
noncomputable abbrev Hp:=Addr→Option HO
noncomputable def upd (H:Hp) (a:Addr) (o:HO):Hp:=fun b=>if b=a then some o else H b
theorem upd_same {H:Hp} {a:Addr} {o:HO}:upd H a o a=some o:=by unfold upd; rw [if_pos rfl]
theorem upd_ne {H:Hp} {a b:Addr} {o:HO} (h:b ≠ a):upd H a o b=H b:=by unfold upd; rw [if_neg h]
theorem upd_upd {H:Hp} {a:Addr} {o u:HO}:upd (upd H a o) a u=upd H a u:=by
  funext b; unfold upd; split <;> rfl
theorem ne_of {H:Hp} {a b:Addr} {o u:HO} (h:H a=some o) (h':H b=some u) (d:o ≠ u):a ≠ b:=by
  intro e; subst e; rw [h] at h'; exact d (Option.some.inj h')
theorem ne_of_none {H:Hp} {a b:Addr} {o:HO} (h:H a=some o) (h':H b=none):a ≠ b:=by
  intro e; subst e; rw [h] at h'; cases h'
section
variable (P:Program) (w:World)
noncomputable def ObjOk (H:Hp) (h:Heap) (a:Addr):HO→Prop
  | .lst xs=>xs.length ≤ sizeLine∧∃ (its:List Value) (n:Nat),Vals xs its∧h.get? a=some { cls:=.type "list",data:=.seq its.toArray n }
  | .tup xs=>xs.length ≤ sizeLine∧∃ its:List Value,Vals xs its∧IsTup h a its.toArray
  | .dK kvs=>kvs.length ≤ sizeLine∧(a == sysModules)=false∧∃ vs,KV kvs vs∧h.DictOf (mixKind P w) a vs
  | .dT kvs=>kvs.length ≤ sizeLine∧(a == sysModules)=false∧∃ xs:List (List Key × Addr × Value),
      Paired (fun (p:List Key × V) (q:List Key × Addr × Value)=>p.1=q.1∧H q.2.1=some (.tup (p.1.map kV))∧RelV p.2 q.2.2) kvs xs∧
      ∃ o es ep,h.get? a=some o∧o.ExactDict∧o.data=.dict es ep∧es.toList=xs.map (entryOfKey (tupleKind (mixKind P w)))∧(xs.map (·.1)).Nodup
  | .set S n=>h.SetOf (intKind P w) a S n
  | .ins C dx fs=>H dx=some (.own a)∧fs.length ≤ 1000∧dx ≠ a∧h.get? a=some (PySem.W.instObj C dx)∧
      ∃ mA,h.Ns1 dx mA∧(∀ f,RelO (fs.lookup f) (mA f))∧PySem.Within mA (fs.map (·.1))
  | .own _=>∃ o,h.get? a=some o
  | .xd fs=>∃ mA,h.Ns1 a mA∧∀ f,RelO (fs.lookup f) (mA f)
  | .rng lo hi=>∃ t u v,h.get? a=some { cls:=.type "range",data:=.fields #[.int lo t,.int hi u,.int 1 v] }
  | .frz o u=>h.get? a=some o∧ObjOk H h a u
  | .tbl ps=>h.get? a=some { cls:=.none,data:=.fields ps }
  | .met f x=>h.get? a=some (PySem.W.methodObj (.ref f) (.ref x))
  | .ext φ=>φ h∧(∃ o,h.get? a=some o)∧∀ h1 h2:Heap,φ h1→(∀ o,h1.get? a=some o→h2.get? a=some o)→φ h2
noncomputable def HOk (H:Hp) (h:Heap):Prop:=∀ a o,H a=some o→ObjOk P w H h a o
end
section
variable {P:Program} {w:World} {H H':Hp} {h h':Heap} {a:Addr} {o:HO}
theorem ObjOk.lt (x:ObjOk P w H h a o):a < h.objs.size:=by
  cases o with
  | lst xs=>obtain ⟨_,_,_,_,e⟩:=x; exact Heap.lt_size e
  | tup xs=>obtain ⟨_,_,_,p⟩:=x; exact p.lt
  | dK kvs=>obtain ⟨_,_,_,_,o,_,_,e,_⟩:=x; exact Heap.lt_size e
  | dT kvs=>obtain ⟨_,_,_,_,o,_,_,e,_⟩:=x; exact Heap.lt_size e
  | set S n=>obtain ⟨o,_,_,_,e,_⟩:=x; exact Heap.lt_size e
  | ins C dx fs=>obtain ⟨_,_,_,e,_⟩:=x; exact Heap.lt_size e
  | own y=>obtain ⟨_,e⟩:=x; exact Heap.lt_size e
  | xd fs=>obtain ⟨_,⟨_,_,_,e,_⟩,_⟩:=x; exact Heap.lt_size e
  | rng lo hi=>obtain ⟨_,_,_,e⟩:=x; exact Heap.lt_size e
  | frz ob u=>obtain ⟨e,_⟩:=x; exact Heap.lt_size e
  | tbl ps=>exact Heap.lt_size (show h.get? a=some _ from x)
  | met f y=>exact Heap.lt_size (show h.get? a=some _ from x)
  | ext φ=>obtain ⟨_,⟨_,e⟩,_⟩:=x; exact Heap.lt_size e
theorem Paired.mapP {α β:Type} {F G:α→β→Prop}:∀ {l₁:List α} {l₂:List β},Paired F l₁ l₂→(∀ a b,F a b→G a b)→Paired G l₁ l₂
  | _,_,.nil,_=>.nil
  | _,_,.cons r t,f=>.cons (f _ _ r) (Paired.mapP t f)
theorem ObjOk.stay (x:ObjOk P w H h a o) (k:∀ b u,(b=a∨H b=some (.own a))→h.get? b=some u→h'.get? b=some u)
    (ho:∀ b,H b=some (.own a)→H' b=some (.own a)) (ht:∀ b xs,H b=some (.tup xs)→H' b=some (.tup xs)):ObjOk P w H' h' a o:=by
  induction o with
  | lst xs=>obtain ⟨z,its,n,r,e⟩:=x; exact ⟨z,its,n,r,k _ _ (.inl rfl) e⟩
  | tup xs=>obtain ⟨z,its,r,ob,e,c⟩:=x; exact ⟨z,its,r,ob,k _ _ (.inl rfl) e,c⟩
  | dK kvs=>obtain ⟨z,y,vs,r,ob,es,ep,e,c⟩:=x; exact ⟨z,y,vs,r,ob,es,ep,k _ _ (.inl rfl) e,c⟩
  | dT kvs=>
    obtain ⟨z,y,xs,r,ob,es,ep,e,c⟩:=x
    exact ⟨z,y,xs,Paired.mapP r fun p q z=>⟨z.1,ht _ _ z.2.1,z.2.2⟩,ob,es,ep,k _ _ (.inl rfl) e,c⟩
  | set S n=>obtain ⟨ob,es,ep,t,e,c⟩:=x; exact ⟨ob,es,ep,t,k _ _ (.inl rfl) e,c⟩
  | ins C dx fs=>
    obtain ⟨d,z,ne,e,mA,⟨od,es,ep,e2,c⟩,r⟩:=x
    exact ⟨ho _ d,z,ne,k _ _ (.inl rfl) e,mA,⟨od,es,ep,k _ _ (.inr d) e2,c⟩,r⟩
  | own y=>obtain ⟨ob,e⟩:=x; exact ⟨ob,k _ _ (.inl rfl) e⟩
  | xd fs=>obtain ⟨mA,⟨od,es,ep,e,c⟩,r⟩:=x; exact ⟨mA,⟨od,es,ep,k _ _ (.inl rfl) e,c⟩,r⟩
  | rng lo hi=>obtain ⟨t,u,v,e⟩:=x; exact ⟨t,u,v,k _ _ (.inl rfl) e⟩
  | frz ob u ih=>obtain ⟨e,q⟩:=x; exact ⟨k _ _ (.inl rfl) e,ih q⟩
  | tbl ps=>
    have e:h.get? a=some { cls:=.none,data:=.fields ps }:=x
    show h'.get? a=some { cls:=.none,data:=.fields ps }
    exact k a _ (.inl rfl) e
  | met f y=>
    have e:h.get? a=some (PySem.W.methodObj (.ref f) (.ref y)):=x
    show h'.get? a=some (PySem.W.methodObj (.ref f) (.ref y))
    exact k a _ (.inl rfl) e
  | ext φ=>obtain ⟨p,⟨o,e⟩,st⟩:=x; exact ⟨st _ _ p fun o q=>k _ _ (.inl rfl) q,⟨o,k _ _ (.inl rfl) e⟩,st⟩
theorem HOk.lt (x:HOk P w H h) (e:H a=some o):a < h.objs.size:=(x a o e).lt
theorem HOk.fresh (x:HOk P w H h) (e:h.objs.size ≤ a):H a=none:=by
  cases q:H a with
  | none=>rfl
  | some u=>exact absurd (Nat.lt_of_lt_of_le (x.lt q) e) (Nat.lt_irrefl _)
theorem HOk.kept (x:HOk P w H h) (k:∀ b u,h.get? b=some u→h'.get? b=some u):HOk P w H h':=fun a o e=>
  (x a o e).stay (fun b u _ q=>k b u q) (fun _ q=>q) fun _ _ q=>q
theorem HOk.laid (x:HOk P w H h) (k:∀ b u,h.get? b=some u→h'.get? b=some u) (hp:h.objs.size ≤ a) (new:ObjOk P w (upd H a o) h' a o):HOk P w (upd H a o) h':=fun b u e=>by
  have hn:=x.fresh hp
  by_cases hb:b=a
  · subst hb; rw [upd_same] at e; cases e; exact new
  · rw [upd_ne hb] at e
    exact (x b u e).stay (fun c v _ q=>k c v q) (fun c q=>by rw [upd_ne (ne_of_none q hn)]; exact q) fun c xs q=>by rw [upd_ne (ne_of_none q hn)]; exact q
end
noncomputable def Rd (H:Hp) (a:Addr) (u:HO):Prop:=H a=some u∨∃ o,H a=some (.frz o u)
theorem Rd.ok {P:Program} {w:World} {H:Hp} {h:Heap} {a:Addr} {u:HO} (r:Rd H a u) (x:HOk P w H h):ObjOk P w H h a u:=by
  rcases r with r | ⟨o,r⟩
  · exact x a u r
  · obtain ⟨_,q⟩:=x a _ r
    exact q
noncomputable def Mut:Option HO→Prop
  | some (.lst _)=>True
  | some (.dK _)=>True
  | some (.dT _)=>True
  | some (.set _ _)=>True
  | some (.ins _ _ _)=>True
  | some (.ext _)=>True
  | _=>False
section
variable {P:Program} {w:World} {H:Hp} {h h':Heap} {x e:Addr} {o':HO}
theorem HOk.write (ok:HOk P w H h) (mu:Mut (H x)) (he:e=x∨H e=some (.own x)) (k:∀ b u,b ≠ e→h.get? b=some u→h'.get? b=some u) (heo:∃ u,h'.get? e=some u)
    (new:ObjOk P w (upd H x o') h' x o'):HOk P w (upd H x o') h':=fun b u q=>by
  have nown:∀ c y,H c=some (.own y)→c ≠ x:=fun c y r z=>by subst z; rw [r] at mu; exact mu
  have ntup:∀ c xs,H c=some (.tup xs)→c ≠ x:=fun c xs r z=>by subst z; rw [r] at mu; exact mu
  by_cases hb:b=x
  · subst hb; rw [upd_same] at q; cases q; exact new
  · rw [upd_ne hb] at q
    by_cases hbe:b=e
    · have q':H b=some (.own x):=by
        rcases he with z | z
        · exact absurd (hbe.trans z) hb
        · rw [hbe]; exact z
      rw [q] at q'; cases q'
      obtain ⟨v,hv⟩:=heo
      exact ⟨v,by rw [hbe]; exact hv⟩
    · refine (ok b u q).stay (fun c v hc r=>k c v ?_ r) (fun c r=>by rw [upd_ne (nown c b r)]; exact r) fun c xs r=>by rw [upd_ne (ntup c xs r)]; exact r
      rcases hc with rfl | hc
      · exact hbe
      · rintro rfl
        rcases he with z | z
        · exact nown c b hc z
        · rw [hc] at z; cases z; exact hb rfl
end
structure Un (fs ex:List Addr) (H H':Hp) (h h':Heap):Prop where
  keep:∀ b o,h.get? b=some o→H b=none→b ∉ fs→b ∉ ex→h'.get? b=some o
  slot:∀ b o,h.get? b=some o→H b=none→b ∈ fs→b ∉ ex→∃ sl,h'.get? b=some { o with slots:=sl }
  free:∀ b o,h.get? b=some o→H b=none→b ∉ ex→H' b=none
  there:∀ b o,h.get? b=some o→b ∉ ex→∃ o',h'.get? b=some o'
  tups:∀ b xs,H b=some (.tup xs)→H' b=some (.tup xs)
  frzs:∀ b o u,H b=some (.frz o u)→H' b=some (.frz o u)
  tbls:∀ b ps,H b=some (.tbl ps)→∃ more,H' b=some (.tbl (ps ++ more))
section
variable {fs fs' ex ex':List Addr} {H H1 H2:Hp} {h h1 h2 h':Heap} {a x e:Addr} {o:HO}
theorem Un.any (u:Un fs ex H H1 h h1) {b:Addr} {ob:Obj} (q:h.get? b=some ob) (n:H b=none) (hx:b ∉ ex):∃ sl,h1.get? b=some { ob with slots:=sl }:=by
  by_cases hb:b ∈ fs
  · exact u.slot b ob q n hb hx
  · exact ⟨ob.slots,u.keep b ob q n hb hx⟩
theorem Un.trans (a:Un fs ex H H1 h h1) (b:Un fs ex H1 H2 h1 h2):Un fs ex H H2 h h2 where
  keep:=fun c ob q n hc hx=>b.keep c ob (a.keep c ob q n hc hx) (a.free c ob q n hx) hc hx
  slot:=fun c ob q n hc hx=>by
    obtain ⟨sl,e1⟩:=a.slot c ob q n hc hx
    obtain ⟨sl',e2⟩:=b.slot c _ e1 (a.free c ob q n hx) hc hx
    exact ⟨sl',e2⟩
  free:=fun c ob q n hx=>by
    obtain ⟨o',e1⟩:=a.there c ob q hx
    exact b.free c o' e1 (a.free c ob q n hx) hx
  there:=fun c ob q hx=>by
    obtain ⟨o',e1⟩:=a.there c ob q hx
    exact b.there c o' e1 hx
  tups:=fun c xs q=>b.tups c xs (a.tups c xs q)
  frzs:=fun c ob xs q=>b.frzs c ob xs (a.frzs c ob xs q)
  tbls:=fun c ps q=>by
    obtain ⟨m1,e1⟩:=a.tbls c ps q
    obtain ⟨m2,e2⟩:=b.tbls c _ e1
    exact ⟨m1 ++ m2,by rw [e2,Array.append_assoc]⟩
theorem Un.kept (k:∀ b u,h.get? b=some u→h'.get? b=some u):Un fs ex H H h h':=
  ⟨fun b ob q _ _ _=>k b ob q,fun b ob q _ _ _=>⟨ob.slots,k b ob q⟩,fun _ _ _ n _=>n,fun b ob q _=>⟨ob,k b ob q⟩,fun _ _ q=>q,fun _ _ _ q=>q,fun _ ps q=>⟨#[],by rw [q]; simp⟩⟩
theorem Un.refl:Un fs ex H H h h:=Un.kept fun _ _ q=>q
theorem Un.laid (k:∀ b u,h.get? b=some u→h'.get? b=some u) (hp:h.objs.size ≤ a) (hn:H a=none):Un fs ex H (upd H a o) h h' where
  keep:=fun b u q _ _ _=>k b u q
  slot:=fun b u q _ _ _=>⟨u.slots,k b u q⟩
  free:=fun b u q n _=>by rw [upd_ne (Nat.ne_of_lt (Nat.lt_of_lt_of_le (Heap.lt_size q) hp))]; exact n
  there:=fun b u q _=>⟨u,k b u q⟩
  tups:=fun b xs q=>by rw [upd_ne (ne_of_none q hn)]; exact q
  frzs:=fun b u xs q=>by rw [upd_ne (ne_of_none q hn)]; exact q
  tbls:=fun b ps q=>⟨#[],by rw [upd_ne (ne_of_none q hn),q]; simp⟩
theorem Un.write (mu:Mut (H x)) (he:e=x∨H e=some (.own x)) (k:∀ b u,b ≠ e→h.get? b=some u→h'.get? b=some u) (heo:∃ u,h'.get? e=some u):Un fs ex H (upd H x o) h h':=by
  have hx:∀ b,H b=none→b ≠ x:=fun b n z=>by subst z; rw [n] at mu; exact mu
  have hb:∀ b,H b=none→b ≠ e:=fun b n z=>by
    subst z
    rcases he with r | r
    · exact hx b n r
    · rw [n] at r; cases r
  have hm:∀ b u,H b=some u→¬ Mut (some u)→b ≠ x:=fun b u q nm z=>by subst z; rw [q] at mu; exact nm mu
  refine ⟨fun b u q n _ _=>k b u (hb b n) q,fun b u q n _ _=>⟨u.slots,k b u (hb b n) q⟩,fun b u q n _=>by rw [upd_ne (hx b n)]; exact n,fun b u q _=>?_,
    fun b xs q=>by rw [upd_ne (hm b _ q fun z=>z)]; exact q,fun b u xs q=>by rw [upd_ne (hm b _ q fun z=>z)]; exact q,fun b ps q=>⟨#[],by rw [upd_ne (hm b _ q fun z=>z),q]; simp⟩⟩
  by_cases hbe:b=e
  · subst hbe; exact heo
  · exact ⟨u,k b u hbe q⟩
end
noncomputable def trk (h:Heap) (H:Hp):List Addr:=(List.range h.objs.size).filter fun a=>(H a).isSome
noncomputable def hidT (h:Heap) (H:Hp):Heap:=PySem.W.hideAll h (trk h H)
theorem hidT_size (h:Heap) (H:Hp):(hidT h H).objs.size=h.objs.size:=PySem.W.hideAll_size _ _
theorem hidT_get {h:Heap} {H:Hp} {b:Addr} {o:Obj} (e:h.get? b=some o) (n:H b=none):(hidT h H).get? b=some o:=
  PySem.W.hideAll_get _ e fun hm=>by
    have q:(H b).isSome=true:=(List.mem_filter.mp hm).2
    rw [n] at q; simp at q
theorem of_hidT {h:Heap} {H:Hp} {b:Addr} {o:Obj} (e:(hidT h H).get? b=some o):h.get? b=some o∧H b=none:=by
  have e':h.get? b=some o:=PySem.W.of_hideAll (trk h H) e
  refine ⟨e',?_⟩
  cases q:H b with
  | none=>rfl
  | some x=>
    have hm:b ∈ trk h H:=List.mem_filter.mpr ⟨List.mem_range.mpr (Heap.lt_size e'),by simp [q]⟩
    have z:(hidT h H).get? b=none:=PySem.W.hideAll_none (trk h H) hm
    rw [z] at e; cases e
noncomputable def allNews (g h:Heap) (L:Addr):List (Addr × Obj):=(List.range h.objs.size).filterMap fun a=>if a=L∨(g.get? a).isSome=true then none else (h.get? a).map fun o=>(a,o)
theorem mem_allNews {g h:Heap} {L a:Addr} {o:Obj} (h1:a ≠ L) (h2:g.get? a=none) (h3:h.get? a=some o):(a,o) ∈ allNews g h L:=
  List.mem_filterMap.mpr ⟨a,List.mem_range.mpr (Heap.lt_size h3),by simp [h1,h2,h3]⟩
theorem of_mem_allNews {g h:Heap} {L:Addr} {p:Addr × Obj} (hp:p ∈ allNews g h L):p.1 ≠ L∧g.get? p.1=none∧h.get? p.1=some p.2:=by
  obtain ⟨b,_,e⟩:=List.mem_filterMap.mp hp
  split at e
  · cases e
  · rename_i hn
    cases q:h.get? b with
    | none=>rw [q] at e; simp at e
    | some u=>
      rw [q] at e
      simp only [Option.map_some,Option.some.injEq] at e
      subst e
      refine ⟨fun z=>hn (.inl z),?_,q⟩
      show g.get? b=none
      cases r:g.get? b with
      | none=>rfl
      | some v=>exact (hn (.inr (by simp [r]))).elim
noncomputable def rest (g h:Heap) (L d:Addr):List (Addr × Obj):=(allNews g h L).filter fun p=>decide (p.1 ≠ d)
theorem news_all {g h:Heap} {L:Addr}:News g L h (allNews g h L):=fun p hp=>let ⟨a,b,c⟩:=of_mem_allNews hp; ⟨c,a,b⟩
end L2
namespace L2
open PySem PySem.Spec PyProof.Rows
structure Mod (K:PySem.W.Frag) (mg:Str→Option Value) (base:Heap):Prop where
  kin:K.In base
  glob:base.Ns mainGlobals mg
  blt:∃ mb,base.Ns builtinsNs mb∧∀ x:Str,x ≠ "__name__" → mb x=bootBuiltins x
  nolimit:base.NoLimit
structure Cx where
  prog:Program
  w:World
  K:PySem.W.Frag
  mg:Str→Option Value
  base:Heap
  A:Around
  N:List Str
  s₀:Shared
  H₀:Hp
  env:Env
  outer:List Env
  stack:List Env
  ex:List Addr
  fn:Str→Bool
  calm:Bool
  pn:List (Addr × Obj)
  xe:Value→Shared→Prop
noncomputable def frs (l:List Env):List Addr:=l.filterMap (·.frame)
noncomputable abbrev Cx.fs (X:Cx):List Addr:=frs X.outer
noncomputable def Vis (sc:Scope) (x:Str):Prop:=sc.names.lookup x=some .local∨sc.names.lookup x=some .cell∨sc.names.lookup x=some .free
noncomputable def Loc (sc:Scope) (x:Str):Prop:=sc.names.lookup x=some .local∨sc.names.lookup x=some .cell
noncomputable def Look (env:Env) (h:Heap) (m:Str→Option Value) (x:Str) (u:Value):Prop:=
  (env.kindOf x=some .local∧m x=some u)∨((env.kindOf x=some .cell∨env.kindOf x=some .free)∧∃ c,env.cells.lookup x=some c∧h.IsCell c (some u))
structure Cx.Ok (X:Cx):Prop where
  mod:Mod X.K X.mg X.base
  kind:X.env.scope.kind=.function
  glob:X.env.globals=mainGlobals
  blt:X.env.builtins=builtinsNs
  above:X.s₀.heap.objs.size ≤ X.env.locals
  inj:∀ x y c,X.env.cells.lookup x=some c→X.env.cells.lookup y=some c→x=y
  has:∀ x,(X.env.kindOf x=some .cell∨X.env.kindOf x=some .free)→∃ c,X.env.cells.lookup x=some c
  cab:∀ x c,X.fn x=true→X.env.cells.lookup x=some c→X.s₀.heap.objs.size ≤ c
  hd:X.calm=true→X.A.handled=none
  frames:X.A.frames=some X.stack
  stk:X.stack=X.outer∨(X.stack=X.env :: X.outer∧X.env.frame=some X.env.locals)
  exf:∀ b ∈ X.ex,b ≠ X.env.locals∧∀ x c,X.env.cells.lookup x=some c→c ≠ b
  bs:∀ b o,X.base.get? b=some o→X.s₀.heap.get? b=some o∧X.H₀ b=none
  bsz:X.base.objs.size ≤ X.s₀.heap.objs.size
  noex:∀ b o,X.base.get? b=some o→b ∉ X.ex
  exfs:∀ b ∈ X.ex,b ∉ X.fs
  funs:X.s₀.heap.FunFrames X.base X.outer
  frf:∀ b ∈ X.fs,X.H₀ b=none
structure Inv (X:Cx) (pins:List (Addr × Obj)) (σ:List (Option V)) (H:Hp) (s:Shared):Prop where
  ok:X.Ok
  os:s.os=X.s₀.os
  bare:AllBare s.gens
  base:Un X.fs X.ex X.H₀ H X.s₀.heap s.heap
  loc:∃ m,s.heap.Ns X.env.locals m∧∀ (i:Nat) (x:Str) (v:V),X.N[i]?=some x→σ[i]?=some (some v)→Vis X.env.scope x→∃ u,RelV v u∧Look X.env s.heap m x u
  cell:∀ x c,X.env.cells.lookup x=some c→∃ v,s.heap.IsCell c v
  free:H X.env.locals=none
  freeC:∀ x c,X.env.cells.lookup x=some c→H c=none
  pin:∀ p ∈ X.pn ++ pins,s.heap.get? p.1=some p.2∧H p.1=none∧p.1 ≠ X.env.locals∧p.1 ∉ X.fs∧∀ v,p.2.data ≠ .cell v
  hok:HOk X.prog X.w H s.heap
  len:σ.length=X.N.length
section
variable {X:Cx} {pins:List (Addr × Obj)} {σ:List (Option V)} {H H':Hp} {s:Shared} {h':Heap}
theorem Cx.Ok.nofr (ok:X.Ok) {b:Addr} {o:Obj} (e:X.base.get? b=some o):b ∉ X.fs:=fun hb=>by
  have:=(ok.funs.mem hb).1
  rw [e] at this; cases this
theorem Inv.bs (I:Inv X pins σ H s):∀ b o,X.base.get? b=some o→s.heap.get? b=some o∧H b=none:=fun b o e=>
  ⟨I.base.keep b o (I.ok.bs b o e).1 (I.ok.bs b o e).2 (I.ok.nofr e) (I.ok.noex b o e),I.base.free b o (I.ok.bs b o e).1 (I.ok.bs b o e).2 (I.ok.noex b o e)⟩
theorem Inv.bk (I:Inv X pins σ H s):∀ b o,X.base.get? b=some o→s.heap.get? b=some o:=fun b o e=>(I.bs b o e).1
theorem Inv.mod (I:Inv X pins σ H s):Mod X.K X.mg X.base:=I.ok.mod
theorem Inv.kIn (I:Inv X pins σ H s):X.K.In s.heap:=I.ok.mod.kin.keeps I.bk
theorem Inv.lt (I:Inv X pins σ H s):X.env.locals < s.heap.objs.size:=let ⟨_,hn,_⟩:=I.loc; hn.lt
theorem Inv.sz (I:Inv X pins σ H s):X.s₀.heap.objs.size ≤ s.heap.objs.size:=Nat.le_trans I.ok.above (Nat.le_of_lt I.lt)
theorem Inv.nofs (I:Inv X pins σ H s) {a:Addr} (h:s.heap.objs.size ≤ a):a ∉ X.fs:=fun hb=>by
  obtain ⟨_,o,ho,_⟩:=I.ok.funs.mem hb
  exact absurd (Nat.lt_of_lt_of_le (Heap.lt_size ho) (Nat.le_trans I.sz h)) (Nat.lt_irrefl _)
theorem Inv.cne (I:Inv X pins σ H s):∀ x c,X.env.cells.lookup x=some c→c ≠ X.env.locals:=fun x c e z=>by
  obtain ⟨v,o,ho,hd⟩:=I.cell x c e
  obtain ⟨m,⟨o',es,ep,ho',hd',_⟩,_⟩:=I.loc
  rw [z,ho'] at ho; cases ho; rw [hd'] at hd; cases hd
theorem Inv.funs (I:Inv X pins σ H s):s.heap.FunFrames X.base X.outer:=by
  have all:∀ (l:List Env),(∀ b ∈ frs l,b ∈ X.fs)→X.s₀.heap.FunFrames X.base l→s.heap.FunFrames X.base l:=by
    intro l
    induction l with
    | nil=>intro _ _; trivial
    | cons env r ih=>
      intro hs hl
      obtain ⟨hk,⟨L,o,hf,hn,ho,hd⟩,hr⟩:=hl
      have hL:L ∈ X.fs:=hs L (by unfold frs; rw [List.filterMap_cons,hf]; exact List.mem_cons_self)
      obtain ⟨sl,e⟩:=I.base.slot L o ho (I.ok.frf L hL) hL fun z=>I.ok.exfs L z hL
      exact ⟨hk,⟨L,_,hf,hn,e,hd⟩,ih (fun b hb=>hs b (by unfold frs; rw [List.filterMap_cons,hf]; exact List.mem_cons_of_mem _ hb)) hr⟩
  exact all X.outer (fun _ hb=>hb) I.ok.funs
theorem Inv.stack (I:Inv X pins σ H s):s.heap.FunFrames X.base X.stack:=by
  rcases I.ok.stk with e | ⟨e,hf⟩
  · rw [e]; exact I.funs
  · rw [e]
    obtain ⟨m,hn,_⟩:=I.loc
    refine .cons (by rw [I.ok.kind]; decide) hf hn ?_ I.funs
    exact Heap.get?_none_of_le (Nat.le_trans I.ok.bsz I.ok.above)
theorem Inv.stkSub (I:Inv X pins σ H s):∀ b ∈ frs X.stack,b ∈ X.env.locals :: X.fs:=fun b hb=>by
  rcases I.ok.stk with e | ⟨e,hf⟩
  · rw [e] at hb; exact List.mem_cons_of_mem _ hb
  · rw [e] at hb
    unfold frs at hb
    rw [List.filterMap_cons,hf] at hb
    exact hb
theorem Inv.stkFree (I:Inv X pins σ H s):∀ b ∈ frs X.stack,H b=none:=fun b hb=>by
  rcases List.mem_cons.mp (I.stkSub b hb) with e | hb
  · rw [e]; exact I.free
  · obtain ⟨_,o,ho,_⟩:=I.ok.funs.mem hb
    exact I.base.free b o ho (I.ok.frf b hb) fun z=>I.ok.exfs b z hb
theorem Inv.step {g':Array GenState} {t':Nat} {d':Drawn} {ch:List Addr} (I:Inv X pins σ H s)
    (hch:∀ b ∈ ch,(b ∈ X.ex∨X.s₀.heap.objs.size ≤ b)∧b ≠ X.env.locals∧(∀ x c,X.env.cells.lookup x=some c→c ≠ b)∧∀ p ∈ X.pn ++ pins,p.1 ≠ b)
    (keep:∀ b o,b ≠ X.env.locals→b ∉ X.fs→b ∉ ch→s.heap.get? b=some o→H b=none→h'.get? b=some o)
    (slot:∀ b o,b ≠ X.env.locals→b ∈ X.fs→b ∉ ch→s.heap.get? b=some o→H b=none→∃ sl,h'.get? b=some { o with slots:=sl }) (free:∀ b o,b ∉ ch→s.heap.get? b=some o→H b=none→H' b=none)
    (there:∀ b o,b ∉ ch→s.heap.get? b=some o→∃ o',h'.get? b=some o')
    (tups:∀ b xs,H b=some (.tup xs)→H' b=some (.tup xs)) (frzs:∀ b o u,H b=some (.frz o u)→H' b=some (.frz o u)) (tbls:∀ b ps,H b=some (.tbl ps)→∃ more,H' b=some (.tbl (ps ++ more)))
    (ns:∀ m,s.heap.Ns X.env.locals m→h'.Ns X.env.locals m) (hok:HOk X.prog X.w H' h') (hg:AllBare g') :
    Inv X pins σ H' { s with heap:=h',gens:=g',drawn:=d',toks:=t' }:=by
  have neL:∀ b o,X.s₀.heap.get? b=some o→b ≠ X.env.locals:=fun b o e=>Nat.ne_of_lt (Nat.lt_of_lt_of_le (Heap.lt_size e) I.ok.above)
  have neC:∀ b o,X.s₀.heap.get? b=some o→b ∉ X.ex→b ∉ ch:=fun b o e hx hb=>by
    rcases (hch b hb).1 with z | z
    · exact hx z
    · exact absurd (Nat.lt_of_lt_of_le (Heap.lt_size e) z) (Nat.lt_irrefl _)
  have cellK:∀ x c,X.env.cells.lookup x=some c→∀ v,s.heap.IsCell c v→h'.IsCell c v:=fun x c e v ⟨o,ho,hd⟩=>by
    have nch:c ∉ ch:=fun z=>(hch c z).2.2.1 x c e rfl
    by_cases hc:c ∈ X.fs
    · obtain ⟨sl,q⟩:=slot c o (I.cne x c e) hc nch ho (I.freeC x c e)
      exact ⟨_,q,hd⟩
    · exact ⟨o,keep c o (I.cne x c e) hc nch ho (I.freeC x c e),hd⟩
  refine ⟨I.ok,I.os,hg,⟨fun b o e n hb hx=>?_,fun b o e n hb hx=>?_,fun b o e n hx=>?_,fun b o e hx=>?_,fun b xs e=>tups b xs (I.base.tups b xs e),fun b o xs e=>frzs b o xs (I.base.frzs b o xs e),fun b ps e=>?_⟩,?_,fun x c e=>?_,?_,fun x c e=>?_,fun p hp=>?_,hok,I.len⟩
  · exact keep b o (neL b o e) hb (neC b o e hx) (I.base.keep b o e n hb hx) (I.base.free b o e n hx)
  · obtain ⟨sl,e1⟩:=I.base.slot b o e n hb hx
    obtain ⟨sl',e2⟩:=slot b _ (neL b o e) hb (neC b o e hx) e1 (I.base.free b o e n hx)
    exact ⟨sl',e2⟩
  · obtain ⟨o',e1⟩:=I.base.there b o e hx
    exact free b o' (neC b o e hx) e1 (I.base.free b o e n hx)
  · obtain ⟨o',e1⟩:=I.base.there b o e hx
    exact there b o' (neC b o e hx) e1
  · obtain ⟨m1,e1⟩:=I.base.tbls b ps e
    obtain ⟨m2,e2⟩:=tbls b _ e1
    exact ⟨m1 ++ m2,by rw [e2,Array.append_assoc]⟩
  · obtain ⟨m,hn,hl⟩:=I.loc
    refine ⟨m,ns m hn,fun i x v e1 e2 e3=>?_⟩
    obtain ⟨u,r,l⟩:=hl i x v e1 e2 e3
    refine ⟨u,r,?_⟩
    rcases l with l | ⟨k,c,e,z⟩
    · exact .inl l
    · exact .inr ⟨k,c,e,cellK x c e _ z⟩
  · obtain ⟨v,z⟩:=I.cell x c e
    exact ⟨v,cellK x c e v z⟩
  · obtain ⟨m,⟨o,_,_,ho,_⟩,_⟩:=I.loc
    exact free _ o (fun z=>(hch _ z).2.1 rfl) ho I.free
  · obtain ⟨v,o,ho,hd⟩:=I.cell x c e
    exact free c o (fun z=>(hch c z).2.2.1 x c e rfl) ho (I.freeC x c e)
  · obtain ⟨e,n,ne,nf,d⟩:=I.pin p hp
    have nch:p.1 ∉ ch:=fun z=>(hch p.1 z).2.2.2 p hp rfl
    exact ⟨keep p.1 p.2 ne nf nch e n,free p.1 p.2 nch e n,ne,nf,d⟩
theorem Inv.un {t':Nat} (I:Inv X pins σ H s) (u:Un X.fs [] H H' s.heap h') (hok:HOk X.prog X.w H' h'):Inv X pins σ H' { s with heap:=h',toks:=t' }:=by
  obtain ⟨m,⟨o,es,ep,ho,r⟩,_⟩:=id I.loc
  obtain ⟨sl,hL⟩:=u.any ho I.free (by simp)
  exact I.step (g':=s.gens) (d':=s.drawn) (ch:=[]) (fun _ z=>nomatch z) (fun b o _ hb _ e n=>u.keep b o e n hb (by simp)) (fun b o _ hb _ e n=>u.slot b o e n hb (by simp)) (fun b o _ e n=>u.free b o e n (by simp)) (fun b o _ e=>u.there b o e (by simp)) u.tups u.frzs u.tbls (fun m' hm=>by
    obtain ⟨o',es',ep',ho',r'⟩:=hm
    rw [ho] at ho'; cases ho'
    exact ⟨_,es',ep',hL,r'⟩) hok I.bare
theorem Inv.call {g':Array GenState} {t':Nat} {d':Drawn} {ch:List Addr} (I:Inv X pins σ H s) (u:Un (frs X.stack) ch H H' s.heap h') (hok:HOk X.prog X.w H' h') (hg:AllBare g')
    (hch:∀ b ∈ ch,(b ∈ X.ex∨X.s₀.heap.objs.size ≤ b)∧b ≠ X.env.locals∧(∀ x c,X.env.cells.lookup x=some c→c ≠ b)∧∀ p ∈ X.pn ++ pins,p.1 ≠ b) :
    Inv X pins σ H' { s with heap:=h',gens:=g',drawn:=d',toks:=t' }:=by
  obtain ⟨m,⟨o,es,ep,ho,r⟩,_⟩:=id I.loc
  obtain ⟨sl,hL⟩:=u.any ho I.free fun z=>(hch _ z).2.1 rfl
  exact I.step (ch:=ch) hch (fun b o hL hb hc e n=>u.keep b o e n (fun z=>(List.mem_cons.mp (I.stkSub b z)).elim hL hb) hc) (fun b o _ _ hc e n=>u.any e n hc) (fun b o hc e n=>u.free b o e n hc) (fun b o hc e=>u.there b o e hc) u.tups u.frzs u.tbls (fun m' hm=>by
    obtain ⟨o',es',ep',ho',r'⟩:=hm
    rw [ho] at ho'; cases ho'
    exact ⟨_,es',ep',hL,r'⟩) hok hg
theorem Inv.turned {t':Nat} {it:Addr} (I:Inv X pins σ H s) (k:∀ b o,b ≠ it→s.heap.get? b=some o→h'.get? b=some o) (hn:H it=none) (hL:it ≠ X.env.locals)
    (h1:it ∈ X.ex∨X.s₀.heap.objs.size ≤ it) (h2:∀ x c,X.env.cells.lookup x=some c→c ≠ it) (h3:∀ p ∈ X.pn ++ pins,p.1 ≠ it):Inv X pins σ H { s with heap:=h',toks:=t' }:=by
  have nit:∀ b u,H b=some u→b ≠ it:=fun b u e z=>by rw [z,hn] at e; cases e
  refine I.step (g':=s.gens) (d':=s.drawn) (ch:=[it]) (fun b hb=>?_) (fun b o _ _ hc e _=>k b o (fun z=>hc (by simp [z])) e) (fun b o _ _ hc e _=>⟨o.slots,k b o (fun z=>hc (by simp [z])) e⟩) (fun _ _ _ _ n=>n)
    (fun b o hc e=>⟨o,k b o (fun z=>hc (by simp [z])) e⟩) (fun _ _ e=>e) (fun _ _ _ e=>e) (fun b ps e=>⟨#[],by rw [e]; simp⟩) (fun m hm=>?_) (fun b u e=>?_) I.bare
  · have e:b=it:=by simpa using hb
    subst e
    exact ⟨h1,hL,h2,h3⟩
  · obtain ⟨o,es,ep,ho,r⟩:=hm
    exact ⟨o,es,ep,k _ o (Ne.symm hL) ho,r⟩
  · refine (I.hok b u e).stay (fun c v hc q=>k c v ?_ q) (fun _ q=>q) fun _ _ q=>q
    rcases hc with z | z
    · rw [z]; exact nit b u e
    · exact nit c _ z
theorem Inv.tok (I:Inv X pins σ H s) (t:Nat):Inv X pins σ H { s with toks:=t }:=I.un (h':=s.heap) (t':=t) Un.refl I.hok
theorem Inv.kept {t':Nat} (I:Inv X pins σ H s) (k:∀ b u,s.heap.get? b=some u→h'.get? b=some u):Inv X pins σ H { s with heap:=h',toks:=t' }:=I.un (Un.kept k) (I.hok.kept k)
theorem Inv.laid {a:Addr} {o:HO} {t':Nat} (I:Inv X pins σ H s) (k:∀ b u,s.heap.get? b=some u→h'.get? b=some u) (hp:s.heap.objs.size ≤ a) (new:ObjOk X.prog X.w (upd H a o) h' a o) :
    Inv X pins σ (upd H a o) { s with heap:=h',toks:=t' }:=I.un (Un.laid k hp (I.hok.fresh hp)) (I.hok.laid k hp new)
theorem Inv.write {x e:Addr} {o:HO} {t':Nat} (I:Inv X pins σ H s) (mu:Mut (H x)) (he:e=x∨H e=some (.own x)) (k:∀ b u,b ≠ e→s.heap.get? b=some u→h'.get? b=some u) (heo:∃ u,h'.get? e=some u)
    (new:ObjOk X.prog X.w (upd H x o) h' x o):Inv X pins σ (upd H x o) { s with heap:=h',toks:=t' }:=I.un (Un.write mu he k heo) (I.hok.write mu he k heo new)
theorem Inv.pins_of {pins':List (Addr × Obj)} (I:Inv X pins σ H s) (h:∀ p ∈ pins',s.heap.get? p.1=some p.2∧H p.1=none∧p.1 ≠ X.env.locals∧p.1 ∉ X.fs∧∀ v,p.2.data ≠ .cell v):Inv X pins' σ H s:=
  ⟨I.ok,I.os,I.bare,I.base,I.loc,I.cell,I.free,I.freeC,fun p hp=>(List.mem_append.mp hp).elim (fun z=>I.pin p (List.mem_append_left _ z)) (h p),I.hok,I.len⟩
theorem nodup_ix {N:List Str} (hN:N.Nodup) {i j:Nat} {x:Str} (a:N[i]?=some x) (b:N[j]?=some x):i=j:=by
  obtain ⟨h1,e1⟩:=List.getElem?_eq_some_iff.mp a
  obtain ⟨h2,e2⟩:=List.getElem?_eq_some_iff.mp b
  exact (List.getElem_inj hN).mp (e1.trans e2.symm)
theorem store_ok2 {M:Model} {A:Around} {E:Value→Shared→Prop} {i:Nat} {x:Str} {v:V} {u:Value} {Q:Unit→Shared→Prop} (I:Inv X pins σ H s) (hN:X.N.Nodup) (hi:X.N[i]?=some x) (hx:Loc X.env.scope x) (r:RelV v u)
    (h:∀ s',Inv X pins (σ.set i (some v)) H s'→(∃ a,Heap.SameBut a s.heap s'.heap∧(a=X.env.locals∨X.env.cells.lookup x=some a))→Q () s') (hf:X.fn x=true∨X.env.scope.names.lookup x=some .local:=by first | exact .inl rfl | exact .inr rfl | assumption):wpAny M A (storeName X.env x u) Q E s:=by
  obtain ⟨m,hn,hl⟩:=id I.loc
  have hcls:(X.env.scope.kind == .class || (X.env.scope.kind == .module && X.env.locals != X.env.globals))=false:=by rw [I.ok.kind]; rfl
  have hiσ:i < σ.length:=by rw [I.len]; exact (List.getElem?_eq_some_iff.mp hi).1
  have cne:=I.cne
  have tracked:∀ {a:Addr} {h':Heap},(∃ o,s.heap.get? a=some o∧H a=none)→Heap.SameBut a s.heap h'→HOk X.prog X.w H h':=fun {a h'} ha hs b ob e=>by
    obtain ⟨_,_,hfree⟩:=ha
    refine (I.hok b ob e).stay (fun c w' hc q=>(hs.2 c ?_).trans q) (fun _ q=>q) fun _ _ q=>q
    rintro rfl
    rcases hc with rfl | hc
    · rw [hfree] at e; cases e
    · rw [hfree] at hc; cases hc
  rcases hx with hk | hk
  · refine wpAny_storeName_local hk hn (fun h' hn' hs=>?_) hcls
    obtain ⟨oL,_,_,hoL,_⟩:=id hn
    refine h _ ⟨I.ok,I.os,I.bare,⟨fun b o e n hb hx=>?_,fun b o e n hb hx=>?_,I.base.free,fun b o e hx=>?_,I.base.tups,I.base.frzs,I.base.tbls⟩,⟨_,hn',fun j y v' e1 e2 e3=>?_⟩,fun y c e=>?_,I.free,I.freeC,fun p hp=>?_,tracked ⟨oL,hoL,I.free⟩ hs,by simpa using I.len⟩ ⟨_,hs,.inl rfl⟩
    · exact (hs.2 b (Nat.ne_of_lt (Nat.lt_of_lt_of_le (Heap.lt_size e) I.ok.above))).trans (I.base.keep b o e n hb hx)
    · obtain ⟨sl,e1⟩:=I.base.slot b o e n hb hx
      exact ⟨sl,(hs.2 b (Nat.ne_of_lt (Nat.lt_of_lt_of_le (Heap.lt_size e) I.ok.above))).trans e1⟩
    · obtain ⟨o',e1⟩:=I.base.there b o e hx
      exact ⟨o',(hs.2 b (Nat.ne_of_lt (Nat.lt_of_lt_of_le (Heap.lt_size e) I.ok.above))).trans e1⟩
    · by_cases hj:j=i
      · subst hj
        rw [hi] at e1; cases e1
        rw [List.getElem?_set_self hiσ] at e2
        cases e2
        exact ⟨u,r,.inl ⟨hk,by simp⟩⟩
      · rw [List.getElem?_set_ne (Ne.symm hj)] at e2
        obtain ⟨u',r',q⟩:=hl j y v' e1 e2 e3
        refine ⟨u',r',?_⟩
        rcases q with ⟨k,e⟩ | ⟨k,c,e,z⟩
        · refine .inl ⟨k,?_⟩
          have:y ≠ x:=fun e=>hj (nodup_ix hN e1 (e ▸ hi))
          simp [this,e]
        · exact .inr ⟨k,c,e,z.sameBut hs (cne y c e)⟩
    · obtain ⟨w',z⟩:=I.cell y c e
      exact ⟨w',z.sameBut hs (cne y c e)⟩
    · obtain ⟨e,n,ne,nf,d⟩:=I.pin p hp
      exact ⟨(hs.2 p.1 ne).trans e,n,ne,nf,d⟩
  · have hfn:X.fn x=true:=by
      rcases hf with z | z
      · exact z
      · rw [z] at hk; cases hk
    obtain ⟨c,hc⟩:=I.ok.has x (.inl hk)
    obtain ⟨w',z⟩:=I.cell x c hc
    refine wpAny_storeName_cell I.ok.kind hk hc z (fun h' hc' hs=>?_)
    obtain ⟨oc,hoc,hocd⟩:=id z
    refine h { s with heap:=h' } ⟨I.ok,I.os,I.bare,⟨fun b o e n hb hx=>?_,fun b o e n hb hx=>?_,I.base.free,fun b o e hx=>?_,I.base.tups,I.base.frzs,I.base.tbls⟩,⟨m,hn.sameBut hs (Ne.symm (cne x c hc)),fun j y v' e1 e2 e3=>?_⟩,fun y c' e=>?_,I.free,I.freeC,fun p hp=>?_,tracked ⟨oc,hoc,I.freeC x c hc⟩ hs,by simpa using I.len⟩ ⟨c,hs,.inr hc⟩
    · exact (hs.2 b (Nat.ne_of_lt (Nat.lt_of_lt_of_le (Heap.lt_size e) (I.ok.cab x c hfn hc)))).trans (I.base.keep b o e n hb hx)
    · obtain ⟨sl,e1⟩:=I.base.slot b o e n hb hx
      exact ⟨sl,(hs.2 b (Nat.ne_of_lt (Nat.lt_of_lt_of_le (Heap.lt_size e) (I.ok.cab x c hfn hc)))).trans e1⟩
    · obtain ⟨o',e1⟩:=I.base.there b o e hx
      exact ⟨o',(hs.2 b (Nat.ne_of_lt (Nat.lt_of_lt_of_le (Heap.lt_size e) (I.ok.cab x c hfn hc)))).trans e1⟩
    · by_cases hj:j=i
      · subst hj
        rw [hi] at e1; cases e1
        rw [List.getElem?_set_self hiσ] at e2
        cases e2
        exact ⟨u,r,.inr ⟨.inl hk,c,hc,hc'⟩⟩
      · rw [List.getElem?_set_ne (Ne.symm hj)] at e2
        obtain ⟨u',r',q⟩:=hl j y v' e1 e2 e3
        refine ⟨u',r',?_⟩
        rcases q with q | ⟨k,c',e,z'⟩
        · exact .inl q
        · refine .inr ⟨k,c',e,z'.sameBut hs ?_⟩
          rintro rfl
          exact hj (nodup_ix hN e1 (I.ok.inj _ _ _ e hc ▸ hi))
    · by_cases hcc:c'=c
      · subst hcc; exact ⟨_,hc'⟩
      · obtain ⟨w2,z2⟩:=I.cell y c' e
        exact ⟨w2,z2.sameBut hs hcc⟩
    · obtain ⟨e,n,ne,nf,d⟩:=I.pin p hp
      refine ⟨(hs.2 p.1 ?_).trans e,n,ne,nf,d⟩
      intro q
      rw [q,hoc] at e
      have q':oc=p.2:=Option.some.inj e
      exact d w' (by rw [← q']; exact hocd)
theorem store_ok {M:Model} {A:Around} {E:Value→Shared→Prop} {i:Nat} {x:Str} {v:V} {u:Value} {Q:Unit→Shared→Prop} (I:Inv X pins σ H s) (hN:X.N.Nodup) (hi:X.N[i]?=some x) (hx:Loc X.env.scope x) (r:RelV v u)
    (h:∀ s',Inv X pins (σ.set i (some v)) H s'→Q () s') (hf:X.fn x=true∨X.env.scope.names.lookup x=some .local:=by first | exact .inl rfl | exact .inr rfl | assumption):wpAny M A (storeName X.env x u) Q E s:=
  store_ok2 I hN hi hx r (fun s' I' _=>h s' I') hf
theorem Inv.call' {s':Shared} {ch:List Addr} (I:Inv X pins σ H s) (ho:s'.os=s.os) (u:Un (frs X.stack) ch H H' s.heap s'.heap) (hok:HOk X.prog X.w H' s'.heap) (hg:AllBare s'.gens)
    (hch:∀ b ∈ ch,(b ∈ X.ex∨X.s₀.heap.objs.size ≤ b)∧b ≠ X.env.locals∧(∀ x c,X.env.cells.lookup x=some c→c ≠ b)∧∀ p ∈ X.pn ++ pins,p.1 ≠ b):Inv X pins σ H' s':=by
  obtain ⟨h',g',d',t',o'⟩:=s'
  have e:o'=s.os:=ho
  subst e
  exact I.call (g':=g') (t':=t') (d':=d') u hok hg hch
end
noncomputable abbrev XK:=Value→Option Addr→Hp→Prop
noncomputable abbrev St:=List (Option V)
noncomputable abbrev VK:=V→Hp→Prop
noncomputable abbrev TE:=St→Hp→VK→Prop
noncomputable abbrev TT:=St→Hp→(Bool→Hp→Prop)→Prop
noncomputable abbrev TA:=St→Hp→(List V→Hp→Prop)→Prop
structure Ends where
  nx:St→Hp→Prop
  rt:VK
  bk:St→Hp→Prop:=fun _ _=>False
  ct:St→Hp→Prop:=fun _ _=>False
noncomputable abbrev TS:=Ends→St→Hp→Prop
noncomputable def EP (X:Cx) (pins:List (Addr × Obj)) (σ:St) (Q:VK) (u:Value) (s':Shared):Prop:=∃ v H',Inv X pins σ H' s'∧RelV v u∧Q v H'
noncomputable def TP (X:Cx) (pins:List (Addr × Obj)) (σ:St) (Q:Bool→Hp→Prop) (b:Bool) (s':Shared):Prop:=∃ H',Inv X pins σ H' s'∧Q b H'
noncomputable def AP (X:Cx) (pins:List (Addr × Obj)) (σ:St) (Q:List V→Hp→Prop) (us:List Value) (s':Shared):Prop:=∃ vs H',Inv X pins σ H' s'∧Vals vs us∧Q vs H'
noncomputable def SP (X:Cx) (pins:List (Addr × Obj)) (D:Ends) (f:Flow) (s':Shared):Prop:=
  match f with
  | .next=>∃ σ' H',Inv X pins σ' H' s'∧D.nx σ' H'
  | .brk=>∃ σ' H',Inv X pins σ' H' s'∧D.bk σ' H'
  | .cont=>∃ σ' H',Inv X pins σ' H' s'∧D.ct σ' H'
  | .ret u=>∃ v σ' H',Inv X pins σ' H' s'∧RelV v u∧D.rt v H'
noncomputable def PE (X:Cx) (e:Expr) (t:TE):Prop:=
  ∀ (pins:List (Addr × Obj)) (s:Shared) (σ:St) (H:Hp) (Q:VK),Inv X pins σ H s→t σ H Q→wpAny (model X.prog X.w) X.A (eval e X.env) (EP X pins σ Q) X.xe s
noncomputable def PT (X:Cx) (e:Expr) (t:TT):Prop:=
  ∀ (pins:List (Addr × Obj)) (s:Shared) (σ:St) (H:Hp) (Q:Bool→Hp→Prop),Inv X pins σ H s→t σ H Q→wpAny (model X.prog X.w) X.A (isTrue e X.env (eval e X.env)) (TP X pins σ Q) X.xe s
noncomputable def PW (X:Cx) (e:Expr) (t:TT):Prop:=
  ∀ (whole:Sem Value) (pins:List (Addr × Obj)) (s:Shared) (σ:St) (H:Hp) (Q:Bool→Hp→Prop),Inv X pins σ H s→t σ H Q→wpAny (model X.prog X.w) X.A (isTrue e X.env whole) (TP X pins σ Q) X.xe s
theorem PW.pt {X:Cx} {e:Expr} {t:TT} (h:PW X e t):PT X e t:=h _
noncomputable def PA (X:Cx) (es:List Expr) (t:TA):Prop:=
  ∀ (pos:Pos) (pins:List (Addr × Obj)) (s:Shared) (σ:St) (H:Hp) (Q:List V→Hp→Prop),Inv X pins σ H s→t σ H Q→wpAny (model X.prog X.w) X.A (spliced (backTo pos (starEach es X.env))) (AP X pins σ Q) X.xe s
noncomputable def PS (X:Cx) (st:Stmt) (t:TS):Prop:=
  ∀ (pins:List (Addr × Obj)) (s:Shared) (σ:St) (H:Hp) (D:Ends),Inv X pins σ H s→t D σ H→wpAny (model X.prog X.w) X.A (exec st X.env) (SP X pins D) X.xe s
noncomputable def PSs (X:Cx) (st:List Stmt) (t:TS):Prop:=
  ∀ (pins:List (Addr × Obj)) (s:Shared) (σ:St) (H:Hp) (D:Ends),Inv X pins σ H s→t D σ H→wpAny (model X.prog X.w) X.A (execs st X.env) (SP X pins D) X.xe s
theorem thn {α:Type} {t:Sem α} {Q Q':α→Shared→Prop} {M:Model} {A:Around} {E:Value→Shared→Prop} {s:Shared} (h:wpAny M A t Q E s) (hQ:∀ a s,Q a s→Q' a s):wpAny M A t Q' E s:=wpAny_mono h hQ fun _ _ x=>x
end L2
namespace L2
open PySem PySem.Spec PyProof.Rows
section
variable {X:Cx}
noncomputable def tVar (i:Nat):TE:=fun σ H Q=>∃ v,σ[i]?=some (some v)∧Q v H
noncomputable def tC (v:V):TE:=fun _ H Q=>Q v H
theorem pe_var {i:Nat} {x:Str} {pos:Pos} (hN:X.N[i]?=some x) (hv:Vis X.env.scope x) (hd:(x == ("__debug__" : Str))=false:=by decide) (hcd:(x == ("__classdict__" : Str))=false:=by decide):PE X (.Name x pos) (tVar i):=by
  intro pins s σ H Q I h
  obtain ⟨v,e,h⟩:=h
  obtain ⟨m,hn,hl⟩:=I.loc
  obtain ⟨u,r,l⟩:=hl i x v hN e hv
  have fin:EP X pins σ Q u s:=⟨v,H,I,r,h⟩
  rcases l with ⟨hk,hm⟩ | ⟨hk,c,hc,hcell⟩
  · exact wpAny_Name (wpAny_loadName_local I.ok.kind hk hn hm fin) hd
  · rcases hk with hk | hk
    · exact wpAny_Name (wpAny_loadName_cell I.ok.kind hk hc hcell fin) hd
    · exact wpAny_Name (wpAny_loadName_free I.ok.kind hk hc hcell fin hcd) hd
theorem pe_int {i j pos}:PE X (.Constant (.int i) j pos) (tC (.int i)):=fun _ _ _ H _ I h=>wpAny_Constant_int ⟨.int i,H,I.tok _,⟨_,rfl⟩,h⟩
theorem pe_bl {b j pos}:PE X (.Constant (.bool b) j pos) (tC (.bl b)):=fun _ _ _ H _ I h=>Constant_bool ⟨.bl b,H,I,rfl,h⟩
theorem pe_non {j pos}:PE X (.Constant .none j pos) (tC .non):=fun _ _ _ H _ I h=>Constant_none ⟨.non,H,I,rfl,h⟩
noncomputable def Gl (X:Cx) (x:Str):Prop:=X.env.kindOf x=some .globalImplicit
theorem ld_glob {E:Value→Shared→Prop} {pins:List (Addr × Obj)} {s:Shared} {σ:St} {H:Hp} {x:Str} {u:Value} {pos:Pos} {Q:Value→Shared→Prop} (I:Inv X pins σ H s) (hg:Gl X x) (hm:X.mg x=some u) (h:Q u s)
    (hd:(x == ("__debug__" : Str))=false:=by decide):wpAny (model X.prog X.w) X.A (eval (.Name x pos) X.env) Q E s:=
  Calls.Name_function_global I.ok.kind hg (Calls.loadGlobal_global (by rw [I.ok.glob]; exact I.mod.glob.keeps I.bk) hm h) hd
theorem ld_blt {E:Value→Shared→Prop} {pins:List (Addr × Obj)} {s:Shared} {σ:St} {H:Hp} {x:Str} {u:Value} {pos:Pos} {Q:Value→Shared→Prop} (I:Inv X pins σ H s) (hg:Gl X x) (hm:X.mg x=none) (hv:bootBuiltins x=some u) (h:Q u s)
    (hn:x ≠ "__name__" := by decide) (hd:(x == ("__debug__" : Str))=false:=by decide):wpAny (model X.prog X.w) X.A (eval (.Name x pos) X.env) Q E s:=by
  obtain ⟨mb,h1,h2⟩:=I.mod.blt
  exact Calls.Name_function_global I.ok.kind hg (Calls.loadGlobal_builtin (by rw [I.ok.glob]; exact I.mod.glob.keeps I.bk) hm (by rw [I.ok.blt]; exact h1.keeps I.bk) ((h2 x hn).trans hv) h) hd
theorem pe_glob {x:Str} {v:V} {u:Value} {pos:Pos} (hg:Gl X x) (hm:X.mg x=some u) (r:RelV v u) (hd:(x == ("__debug__" : Str))=false:=by decide):PE X (.Name x pos) (tC v):=
  fun _ _ _ H _ I h=>ld_glob I hg hm ⟨v,H,I,r,h⟩ hd
theorem pe_bltn {x:Str} {v:V} {u:Value} {pos:Pos} (hg:Gl X x) (hm:X.mg x=none) (hv:bootBuiltins x=some u) (r:RelV v u) (hn:x ≠ "__name__" := by decide) (hd:(x == ("__debug__" : Str))=false:=by decide):PE X (.Name x pos) (tC v):=
  fun _ _ _ H _ I h=>ld_blt I hg hm hv ⟨v,H,I,r,h⟩ hn hd
variable {a b:Expr} {ta tb:TE} {pos:Pos}
noncomputable def PC (X:Cx) (op:CmpOp) (a b:Expr) (t:TE):Prop:=
  ∀ (pins:List (Addr × Obj)) (s:Shared) (σ:St) (H:Hp) (Q:VK),Inv X pins σ H s→t σ H Q→
    wpAny (model X.prog X.w) X.A (eval a X.env) (fun v s₁=>wpAny (model X.prog X.w) X.A (eval b X.env) (fun u s₂=>wpAny (model X.prog X.w) X.A (compareOp op v u) (EP X pins σ Q) X.xe s₂) X.xe s₁) X.xe s
theorem nobehind (b:Expr) {op:CmpOp} (h:op ≠ .In) (h2:op ≠ .NotIn):behindInMarks op b=false:=by
  have e1:(op == CmpOp.In)=false:=by cases op <;> first | rfl | exact absurd rfl h
  have e2:(op == CmpOp.NotIn)=false:=by cases op <;> first | rfl | exact absurd rfl h2
  cases b <;> simp [behindInMarks,e1,e2]
noncomputable def tB (t:TE):TT:=fun σ H Q=>t σ H fun x H1=>∃ c,x=.bl c∧Q c H1
theorem pt_cmp {op:CmpOp} {t:TE} (h:PC X op a b t) (h1:behindInMarks op b=false:=by first | exact nobehind _ (by decide) (by decide) | rfl):PT X (.Compare a [op] [b] pos) (tB t):=by
  intro pins s σ H Q I hw
  refine wpAny_isTrue_Compare1 (thn (h pins s σ H _ I hw) fun v s1 h1=>thn h1 fun u s2 h2=>thn h2 fun c s3 ⟨x,H1,I1,r1,q1⟩=>?_) h1
  obtain ⟨d,rfl,q⟩:=q1
  cases r1
  exact wpAny_truthy_bool ⟨H1,I1,q⟩
theorem pt_val {e:Expr} {t:TE} (h:PE X e t) (he:∀ whole,isTrue e X.env whole=(do let v ← whole; standAt e.pos; holding [v] (truthy v)):=by intro _; rfl):PT X e (tB t):=by
  intro pins s σ H Q I hw
  refine isTrue_plain (thn (h pins s σ H _ I hw) fun v s1 ⟨x,H1,I1,r1,q1⟩=>?_) (he _)
  obtain ⟨d,rfl,q⟩:=q1
  cases r1
  exact wpAny_truthy_bool ⟨H1,I1,q⟩
variable {tA tB':TT} {rest:List Expr}
noncomputable def tAnd (t u:TT):TT:=fun σ H Q=>t σ H fun c H1=>if c=true then u σ H1 Q else Q false H1
noncomputable def tOr (t u:TT):TT:=fun σ H Q=>t σ H fun c H1=>if c=true then Q true H1 else u σ H1 Q
noncomputable def tNot (t:TT):TT:=fun σ H Q=>t σ H fun c H1=>Q (!c) H1
theorem pw_and1 (ha:PT X a tA):PW X (.BoolOp .And [a] pos) tA:=by
  intro wh pins s σ H Q I h
  refine isTrue_and (thn (ha pins s σ H Q I h) fun c s1 e=>?_)
  cases c with
  | true=>exact isTrue_and_nil e
  | false=>exact e
theorem pw_or1 (ha:PT X a tA):PW X (.BoolOp .Or [a] pos) tA:=by
  intro wh pins s σ H Q I h
  refine isTrue_or (thn (ha pins s σ H Q I h) fun c s1 e=>?_)
  cases c with
  | false=>exact isTrue_or_nil e
  | true=>exact e
theorem pw_and (ha:PT X a tA) (hb:PW X (.BoolOp .And (b :: rest) pos) tB'):PW X (.BoolOp .And (a :: b :: rest) pos) (tAnd tA tB'):=by
  intro wh pins s σ H Q I h
  refine isTrue_and (thn (ha pins s σ H _ I h) fun c s1 ⟨H1,I1,q1⟩=>?_)
  cases c with
  | true=>exact hb wh pins s1 σ H1 Q I1 q1
  | false=>exact ⟨H1,I1,q1⟩
theorem pw_or (ha:PT X a tA) (hb:PW X (.BoolOp .Or (b :: rest) pos) tB'):PW X (.BoolOp .Or (a :: b :: rest) pos) (tOr tA tB'):=by
  intro wh pins s σ H Q I h
  refine isTrue_or (thn (ha pins s σ H _ I h) fun c s1 ⟨H1,I1,q1⟩=>?_)
  cases c with
  | true=>exact ⟨H1,I1,q1⟩
  | false=>exact hb wh pins s1 σ H1 Q I1 q1
theorem pt_not (ha:PT X a tA):PT X (.UnaryOp .Not a pos) (tNot tA):=by
  intro pins s σ H Q I h
  exact isTrue_not (ha pins s σ H (fun c H1=>Q (!c) H1) I h)
noncomputable def tAndV (ta tb:TE):TE:=fun σ H Q=>ta σ H fun x H1=>∃ c,x=.bl c∧if c=true then tb σ H1 Q else Q (.bl false) H1
noncomputable def tOrV (ta tb:TE):TE:=fun σ H Q=>ta σ H fun x H1=>∃ c,x=.bl c∧if c=true then Q (.bl true) H1 else tb σ H1 Q
noncomputable def tNotV (ta:TE):TE:=fun σ H Q=>ta σ H fun x H1=>∃ c,x=.bl c∧Q (.bl (!c)) H1
theorem pe_one {op} {t:TE} (h:PE X a t):PE X (.BoolOp op [a] pos) t:=fun pins s σ H Q I hw=>BoolOp_one (h pins s σ H Q I hw)
theorem pe_and (ha:PE X a ta) (hb:PE X (.BoolOp .And (b :: rest) pos) tb):PE X (.BoolOp .And (a :: b :: rest) pos) (tAndV ta tb):=by
  intro pins s σ H Q I h
  refine BoolOp_and (thn (ha pins s σ H _ I h) fun v s1 ⟨x,H1,I1,r1,q1⟩=>?_)
  obtain ⟨c,rfl,q1⟩:=q1
  cases r1
  refine wpAny_truthy_bool ?_
  cases c with
  | true=>exact hb pins s1 σ H1 Q I1 q1
  | false=>exact ⟨.bl false,H1,I1,rfl,q1⟩
theorem pe_or (ha:PE X a ta) (hb:PE X (.BoolOp .Or (b :: rest) pos) tb):PE X (.BoolOp .Or (a :: b :: rest) pos) (tOrV ta tb):=by
  intro pins s σ H Q I h
  refine BoolOp_or (thn (ha pins s σ H _ I h) fun v s1 ⟨x,H1,I1,r1,q1⟩=>?_)
  obtain ⟨c,rfl,q1⟩:=q1
  cases r1
  refine wpAny_truthy_bool ?_
  cases c with
  | false=>exact hb pins s1 σ H1 Q I1 q1
  | true=>exact ⟨.bl true,H1,I1,rfl,q1⟩
theorem pe_not (ha:PE X a ta):PE X (.UnaryOp .Not a pos) (tNotV ta):=by
  intro pins s σ H Q I h
  refine UnaryOp_ (thn (ha pins s σ H _ I h) fun v s1 ⟨x,H1,I1,r1,q1⟩=>?_)
  obtain ⟨c,rfl,q1⟩:=q1
  cases r1
  exact not_of (wpAny_truthy_bool ⟨.bl (!c),H1,I1,rfl,q1⟩)
end
end L2
namespace L2
open PySem PySem.Spec PyProof.Rows
noncomputable def SqL (K:PySem.W.Frag) (H:Hp) (a:Addr) (xs:List V):Prop:=
  Rd H a (.lst xs)∨
    ∃ (o:Obj) (its:Array Value) (n:Nat),K.lookup a=some o∧o.cls=.type "list" ∧ o.dict=none∧o.data=.seq its n∧its.size ≤ sizeLine∧Vals xs its.toList
noncomputable def SqT (K:PySem.W.Frag) (H:Hp) (a:Addr) (xs:List V):Prop:=
  Rd H a (.tup xs)∨
    ∃ (o:Obj) (its:Array Value) (n:Nat),K.lookup a=some o∧o.cls=.type "tuple" ∧ o.data=.seq its n∧its.size ≤ sizeLine∧Vals xs its.toList
noncomputable def absV:Value→Option V
  | .none=>some .non
  | .bool b=>some (.bl b)
  | .int i _=>some (.int i)
  | .str x _=>some (.str x)
  | .bytes b _=>some (.byt b)
  | .float b _=>some (.flt b)
  | .ref a=>some (.ref a)
  | .type n=>some (.ty n)
  | _=>none
theorem RelV.abs {x:V} {u:Value} (r:RelV x u):absV u=some x:=by
  cases x with
  | non=>cases r; rfl
  | bl _=>cases r; rfl
  | int _=>obtain ⟨t,rfl⟩:=r; rfl
  | str _=>obtain ⟨t,rfl⟩:=r; rfl
  | byt _=>obtain ⟨t,rfl⟩:=r; rfl
  | flt _=>obtain ⟨t,rfl⟩:=r; rfl
  | ref _=>cases r; rfl
  | ty _=>cases r; rfl
theorem RelV.inj {x y:V} {u:Value} (r:RelV x u) (q:RelV y u):x=y:=Option.some.inj (r.abs.symm.trans q.abs)
theorem Vals.inj:∀ {xs ys:List V} {us:List Value},Vals xs us→Vals ys us→xs=ys
  | _,_,_,.nil,.nil=>rfl
  | _,_,_,.cons r t,.cons r' t'=>by rw [r.inj r',Vals.inj t t']
section
variable {X:Cx} {pins:List (Addr × Obj)} {σ:St} {H:Hp} {s:Shared} {a:Addr} {xs ys:List V}
theorem SqL.of {K:PySem.W.Frag} (h:H a=some (.lst xs)):SqL K H a xs:=.inl (.inl h)
theorem SqT.of {K:PySem.W.Frag} (h:H a=some (.tup xs)):SqT K H a xs:=.inl (.inl h)
theorem Inv.list (I:Inv X pins σ H s) (h:SqL X.K H a xs):∃ its:List Value,Vals xs its∧PlainL s.heap a its.toArray∧xs.length ≤ sizeLine:=by
  rcases h with h | ⟨o,its,n,hk,hc,hd,hs,hz,r⟩
  · obtain ⟨z,its,n,r,e⟩:=h.ok I.hok
    exact ⟨its,r,⟨_,n,e,rfl,rfl,rfl⟩,z⟩
  · refine ⟨its.toList,r,⟨o,n,I.kIn a o hk,hc,hd,by simpa using hs⟩,?_⟩
    have e:=r.length
    simp only [Array.length_toList] at e
    omega
theorem Inv.tuple (I:Inv X pins σ H s) (h:SqT X.K H a xs):∃ its:List Value,Vals xs its∧IsTup s.heap a its.toArray∧xs.length ≤ sizeLine:=by
  rcases h with h | ⟨o,its,n,hk,hc,hs,hz,r⟩
  · obtain ⟨z,its,r,p⟩:=h.ok I.hok
    exact ⟨its,r,p,z⟩
  · refine ⟨its.toList,r,⟨o,I.kIn a o hk,hc,n,by simpa using hs⟩,?_⟩
    have e:=r.length
    simp only [Array.length_toList] at e
    omega
theorem Inv.list_inj (I:Inv X pins σ H s) (h:SqL X.K H a xs) (h':SqL X.K H a ys):xs=ys:=by
  obtain ⟨its,r,⟨o,n,e,_,_,d⟩,_⟩:=I.list h
  obtain ⟨its',r',⟨o',n',e',_,_,d'⟩,_⟩:=I.list h'
  rw [e] at e'; cases e'
  rw [d] at d'
  injection d' with d1 _
  have:its=its':=by simpa using congrArg Array.toList d1
  subst this
  exact r.inj r'
theorem Inv.tuple_inj (I:Inv X pins σ H s) (h:SqT X.K H a xs) (h':SqT X.K H a ys):xs=ys:=by
  obtain ⟨its,r,⟨o,e,_,n,d⟩,_⟩:=I.tuple h
  obtain ⟨its',r',⟨o',e',_,n',d'⟩,_⟩:=I.tuple h'
  rw [e] at e'; cases e'
  rw [d] at d'
  injection d' with d1 _
  have:its=its':=by simpa using congrArg Array.toList d1
  subst this
  exact r.inj r'
end
noncomputable abbrev Cx.wish (X:Cx) (E:Value→Shared→Prop):Cx:={ X with xe:=E }
noncomputable abbrev Cx.nox (X:Cx):Cx:=X.wish fun _ _=>False
theorem Cx.Ok.wish {X:Cx} (ok:X.Ok) (E:Value→Shared→Prop):(X.wish E).Ok:=
  ⟨ok.mod,ok.kind,ok.glob,ok.blt,ok.above,ok.inj,ok.has,ok.cab,ok.hd,ok.frames,ok.stk,ok.exf,ok.bs,ok.bsz,ok.noex,ok.exfs,ok.funs,ok.frf⟩
theorem Cx.Ok.unwish {X:Cx} {E:Value→Shared→Prop} (ok:(X.wish E).Ok):X.Ok:=
  ⟨ok.mod,ok.kind,ok.glob,ok.blt,ok.above,ok.inj,ok.has,ok.cab,ok.hd,ok.frames,ok.stk,ok.exf,ok.bs,ok.bsz,ok.noex,ok.exfs,ok.funs,ok.frf⟩
section
variable {X:Cx} {pins:List (Addr × Obj)} {σ:St} {H:Hp} {s:Shared} {E:Value→Shared→Prop}
theorem Inv.wish (I:Inv X pins σ H s) (E:Value→Shared→Prop):Inv (X.wish E) pins σ H s:=⟨I.ok.wish E,I.os,I.bare,I.base,I.loc,I.cell,I.free,I.freeC,I.pin,I.hok,I.len⟩
theorem Inv.unwish (I:Inv (X.wish E) pins σ H s):Inv X pins σ H s:=⟨I.ok.unwish,I.os,I.bare,I.base,I.loc,I.cell,I.free,I.freeC,I.pin,I.hok,I.len⟩
theorem SP.unwish {D:Ends} {f:Flow} {s':Shared} (h:SP (X.wish E) pins D f s'):SP X pins D f s':=by
  cases f with
  | next=>obtain ⟨σ',H',I,q⟩:=h; exact ⟨σ',H',I.unwish,q⟩
  | brk=>obtain ⟨σ',H',I,q⟩:=h; exact ⟨σ',H',I.unwish,q⟩
  | cont=>obtain ⟨σ',H',I,q⟩:=h; exact ⟨σ',H',I.unwish,q⟩
  | ret u=>obtain ⟨v,σ',H',I,r,q⟩:=h; exact ⟨v,σ',H',I.unwish,r,q⟩
theorem PSs.nox {st:List Stmt} {t:TS} (h:PSs X.nox st t):PSs X st t:=fun pins s σ H D I hw=>
  wpAny_mono (h pins s σ H D (I.wish _) hw) (fun _ _ q=>q.unwish) fun _ _ z=>False.elim z
end
section
variable {X:Cx} {st:Stmt} {rest:List Stmt} {t u:TS} {e:Expr} {te:TE} {pos:Pos}
noncomputable def tNext:TS:=fun D σ H=>D.nx σ H
noncomputable def tSeq (t u:TS):TS:=fun D σ H=>t { D with nx:=u D } σ H
theorem pss_nil:PSs X [] tNext:=fun _ _ σ H _ I h=>wpAny_execs_nil ⟨σ,H,I,h⟩
theorem pss_cons (h1:PS X st t) (h2:PSs X rest u):PSs X (st :: rest) (tSeq t u):=by
  intro pins s σ H D I h
  refine wpAny_execs_cons (thn (h1 pins s σ H { D with nx:=u D } I h) fun f s1 q=>?_)
  cases f with
  | next=>
    obtain ⟨σ',H',I',q⟩:=q
    exact h2 pins s1 σ' H' D I' q
  | ret v=>exact q
  | brk=>exact q
  | cont=>exact q
theorem pss_one (h1:PS X st t):PSs X [st] t:=by
  intro pins s σ H D I h
  refine wpAny_execs_cons (thn (h1 pins s σ H D I h) fun f s1 q=>?_)
  cases f with
  | next=>exact wpAny_execs_nil q
  | ret v=>exact q
  | brk=>exact q
  | cont=>exact q
theorem Inv.quiet {pins:List (Addr × Obj)} {σ:St} {H:Hp} {s:Shared} (I:Inv X pins σ H s):interactive X.env=false:=by simp [interactive,I.ok.kind]
noncomputable def tDrop (te:TE):TS:=fun D σ H=>te σ H fun _ H1=>D.nx σ H1
theorem ps_expr (he:PE X e te) (hs:swapsWith e none pos.line X.env=pure false:=by rfl):PS X (.Expr e pos) (tDrop te):=by
  intro pins s σ H D I h
  exact wpAny_Expr_any (thn (he pins s σ H _ I h) fun v s1 ⟨x,H1,I1,r1,q1⟩=>⟨σ,H1,I1,q1⟩) I.quiet hs
noncomputable def tRet (te:TE):TS:=fun D σ H=>te σ H D.rt
theorem ps_ret (he:PE X e te):PS X (.Return (some e) pos) (tRet te):=by
  intro pins s σ H D I h
  exact wpAny_Return_some (thn (he pins s σ H _ I h) fun v s1 ⟨x,H1,I1,r1,q1⟩=>⟨x,σ,H1,I1,r1,q1⟩)
noncomputable def tIfS (c:TT) (t u:TS):TS:=fun D σ H=>c σ H fun b H1=>if b=true then t D σ H1 else u D σ H1
theorem ps_if {c:Expr} {a b:List Stmt} {tc:TT} (hc:PT X c tc) (ha:PSs X a t) (hb:PSs X b u):PS X (.If c a b pos) (tIfS tc t u):=by
  intro pins s σ H D I h
  refine wpAny_If (thn (hc pins s σ H _ I h) fun d s1 ⟨H1,I1,q1⟩=>?_)
  cases d with
  | true=>exact ha pins s1 σ H1 D I1 q1
  | false=>exact hb pins s1 σ H1 D I1 q1
end
noncomputable abbrev TG:=V→St→Hp→(St→Hp→Prop)→Prop
noncomputable abbrev TGs:=List V→St→Hp→(St→Hp→Prop)→Prop
noncomputable def PG (X:Cx) (target:Expr) (t:TG):Prop:=
  ∀ (pins:List (Addr × Obj)) (s:Shared) (σ:St) (H:Hp) (v:V) (u:Value) (Q:St→Hp→Prop),Inv X pins σ H s→RelV v u→t v σ H Q→
    wpAny (model X.prog X.w) X.A (assign target X.env u) (fun _ s'=>∃ σ' H',Inv X pins σ' H' s'∧Q σ' H') X.xe s
noncomputable def PGs (X:Cx) (ts:List Expr) (t:TGs):Prop:=
  ∀ (pins:List (Addr × Obj)) (s:Shared) (σ:St) (H:Hp) (vs:List V) (us:List Value) (Q:St→Hp→Prop),Inv X pins σ H s→Vals vs us→t vs σ H Q→
    wpAny (model X.prog X.w) X.A (assignInOrder ((assignEach ts X.env).map (·.2)) us) (fun _ s'=>∃ σ' H',Inv X pins σ' H' s'∧Q σ' H') X.xe s
noncomputable abbrev TSet:=V→V→V→Hp→(Hp→Prop)→Prop
noncomputable def PSet (X:Cx) (t:TSet):Prop:=
  ∀ (pins:List (Addr × Obj)) (s:Shared) (σ:St) (H:Hp) (o i v:V) (ov iv u:Value) (Q:Hp→Prop),Inv X pins σ H s→RelV o ov→RelV i iv→RelV v u→t o i v H Q→
    wpAny (model X.prog X.w) X.A (setItem ov iv u) (fun _ s'=>∃ H',Inv X pins σ H' s'∧Q H') X.xe s
section
variable {X:Cx} {pos:Pos}
noncomputable def gName (i:Nat):TG:=fun v σ H Q=>Q (σ.set i (some v)) H
theorem pg_name {i:Nat} {x:Str} (hN:X.N.Nodup) (hi:X.N[i]?=some x) (hx:Loc X.env.scope x) (hf:X.fn x=true∨X.env.scope.names.lookup x=some .local:=by first | exact .inl rfl | exact .inr rfl | assumption):PG X (.Name x pos) (gName i):=by
  intro pins s σ H v u Q I r h
  exact wpAny_assign_Name (store_ok I hN hi hx r (fun s' I'=>⟨_,H,I',h⟩) hf)
noncomputable def gNil:TGs:=fun vs σ H Q=>vs=[]∧Q σ H
noncomputable def gCons (t:TG) (u:TGs):TGs:=fun vs σ H Q=>∃ v r,vs=v :: r∧t v σ H fun σ' H'=>u r σ' H' Q
theorem pgs_nil:PGs X [] gNil:=by
  intro pins s σ H vs us Q I r h
  obtain ⟨e,h⟩:=h
  subst e
  cases r
  exact assignInOrder_nil ⟨σ,H,I,h⟩
theorem pgs_cons {e:Expr} {es:List Expr} {t:TG} {u:TGs} (h1:PG X e t) (h2:PGs X es u)
    (hs:(assignEach (e :: es) X.env).map (·.2)=assign e X.env :: (assignEach es X.env).map (·.2):=by rfl):PGs X (e :: es) (gCons t u):=by
  intro pins s σ H vs us Q I r h
  obtain ⟨v,vr,e1,h⟩:=h
  subst e1
  cases r with
  | cons r rr=>
    rw [hs]
    refine assignInOrder_cons (thn (h1 pins s σ H _ _ _ I r h) fun _ s1 ⟨σ1,H1,I1,q1⟩=>?_)
    exact h2 pins s1 σ1 H1 _ _ Q I1 rr q1
noncomputable def gTup (K:PySem.W.Frag) (n:Nat) (t:TGs):TG:=fun v σ H Q=>∃ a xs,v=.ref a∧SqT K H a xs∧xs.length=n∧t xs σ H Q
theorem pg_tup {es:List Expr} {k:Nat} {t:TGs} {n:Nat} (hc:X.calm=true) (h:PGs X es t)
    (hn:(assignEach es X.env).length=n:=by rfl) (hst:(assignEach es X.env).findIdx? (·.1)=none:=by rfl):PG X (.Tuple es k pos) (gTup X.K n t):=by
  intro pins s σ H v u Q I r hw
  obtain ⟨a,xs,e1,hq,hl,hw⟩:=hw
  subst e1
  cases r
  obtain ⟨its,rv,ht,hz⟩:=I.tuple hq
  refine assign_Tuple_tuple (I.ok.hd hc) ht (by simp [hn,← hl,rv.length]) hst fun h' hx=>?_
  have I1:Inv X pins σ H { s with heap:=h' }:=I.kept (t':=s.toks) fun b o e=>hx b o (Nat.ne_of_lt (Heap.lt_size e)) e
  exact h pins _ σ H xs _ Q I1 (by simpa using rv) hw
noncomputable def gSub (to ti:TE) (t:TSet):TG:=fun v σ H Q=>to σ H fun o H1=>ti σ H1 fun i H2=>t o i v H2 fun H3=>Q σ H3
theorem pg_sub {o i:Expr} {to ti:TE} {t:TSet} (ho:PE X o to) (hi:PE X i ti) (hs:PSet X t)
    (ha:∀ v,assign (.Subscript o i pos) X.env v=(do
      let ov ← holding [v] (eval o X.env)
      let iv ← holding [v,ov] (eval i X.env)
      standAt pos
      holding [v,ov,iv] (setItem ov iv v)
      release [v,ov,iv] []):=by intro _; rfl):PG X (.Subscript o i pos) (gSub to ti t):=by
  intro pins s σ H v u Q I r h
  rw [ha]
  refine wpAny_bind (wpAny_holding (thn (ho pins s σ H _ I h) fun ov s1 ⟨x,H1,I1,r1,q1⟩=>?_))
  refine wpAny_bind (wpAny_holding (thn (hi pins s1 σ H1 _ I1 q1) fun iv s2 ⟨y,H2,I2,r2,q2⟩=>?_))
  refine wpAny_bind (wpAny_standAt (wpAny_bind (wpAny_holding (thn (hs pins s2 σ H2 x y v ov iv u _ I2 r1 r2 r q2) fun _ s3 ⟨H3,I3,q3⟩=>?_))))
  exact wpAny_release ⟨σ,H3,I3,q3⟩
noncomputable def tAsg (te:TE) (g:TG):TS:=fun D σ H=>te σ H fun x H1=>g x σ H1 D.nx
theorem ps_asg {tg e:Expr} {te:TE} {g:TG} (he:PE X e te) (hg:PG X tg g) (hs:swapsWithSole [tg] e pos.line X.env=pure false:=by rfl) (hw:swappedStores [tg] e X.env=pure none:=by rfl)
    (h1:(assignEach [tg] X.env).map (·.2)=[assign tg X.env]:=by rfl):PS X (.Assign [tg] e pos) (tAsg te g):=by
  intro pins s σ H D I h
  refine wpAny_Assign_stores (thn (he pins s σ H _ I h) fun v s1 ⟨x,H1,I1,r1,q1⟩=>?_) hs hw
  rw [h1]
  exact thn (hg pins s1 σ H1 x v _ I1 r1 q1) fun _ s2 q=>q
theorem ps_set {i:Nat} {x:Str} {e:Expr} {te:TE} {pos':Pos} (hN:X.N.Nodup) (hi:X.N[i]?=some x) (hx:Loc X.env.scope x) (he:PE X e te) (hs:swapsWith e (some (.Name x pos')) pos.line X.env=pure false:=by rfl) (hf:X.fn x=true∨X.env.scope.names.lookup x=some .local:=by first | exact .inl rfl | exact .inr rfl | assumption) :
    PS X (.Assign [.Name x pos'] e pos) (tAsg te (gName i)):=by
  intro pins s σ H D I h
  refine wpAny_Assign_Name (thn (he pins s σ H _ I h) fun v s1 ⟨y,H1,I1,r1,q1⟩=>?_) hs
  exact store_ok I1 hN hi hx r1 (fun s2 I2=>⟨_,H1,I2,q1⟩) hf
end
section
variable {X:Cx} {pos:Pos}
noncomputable def tWhile (c:TT) (tb:TS):TS:=fun D σ H=>∃ W:Nat→St→Hp→Prop,(∃ m,W m σ H)∧∀ m σ H,W m σ H→
  c σ H fun b H1=>if b=true then ∃ N:St→Hp→Prop,(∀ σ' H',N σ' H'→∃ m',m' < m∧W m' σ' H')∧tb { D with nx:=N,ct:=N,bk:=D.nx } σ H1 else D.nx σ H1
theorem ps_while {c:Expr} {body:List Stmt} {tc:TT} {tb:TS} (hp:PassesOwn (model X.prog X.w) X.A X.env X.xe) (hc:PT X c tc) (hb:PSs X body tb):PS X (.While c body [] pos) (tWhile tc tb):=by
  intro pins s σ H D I h
  obtain ⟨W,⟨m0,w0⟩,turn⟩:=h
  refine wpAny_While (codeAny_whileLoop (fun n s'=>∃ σ' H',Inv X pins σ' H' s'∧W n σ' H') ?_ m0 ⟨σ,H,I,w0⟩)
  rintro n s1 ⟨σ1,H1,I1,w1⟩
  refine wpAny_passesOwn hp (thn (hc pins s1 σ1 H1 _ I1 (turn n σ1 H1 w1)) fun b s2 ⟨H2,I2,q2⟩=>?_)
  cases b with
  | true=>
    obtain ⟨N,hN,q2⟩:=q2
    rw [if_pos rfl]
    refine wpAny_passesOwn hp (thn (hb pins s2 σ1 H2 _ I2 q2) fun f s3 q3=>?_)
    cases f with
    | next=>
      obtain ⟨σ3,H3,I3,n3⟩:=q3
      obtain ⟨m',hm,w3⟩:=hN σ3 H3 n3
      exact ⟨m',hm,σ3,H3,I3,w3⟩
    | cont=>
      obtain ⟨σ3,H3,I3,n3⟩:=q3
      obtain ⟨m',hm,w3⟩:=hN σ3 H3 n3
      exact ⟨m',hm,σ3,H3,I3,w3⟩
    | brk=>exact q3
    | ret v=>exact q3
  | false=>
    rw [if_neg Bool.false_ne_true]
    exact wpAny_execs_nil ⟨σ1,H2,I2,q2⟩
end
structure It where
  go:Nat→Hp→Prop
  yld:Nat→Hp→V→Hp→Prop
  stop:Nat→Hp→Prop
noncomputable def FpOk (X:Cx) (pins:List (Addr × Obj)) (H:Hp) (b:Addr):Prop:=
  H b=none∧b ≠ X.env.locals∧b ∉ X.fs∧(b ∈ X.ex∨X.s₀.heap.objs.size ≤ b)∧(∀ x c,X.env.cells.lookup x=some c→c ≠ b)∧∀ p ∈ X.pn ++ pins,p.1 ≠ b
theorem Inv.fpOk {X:Cx} {pins:List (Addr × Obj)} {σ:St} {H H':Hp} {s:Shared} {b:Addr} (I:Inv X pins σ H s) (hb:s.heap.objs.size ≤ b) (hn:H' b=none):FpOk X pins H' b:=by
  refine ⟨hn,Nat.ne_of_gt (Nat.lt_of_lt_of_le I.lt hb),I.nofs hb,.inr (Nat.le_trans I.sz hb),fun x c e z=>?_,fun p hp z=>?_⟩
  · obtain ⟨v,q⟩:=I.cell x c e
    exact absurd (Nat.lt_of_lt_of_le q.lt (by rw [z]; exact hb)) (Nat.lt_irrefl _)
  · exact absurd (Nat.lt_of_lt_of_le (Heap.lt_size (I.pin p hp).1) (by rw [z]; exact hb)) (Nat.lt_irrefl _)
structure Turn (P:Program) (w:World) (K:PySem.W.Frag) (tg:Expr) (J:It) (fp:List Addr) (it:Addr) (tn:Nat→Heap→Prop):Prop where
  mem:it ∈ fp
  obj:∀ i h,tn i h→∀ b ∈ fp,∃ o,h.get? b=some o∧∀ v,o.data ≠ .cell v
  keep:∀ i h h',tn i h→(∀ b ∈ fp,∀ o,h.get? b=some o→h'.get? b=some o)→tn i h'
  item:∀ (X:Cx),X.prog=P→X.w=w→X.K=K→X.calm=true→∀ (i:Nat) (pins:List (Addr × Obj)) (s:Shared) (σ:St) (H:Hp) (E:Value→Shared→Prop),Inv X pins σ H s→(∀ b ∈ fp,FpOk X pins H b)→tn i s.heap→J.go i H→
    wpAny (model P w) X.A (pyNext (.ref it)) (fun r s1=>∃ u,r=some u∧
      wpAny (model P w) X.A (letOwnedTupleGo tg (.ref it) u) (fun _ s2=>∃ x H',Inv X pins σ H' s2∧RelV x u∧J.yld i H x H'∧tn (i + 1) s2.heap∧∀ b ∈ fp,H' b=none) E s1) E s
  done:∀ (X:Cx),X.prog=P→X.w=w→X.K=K→X.calm=true→∀ (i:Nat) (pins:List (Addr × Obj)) (s:Shared) (σ:St) (H:Hp) (E:Value→Shared→Prop),Inv X pins σ H s→(∀ b ∈ fp,FpOk X pins H b)→tn i s.heap→J.stop i H→
    wpAny (model P w) X.A (pyNext (.ref it)) (fun r s1=>r=none∧Inv X pins σ H s1) E s
  self:∀ (A:Around) (i:Nat) (s:Shared) (Q:Value→Shared→Prop) (E:Value→Shared→Prop),tn i s.heap→Q (.ref it) s→wpAny (model P w) A (pyIter (.ref it)) Q E s
noncomputable abbrev TI:=St→Hp→(It→Hp→Prop)→Prop
noncomputable def PIE (X:Cx) (pins:List (Addr × Obj)) (σ:St) (tg:Expr) (R:It→Hp→Prop) (itv:Value) (s2:Shared):Prop:=
  ∃ (it:Addr) (fp:List Addr) (tn:Nat→Heap→Prop) (J:It) (H':Hp),itv=.ref it∧Inv X pins σ H' s2∧Turn X.prog X.w X.K tg J fp it tn∧tn 0 s2.heap∧(∀ b ∈ fp,FpOk X pins H' b)∧R J H'
noncomputable def PI (X:Cx) (tg iter:Expr) (wi:TI):Prop:=
  ∀ (pins:List (Addr × Obj)) (s:Shared) (σ:St) (H:Hp) (R:It→Hp→Prop),Inv X pins σ H s→wi σ H R→
    wpAny (model X.prog X.w) X.A (eval iter X.env) (fun v s1=>wpAny (model X.prog X.w) X.A (pyIter v) (PIE X pins σ tg R) X.xe s1) X.xe s
theorem go_of {M:Model} {A:Around} {E:Value→Shared→Prop} {s:Shared} {tg:Expr} {it:Addr} {u:Value} {o:Obj} {n:String} {vs:Array Value} {Q:Unit→Shared→Prop} (ho:s.heap.get? it=some o) (hc:o.cls=.type n) (hd:o.data=.fields vs)
    (hn:["enumerate", "zip", "dict_itemiterator", "dict_reverseitemiterator", "odict_iterator", "itertools.zip_longest", "itertools.pairwise"].contains n=false) (hQ:Q () s):wpAny M A (letOwnedTupleGo tg (.ref it) u) Q E s:=by
  unfold letOwnedTupleGo
  cases tg <;> first
    | exact wpAny_pure hQ
    | (cases u <;> first
        | exact wpAny_pure hQ
        | (refine wpAny_bind (wpAny_load ho ?_)
           rw [hc,hd]
           show wpAny M A (if (["enumerate", "zip", "dict_itemiterator", "dict_reverseitemiterator", "odict_iterator", "itertools.zip_longest", "itertools.pairwise"].contains n && vs[0]? == some (rawInt _))=true then _ else _) Q E s
           rw [if_neg (by intro h; rw [hn,Bool.false_and] at h; cases h)]
           exact wpAny_pure hQ))
noncomputable def Itl (K:PySem.W.Frag) (a:Addr):It:=
  ⟨fun i H=>∃ xs x,SqL K H a xs∧xs[i]?=some x,fun i H x H'=>H'=H∧∀ xs,SqL K H a xs→xs[i]?=some x,fun i H=>∃ xs,SqL K H a xs∧xs.length ≤ i⟩
noncomputable def Itt (K:PySem.W.Frag) (a:Addr):It:=
  ⟨fun i H=>∃ xs x,SqT K H a xs∧xs[i]?=some x,fun i H x H'=>H'=H∧∀ xs,SqT K H a xs→xs[i]?=some x,fun i H=>∃ xs,SqT K H a xs∧xs.length ≤ i⟩
noncomputable def Itr (lo:Int) (n:Nat):It:=⟨fun i _=>i < n,fun i H x H'=>H'=H∧x=.int (lo + i),fun i _=>n ≤ i⟩
theorem turn_list {P:Program} {w:World} {K:PySem.W.Frag} {tg:Expr} (a it:Addr):Turn P w K tg (Itl K a) [it] it (fun i h=>h.IsListIter it a i) where
  mem:=by simp
  obj:=fun i h st b hb=>by
    have e:b=it:=by simpa using hb
    subst e
    obtain ⟨o,e,c,d⟩:=st
    exact ⟨o,e,fun v z=>by rw [d] at z; cases z⟩
  keep:=fun i h h' st k=>st.at fun o e=>k it (by simp) o e
  item:=by
    intro X hP hw hK hc i pins s σ H E I hf st hg
    subst hP hw hK
    obtain ⟨xs,x,hq,hx⟩:=hg
    obtain ⟨its,rv,p,hz⟩:=I.list hq
    obtain ⟨u,hu,ru⟩:=rv.get hx
    obtain ⟨f0,f1,f2,f3,f4,f5⟩:=hf it (by simp)
    refine wpAny_pyNext_list_item st p.isList (x:=u) (by simpa using hu) fun h' st' sb=>?_
    have I1:Inv X pins σ H { s with heap:=h' }:=I.turned (t':=s.toks) (fun b o hb e=>(sb.2 b hb).trans e) f0 f1 f3 f4 f5
    obtain ⟨o,e,c,d⟩:=id st'
    exact ⟨u,rfl,go_of (s:={ s with heap:=h' }) e c d (by decide) ⟨x,H,I1,ru,⟨rfl,fun ys hy=>by rw [I.list_inj hy hq]; exact hx⟩,st',fun b hb=>(hf b hb).1⟩⟩
  done:=by
    intro X hP hw hK hc i pins s σ H E I hf st hg
    subst hP hw hK
    obtain ⟨xs,hq,hx⟩:=hg
    obtain ⟨its,rv,p,hz⟩:=I.list hq
    obtain ⟨f0,f1,f2,f3,f4,f5⟩:=hf it (by simp)
    have hl:=rv.length
    exact wpAny_pyNext_list_end (I.ok.hd hc) st p.isList (by simp; omega) fun h' eb=>⟨rfl,I.turned (t':=s.toks) (fun b o hb e=>eb b o hb e) f0 f1 f3 f4 f5⟩
  self:=fun _ _ _ _ _ st h=>wpAny_pyIter_listiter st h
theorem turn_tuple {P:Program} {w:World} {K:PySem.W.Frag} {tg:Expr} (a it:Addr):Turn P w K tg (Itt K a) [it] it (fun i h=>h.IsTupleIter it a i) where
  mem:=by simp
  obj:=fun i h st b hb=>by
    have e:b=it:=by simpa using hb
    subst e
    obtain ⟨o,e,c,d⟩:=st
    exact ⟨o,e,fun v z=>by rw [d] at z; cases z⟩
  keep:=fun i h h' st k=>st.at fun o e=>k it (by simp) o e
  item:=by
    intro X hP hw hK hc i pins s σ H E I hf st hg
    subst hP hw hK
    obtain ⟨xs,x,hq,hx⟩:=hg
    obtain ⟨its,rv,p,hz⟩:=I.tuple hq
    obtain ⟨u,hu,ru⟩:=rv.get hx
    obtain ⟨f0,f1,f2,f3,f4,f5⟩:=hf it (by simp)
    refine wpAny_pyNext_tuple_item st (show s.heap.IsTuple a its.toArray from p) (x:=u) (by simpa using hu) fun h' st' sb=>?_
    have I1:Inv X pins σ H { s with heap:=h' }:=I.turned (t':=s.toks) (fun b o hb e=>(sb.2 b hb).trans e) f0 f1 f3 f4 f5
    obtain ⟨o,e,c,d⟩:=id st'
    exact ⟨u,rfl,go_of (s:={ s with heap:=h' }) e c d (by decide) ⟨x,H,I1,ru,⟨rfl,fun ys hy=>by rw [I.tuple_inj hy hq]; exact hx⟩,st',fun b hb=>(hf b hb).1⟩⟩
  done:=by
    intro X hP hw hK hc i pins s σ H E I hf st hg
    subst hP hw hK
    obtain ⟨xs,hq,hx⟩:=hg
    obtain ⟨its,rv,p,hz⟩:=I.tuple hq
    obtain ⟨f0,f1,f2,f3,f4,f5⟩:=hf it (by simp)
    have hl:=rv.length
    exact wpAny_pyNext_tuple_end (I.ok.hd hc) st (show s.heap.IsTuple a its.toArray from p) (by simp; omega) fun h' eb=>⟨rfl,I.turned (t':=s.toks) (fun b o hb e=>eb b o hb e) f0 f1 f3 f4 f5⟩
  self:=fun _ _ _ _ _ st h=>wpAny_pyIter_tupleiter st h
theorem turn_range {P:Program} {w:World} {K:PySem.W.Frag} {tg:Expr} (it:Addr) (lo:Int) (n:Nat):Turn P w K tg (Itr lo n) [it] it (fun i h=>IsRangeIter h it (lo + (i:Nat) * 1) ((n:Int) - (i:Nat)) 1) where
  mem:=by simp
  obj:=fun i h st b hb=>by
    have e:b=it:=by simpa using hb
    subst e
    exact ⟨_,st,fun v z=>by
      have z':Data.fields _=Data.cell v:=z
      cases z'⟩
  keep:=fun i h h' st k=>k it (by simp) _ st
  item:=by
    intro X hP hw hK hc i pins s σ H E I hf st hg
    subst hP hw hK
    obtain ⟨f0,f1,f2,f3,f4,f5⟩:=hf it (by simp)
    have W:=Walks.range (prog:=X.prog) (w:=X.w) (I.ok.hd hc) it lo 1 n
    refine W.item i s _ _ hg st fun v h' tk hv st' kk=>?_
    obtain ⟨t,rfl⟩:=hv
    have I1:Inv X pins σ H { s with heap:=h',toks:=tk }:=I.turned (fun b o hb e=>kk b o (by simpa using hb) e) f0 f1 f3 f4 f5
    refine ⟨_,rfl,go_of (s:={ s with heap:=h',toks:=tk }) (n := "range_iterator") st' rfl rfl (by decide) ⟨.int (lo + i),H,I1,⟨t,?_⟩,⟨rfl,rfl⟩,st',fun b hb=>(hf b hb).1⟩⟩
    rw [Int.mul_one]
  done:=by
    intro X hP hw hK hc i pins s σ H E I hf st hg
    subst hP hw hK
    obtain ⟨f0,f1,f2,f3,f4,f5⟩:=hf it (by simp)
    exact wpAny_pyNext_range_end (I.ok.hd hc) st (by have:n ≤ i:=hg; omega) fun h' eb=>⟨rfl,I.turned (t':=s.toks) (fun b o hb e=>eb b o hb e) f0 f1 f3 f4 f5⟩
  self:=fun _ _ _ _ _ st h=>wpAny_pyIter_rangeiter st h
end L2
namespace L2
open PySem PySem.Spec PyProof.Rows
section
variable {X:Cx} {tg:Expr}
theorem range_it {pins:List (Addr × Obj)} {σ:St} {H:Hp} {s:Shared} {R:It→Hp→Prop} {E:Value→Shared→Prop} {lo hi:Int} {t u v:Tok} {tk:Nat} (I:Inv X pins σ H s) (h1:-(2 ^ 62) ≤ lo) (h2:lo < 2 ^ 62) (h3:-(2 ^ 62) ≤ hi) (h4:hi < 2 ^ 62)
    (q:R (Itr lo (hi - lo).toNat) H):wpAny (model X.prog X.w) X.A (pyIter (.ref s.heap.objs.size)) (PIE X pins σ tg R) E { s with heap:=s.heap.push { cls:=.type "range",data:=.fields #[.int lo t,.int hi u,.int 1 v] },toks:=tk }:=by
  refine wpAny_pyIter_range (IsRange.new ..) (small_one h1 h2 h3 h4) ?_
  have I1:Inv X pins σ H { s with heap:=s.heap.push { cls:=.type "range",data:=.fields #[.int lo t,.int hi u,.int 1 v] },toks:=tk }:=I.kept fun b o e=>Heap.get?_push_of_some _ e
  refine ⟨(s.heap.push { cls:=.type "range",data:=.fields #[.int lo t,.int hi u,.int 1 v] }).objs.size,[(s.heap.push { cls:=.type "range",data:=.fields #[.int lo t,.int hi u,.int 1 v] }).objs.size],_,_,H,rfl,
    I1.kept (t':=tk) fun b o e=>Heap.get?_push_of_some _ e,turn_range _ lo (hi - lo).toNat,?_,fun b hb=>?_,q⟩
  · have e1:lo + ((0:Nat):Int) * 1=lo:=by simp
    have e2:(((hi - lo).toNat:Nat):Int) - ((0:Nat):Int)=Builtin.Range.rangeSize lo hi 1:=by rw [rangeSize_one]; split <;> omega
    show IsRangeIter _ _ (lo + ((0:Nat):Int) * 1) ((((hi - lo).toNat:Nat):Int) - ((0:Nat):Int)) 1
    rw [e1,e2]
    exact Heap.get?_push_size _ rfl
  · have e:b=(s.heap.push { cls:=.type "range",data:=.fields #[.int lo t,.int hi u,.int 1 v] }).objs.size:=by simpa using hb
    subst e
    exact I1.fpOk (Nat.le_refl _) (I1.hok.fresh (Nat.le_refl _))
noncomputable def iRng1 (ta:TA):TI:=fun σ H R=>ta σ H fun vs H1=>∃ j:Int,vs=[.int j]∧-(2 ^ 62) ≤ j∧j < 2 ^ 62∧R (Itr 0 j.toNat) H1
noncomputable def iRng2 (ta:TA):TI:=fun σ H R=>ta σ H fun vs H1=>∃ i j:Int,vs=[.int i,.int j]∧(-(2 ^ 62) ≤ i∧i < 2 ^ 62∧-(2 ^ 62) ≤ j∧j < 2 ^ 62)∧R (Itr i (j - i).toNat) H1
theorem pi_range1 {a:Expr} {ta:TA} {p pos:Pos} (hg:Gl X "range") (hm:X.mg "range" = none) (ha:PA X [a] ta) (hs:starEach [a] X.env=[(false,eval a X.env)]:=by rfl):PI X tg (.Call (.Name "range" p) [a] [] pos) (iRng1 ta):=by
  intro pins s σ H R I h
  refine Call_ (ld_blt I hg hm boot_range (PyProof.Rows.callWith_type1 (thn (ha pos pins s σ H _ I h) fun us s1 ⟨vs,H1,I1,r1,q1⟩=>?_) hs rfl))
  obtain ⟨j,e,q1,q2,q⟩:=q1
  subst e
  cases r1 with
  | cons r rr=>
    cases rr
    obtain ⟨t,rfl⟩:=r
    exact call_range_1 (range_it I1 (by omega) (by omega) q1 q2 (by simpa using q))
theorem pi_range2 {a b:Expr} {ta:TA} {p pos:Pos} (hg:Gl X "range") (hm:X.mg "range" = none) (ha:PA X [a,b] ta) (hs:starEach [a,b] X.env=[(false,eval a X.env),(false,eval b X.env)]:=by rfl) (hs2:starEach [b] X.env=[(false,eval b X.env)]:=by rfl) :
    PI X tg (.Call (.Name "range" p) [a,b] [] pos) (iRng2 ta):=by
  intro pins s σ H R I h
  refine Call_ (ld_blt I hg hm boot_range (PyProof.Rows.callWith_type1 (thn (ha pos pins s σ H _ I h) fun us s1 ⟨vs,H1,I1,r1,q1⟩=>?_) (by rw [hs,hs2]) (by rw [hs2]; rfl)))
  obtain ⟨i,j,e,⟨q1,q2,q3,q4⟩,q⟩:=q1
  subst e
  cases r1 with
  | cons r rr=>
    cases rr with
    | cons r' rr=>
      cases rr
      obtain ⟨t,rfl⟩:=r
      obtain ⟨t',rfl⟩:=r'
      exact call_range_2 (range_it I1 q1 q2 q3 q4 q)
noncomputable def tFor (wi:TI) (g:TG) (tb:TS):TS:=fun D σ H=>wi σ H fun J H1=>∃ W:Nat→Nat→St→Hp→Prop,(∃ m,W 0 m σ H1)∧∀ i m σ H,W i m σ H→
  (J.stop i H∧D.nx σ H)∨(J.go i H∧∃ N:St→Hp→Prop,(∀ σ' H',N σ' H'→∃ m',m' < m∧W (i + 1) m' σ' H')∧∀ x H',J.yld i H x H'→g x σ H' fun σ2 H2=>tb { D with nx:=N,ct:=N,bk:=D.nx } σ2 H2)
noncomputable def pinsAt (fp:List Addr) (h:Heap):List (Addr × Obj):=fp.filterMap fun b=>(h.get? b).map fun o=>(b,o)
theorem mem_pinsAt {fp:List Addr} {h:Heap} {b:Addr} {o:Obj} (hb:b ∈ fp) (e:h.get? b=some o):(b,o) ∈ pinsAt fp h:=List.mem_filterMap.mpr ⟨b,hb,by rw [e]; rfl⟩
theorem of_pinsAt {fp:List Addr} {h:Heap} {p:Addr × Obj} (hp:p ∈ pinsAt fp h):p.1 ∈ fp∧h.get? p.1=some p.2:=by
  obtain ⟨b,hb,e⟩:=List.mem_filterMap.mp hp
  cases q:h.get? b with
  | none=>rw [q] at e; cases e
  | some o=>
    rw [q] at e
    have e':(b,o)=p:=Option.some.inj e
    subst e'
    exact ⟨hb,q⟩
theorem Inv.pinned {pins:List (Addr × Obj)} {σ:St} {H:Hp} {s:Shared} {fp:List Addr} (I:Inv X pins σ H s) (hf:∀ b ∈ fp,FpOk X pins H b) (ho:∀ b ∈ fp,∃ o,s.heap.get? b=some o∧∀ v,o.data ≠ .cell v):Inv X (pins ++ pinsAt fp s.heap) σ H s:=
  I.pins_of fun p hp=>(List.mem_append.mp hp).elim (fun z=>I.pin p (List.mem_append_right _ z)) fun z=>by
    obtain ⟨hb,e⟩:=of_pinsAt z
    obtain ⟨f0,f1,f2,_⟩:=hf p.1 hb
    obtain ⟨o,e',d⟩:=ho p.1 hb
    rw [e] at e'; cases e'
    exact ⟨e,f0,f1,f2,d⟩
theorem Inv.unpinned {pins pl:List (Addr × Obj)} {σ:St} {H:Hp} {s:Shared} (I:Inv X (pins ++ pl) σ H s):Inv X pins σ H s:=I.pins_of fun p hp=>I.pin p (List.mem_append_right _ (List.mem_append_left _ hp))
theorem ps_for {iter:Expr} {body:List Stmt} {wi:TI} {g:TG} {tb:TS} {pos:Pos} (hp:PassesOwn (model X.prog X.w) X.A X.env X.xe) (hc:X.calm=true) (hi:PI X tg iter wi) (hg:PG X tg g) (hb:PSs X body tb)
    (hs:∀ x,foldedSetIterable iter X.env x=pure x:=by intro _; rfl):PS X (.For tg iter body [] pos) (tFor wi g tb):=by
  intro pins s σ H D I h
  refine wpAny_For (thn (hi pins s σ H _ I h) fun v s1 h1=>thn h1 fun itv s2 h2=>?_) hs
  obtain ⟨it,fp,tn,J,H2,e,I2,T,st2,f2,W,⟨m0,w0⟩,turn⟩:=h2
  subst e
  -- what stays true of the iterator's objects through the loop
  have stat:∀ {H':Hp},(∀ b ∈ fp,H' b=none)→∀ b ∈ fp,FpOk X pins H' b:=fun hn b hb=>⟨hn b hb,(f2 b hb).2⟩
  refine codeAny_forLoop_any (fun n s'=>∃ i σ' H',Inv X pins σ' H' s'∧tn i s'.heap∧(∀ b ∈ fp,H' b=none)∧W i n σ' H') ?_ m0 ⟨0,σ,H2,I2,st2,fun b hb=>(f2 b hb).1,w0⟩
  rintro n s3 ⟨i,σ3,H3,I3,st3,fr3,w3⟩
  rcases turn i n σ3 H3 w3 with ⟨stop,qn⟩ | ⟨go,N,hN,step⟩
  · refine wpAny_passesOwn hp (thn (T.done X rfl rfl rfl hc i pins s3 σ3 H3 X.xe I3 (stat fr3) st3 stop) fun r s4 ⟨hr,I4⟩=>?_)
    subst hr
    exact wpAny_execs_nil ⟨σ3,H3,I4,qn⟩
  · refine wpAny_passesOwn hp (thn (T.item X rfl rfl rfl hc i pins s3 σ3 H3 X.xe I3 (stat fr3) st3 go) fun r s4 ⟨u,hr,h4⟩=>?_)
    subst hr
    refine wpAny_passesOwn hp (thn h4 fun _ s5 ⟨x,H5,I5,r5,y5,st5,fr5⟩=>?_)
    have I5':=I5.pinned (stat fr5) (T.obj _ _ st5)
    refine wpAny_passesOwn hp (thn (hg _ s5 σ3 H5 x u _ I5' r5 (step x H5 y5)) fun _ s6 ⟨σ6,H6,I6,q6⟩=>?_)
    refine wpAny_passesOwn hp (thn (hb _ s6 σ6 H6 _ I6 q6) fun f s7 q7=>?_)
    have again:∀ {σ7:St} {H7:Hp},Inv X (pins ++ pinsAt fp s5.heap) σ7 H7 s7→N σ7 H7→∃ m,m < n∧∃ i σ' H',Inv X pins σ' H' s7∧tn i s7.heap∧(∀ b ∈ fp,H' b=none)∧W i m σ' H':=fun {σ7 H7} I7 n7=>by
      obtain ⟨m',hm,w7⟩:=hN σ7 H7 n7
      refine ⟨m',hm,i + 1,σ7,H7,I7.unpinned,T.keep _ _ _ st5 fun b hb o e=>(I7.pin (b,o) (List.mem_append_right _ (List.mem_append_right _ (mem_pinsAt hb e)))).1,fun b hb=>?_,w7⟩
      obtain ⟨o,e,d⟩:=T.obj _ _ st5 b hb
      exact (I7.pin (b,o) (List.mem_append_right _ (List.mem_append_right _ (mem_pinsAt hb e)))).2.1
    cases f with
    | next=>obtain ⟨σ7,H7,I7,n7⟩:=q7; exact again I7 n7
    | cont=>obtain ⟨σ7,H7,I7,n7⟩:=q7; exact again I7 n7
    | brk=>obtain ⟨σ7,H7,I7,q7⟩:=q7; exact ⟨σ7,H7,I7.unpinned,q7⟩
    | ret v=>obtain ⟨x7,σ7,H7,I7,r7,q7⟩:=q7; exact ⟨x7,σ7,H7,I7.unpinned,r7,q7⟩
end
end L2
namespace L2
open PySem PySem.Spec PyProof.Rows
noncomputable abbrev R2:=V→V→Hp→VK→Prop
noncomputable def OpR (X:Cx) (f:Value→Value→Sem Value) (r:R2):Prop:=
  ∀ (pins:List (Addr × Obj)) (s:Shared) (σ:St) (H:Hp) (x y:V) (v u:Value) (Q:VK),Inv X pins σ H s→RelV x v→RelV y u→r x y H Q→
    wpAny (model X.prog X.w) X.A (f v u) (EP X pins σ Q) X.xe s
noncomputable def UnR (X:Cx) (f:Value→Sem Value) (r:V→Hp→VK→Prop):Prop:=
  ∀ (pins:List (Addr × Obj)) (s:Shared) (σ:St) (H:Hp) (x:V) (v:Value) (Q:VK),Inv X pins σ H s→RelV x v→r x H Q→
    wpAny (model X.prog X.w) X.A (f v) (EP X pins σ Q) X.xe s
noncomputable def CallR (X:Cx) (f:Value) (r:List V→Hp→VK→Prop):Prop:=
  ∀ (pins:List (Addr × Obj)) (s:Shared) (σ:St) (H:Hp) (xs:List V) (us:List Value) (Q:VK),Inv X pins σ H s→Vals xs us→r xs H Q→
    wpAny (model X.prog X.w) X.A (call f us) (EP X pins σ Q) X.xe s
noncomputable def tOp (r:R2) (ta tb:TE):TE:=fun σ H Q=>ta σ H fun x H1=>tb σ H1 fun y H2=>r x y H2 Q
noncomputable def tUn (r:V→Hp→VK→Prop) (ta:TE):TE:=fun σ H Q=>ta σ H fun x H1=>r x H1 Q
noncomputable def rI (C:Int→Int→Prop) (g:Int→Int→V):R2:=fun x y H Q=>∃ i j,x=.int i∧y=.int j∧C i j∧Q (g i j) H
noncomputable def rI0 (g:Int→Int→V):R2:=fun x y H Q=>∃ i j,x=.int i∧y=.int j∧Q (g i j) H
noncomputable def rU (g:Int→V):V→Hp→VK→Prop:=fun x H Q=>∃ i,x=.int i∧Q (g i) H
section
variable {X:Cx} {a b c:Expr} {ta tb tc:TE} {pos:Pos}
theorem binT (ha:PE X a ta) (hb:PE X b tb) {pins:List (Addr × Obj)} {s:Shared} {σ:St} {H:Hp} {R:V→V→Hp→Prop} (I:Inv X pins σ H s)
    (h:ta σ H fun x H1=>tb σ H1 fun y H2=>R x y H2) {Q:Value→Shared→Prop} {f:Value→Value→Sem Value}
    (hf:∀ v u s2 x y H2,Inv X pins σ H2 s2→RelV x v→RelV y u→R x y H2→wpAny (model X.prog X.w) X.A (f v u) Q X.xe s2) :
    wpAny (model X.prog X.w) X.A (eval a X.env) (fun v s₁=>wpAny (model X.prog X.w) X.A (eval b X.env) (fun u s₂=>wpAny (model X.prog X.w) X.A (f v u) Q X.xe s₂) X.xe s₁) X.xe s:=by
  refine thn (ha pins s σ H _ I h) fun v s1 ⟨x,H1,I1,r1,q1⟩=>?_
  refine thn (hb pins s1 σ H1 _ I1 q1) fun u s2 ⟨y,H2,I2,r2,q2⟩=>?_
  exact hf v u s2 x y H2 I2 r1 r2 q2
theorem pe_op {op:Operator} {r:R2} (ho:OpR X (binaryOp op) r) (ha:PE X a ta) (hb:PE X b tb):PE X (.BinOp a op b pos) (tOp r ta tb):=by
  intro pins s σ H Q I h
  exact wpAny_BinOp (binT ha hb I h fun v u s2 x y H2 I2 rx ry q=>ho pins s2 σ H2 x y v u Q I2 rx ry q)
theorem pe_un {op:UnaryOp} {r:V→Hp→VK→Prop} (ho:UnR X (unaryOp op) r) (ha:PE X a ta):PE X (.UnaryOp op a pos) (tUn r ta):=by
  intro pins s σ H Q I h
  exact UnaryOp_ (thn (ha pins s σ H _ I h) fun v s1 ⟨x,H1,I1,r1,q1⟩=>ho pins s1 σ H1 x v Q I1 r1 q1)
theorem opI {f:Value→Value→Sem Value} {C:Int→Int→Prop} {g:Int→Int→Int}
    (rule:∀ (i j:Int) (t u:Tok) (s:Shared) (Q:Value→Shared→Prop) (E:Value→Shared→Prop),C i j→Q (.int (g i j) s.toks) { s with toks:=s.toks + 1 }→wpAny (model X.prog X.w) X.A (f (.int i t) (.int j u)) Q E s) :
    OpR X f (rI C fun i j=>.int (g i j)):=by
  intro pins s σ H x y v u Q I rx ry h
  obtain ⟨i,j,rfl,rfl,hc,q⟩:=h
  obtain ⟨t,rfl⟩:=rx
  obtain ⟨t',rfl⟩:=ry
  exact rule i j t t' s _ _ hc ⟨.int (g i j),H,I.tok _,⟨_,rfl⟩,q⟩
theorem opI0 {f:Value→Value→Sem Value} {g:Int→Int→Int}
    (rule:∀ (i j:Int) (t u:Tok) (s:Shared) (Q:Value→Shared→Prop) (E:Value→Shared→Prop),Q (.int (g i j) s.toks) { s with toks:=s.toks + 1 }→wpAny (model X.prog X.w) X.A (f (.int i t) (.int j u)) Q E s) :
    OpR X f (rI0 fun i j=>.int (g i j)):=by
  intro pins s σ H x y v u Q I rx ry h
  obtain ⟨i,j,rfl,rfl,q⟩:=h
  obtain ⟨t,rfl⟩:=rx
  obtain ⟨t',rfl⟩:=ry
  exact rule i j t t' s _ _ ⟨.int (g i j),H,I.tok _,⟨_,rfl⟩,q⟩
theorem opB0 {f:Value→Value→Sem Value} {g:Int→Int→Bool}
    (rule:∀ (i j:Int) (t u:Tok) (s:Shared) (Q:Value→Shared→Prop) (E:Value→Shared→Prop),Q (.bool (g i j)) s→wpAny (model X.prog X.w) X.A (f (.int i t) (.int j u)) Q E s) :
    OpR X f (rI0 fun i j=>.bl (g i j)):=by
  intro pins s σ H x y v u Q I rx ry h
  obtain ⟨i,j,rfl,rfl,q⟩:=h
  obtain ⟨t,rfl⟩:=rx
  obtain ⟨t',rfl⟩:=ry
  exact rule i j t t' s _ _ ⟨.bl (g i j),H,I,rfl,q⟩
noncomputable def CDiv (i j:Int):Prop:=0 < j∧j < 1073741824
noncomputable def CMul (i j:Int):Prop:=(-(2 ^ 64) < i∧i < 2 ^ 64)∨(-(2 ^ 64) < j∧j < 2 ^ 64)
theorem CMul.ok {i j:Int} (h:CMul i j):IntMulOk i j:=by
  rcases h with ⟨h1,h2⟩ | ⟨h1,h2⟩
  · exact .of_left (intBits_le_64 h1 h2)
  · exact .of_right (intBits_le_64 h1 h2)
theorem op_add:OpR X (binaryOp .Add) (rI0 fun i j=>.int (i + j)):=opI0 fun _ _ _ _ _ _ _ q=>add_int q
theorem op_sub:OpR X (binaryOp .Sub) (rI0 fun i j=>.int (i - j)):=opI0 fun _ _ _ _ _ _ _ q=>sub_int q
theorem op_mul:OpR X (binaryOp .Mult) (rI CMul fun i j=>.int (i * j)):=opI fun _ _ _ _ _ _ _ hc q=>mul_int q hc.ok
theorem op_fdiv:OpR X (binaryOp .FloorDiv) (rI CDiv fun i j=>.int (i / j)):=opI fun i j _ _ _ _ _ hc q=>by
  have h1:(0:Int) < j:=hc.1
  have h2:j < 1073741824:=hc.2
  exact floordiv_int (by omega) (by rw [Int.fdiv_eq_ediv_of_nonneg i (by omega)]; exact q) (.inl (PyProof.noPylong_small (by omega)))
theorem op_mod:OpR X (binaryOp .Mod) (rI (fun _ j=>0 < j) fun i j=>.int (i % j)):=opI fun i j _ _ _ _ _ hc q=>by
  have h1:(0:Int) < j:=hc
  exact mod_int' (by omega) (by rw [Int.fmod_eq_emod_of_nonneg i (by omega)]; exact q)
theorem unI {f:Value→Sem Value} {g:Int→Int}
    (rule:∀ (i:Int) (t:Tok) (s:Shared) (Q:Value→Shared→Prop) (E:Value→Shared→Prop),Q (.int (g i) s.toks) { s with toks:=s.toks + 1 }→wpAny (model X.prog X.w) X.A (f (.int i t)) Q E s) :
    UnR X f (rU fun i=>.int (g i)):=by
  intro pins s σ H x v Q I rx h
  obtain ⟨i,rfl,q⟩:=h
  obtain ⟨t,rfl⟩:=rx
  exact rule i t s _ _ ⟨.int (g i),H,I.tok _,⟨_,rfl⟩,q⟩
theorem un_neg:UnR X (unaryOp .USub) (rU fun i=>.int (-i)):=unI fun _ _ _ _ _ q=>neg_int q
end
section
variable {X:Cx} {a b c:Expr} {ta tb tc:TE} {pos:Pos}
theorem fin_bl {pins:List (Addr × Obj)} {σ:St} {H:Hp} {s:Shared} {Q:VK} {k k':Bool} (I:Inv X pins σ H s) (q:Q (.bl k) H) (e:k=k'):EP X pins σ Q (.bool k') s:=by
  subst e
  exact ⟨.bl k,H,I,rfl,q⟩
theorem op_lt:OpR X (compareOp .Lt) (rI0 fun i j=>.bl (decide (i < j))):=opB0 fun _ _ _ _ _ _ _ q=>lt_int q
theorem op_le:OpR X (compareOp .LtE) (rI0 fun i j=>.bl (decide (i ≤ j))):=opB0 fun _ _ _ _ _ _ _ q=>le_int q
theorem op_gt:OpR X (compareOp .Gt) (rI0 fun i j=>.bl (decide (j < i))):=opB0 fun _ _ _ _ _ _ _ q=>gt_int q
theorem op_ge:OpR X (compareOp .GtE) (rI0 fun i j=>.bl (decide (j ≤ i))):=opB0 fun _ _ _ _ _ _ _ q=>ge_int q
theorem op_isN:OpR X (compareOp .Is) (fun x y H Q=>y=.non∧Q (.bl (decide (x=.non))) H):=by
  intro pins s σ H x y v u Q I rx ry h
  obtain ⟨rfl,q⟩:=h
  cases ry
  refine is_none_gen (fin_bl I q ?_)
  cases x <;> first
    | (cases rx; rfl)
    | (obtain ⟨t,rfl⟩:=rx; rfl)
theorem OpR.or {f:Value→Value→Sem Value} {r r':R2} (h:OpR X f r) (h':OpR X f r'):OpR X f (fun x y H Q=>r x y H Q∨r' x y H Q):=by
  intro pins s σ H x y v u Q I rx ry q
  rcases q with q | q
  · exact h pins s σ H x y v u Q I rx ry q
  · exact h' pins s σ H x y v u Q I rx ry q
theorem nomark (b:Expr) {op:CmpOp} (h:op ≠ .In:=by decide) (h2:op ≠ .NotIn:=by decide):behindInMarks op b=false:=by
  have e1:(op == CmpOp.In)=false:=by cases op <;> first | rfl | exact absurd rfl h
  have e2:(op == CmpOp.NotIn)=false:=by cases op <;> first | rfl | exact absurd rfl h2
  cases b <;> simp [behindInMarks,e1,e2]
theorem pe_cmpR {op:CmpOp} {r:R2} (ho:OpR X (compareOp op) r) (ha:PE X a ta) (hb:PE X b tb) (hm:behindInMarks op b=false):PE X (.Compare a [op] [b] pos) (tOp r ta tb):=by
  intro pins s σ H Q I h
  exact wpAny_Compare1 (binT ha hb I h fun v u s2 x y H2 I2 rx ry q=>ho pins s2 σ H2 x y v u Q I2 rx ry q) hm
noncomputable def tTest (t:TE):TT:=fun σ H Q=>t σ H fun x H'=>∃ k,x=.bl k∧Q k H'
theorem pt_cmpR {op:CmpOp} {r:R2} (ho:OpR X (compareOp op) r) (ha:PE X a ta) (hb:PE X b tb) (hm:behindInMarks op b=false):PT X (.Compare a [op] [b] pos) (tTest (tOp r ta tb)):=by
  intro pins s σ H Q I h
  refine wpAny_isTrue_Compare1 (thn (ha pins s σ H _ I h) fun v s1 ⟨x,H1,I1,r1,q1⟩=>thn (hb pins s1 σ H1 _ I1 q1) fun u s2 ⟨y,H2,I2,r2,q2⟩=>
    thn (ho pins s2 σ H2 x y v u _ I2 r1 r2 q2) fun c s3 ⟨z,H3,I3,r3,k,e,q3⟩=>?_) hm
  subst e
  cases r3
  exact wpAny_truthy_bool ⟨H3,I3,q3⟩
noncomputable def tChain (r r':R2) (ta tb tc:TE):TE:=fun σ H Q=>ta σ H fun x H1=>tb σ H1 fun y H2=>r x y H2 fun z H3=>∃ k,z=.bl k∧
  (if k=true then tc σ H3 fun w' H4=>r' y w' H4 Q else Q (.bl false) H3)
theorem pe_chain {op op':CmpOp} {r r':R2} (ho:OpR X (compareOp op) r) (ho':OpR X (compareOp op') r') (ha:PE X a ta) (hb:PE X b tb) (hc:PE X c tc)
    (hm:lastMarks [op,op'] [b,c]=false:=by with_unfolding_all rfl):PE X (.Compare a [op,op'] [b,c] pos) (tChain r r' ta tb tc):=by
  intro pins s σ H Q I h
  refine Compare_chain (thn (ha pins s σ H _ I h) fun v s1 ⟨x,H1,I1,r1,q1⟩=>chain_link (thn (hb pins s1 σ H1 _ I1 q1) fun u s2 ⟨y,H2,I2,r2,q2⟩=>
    thn (ho pins s2 σ H2 x y v u _ I2 r1 r2 q2) fun d s3 ⟨z,H3,I3,r3,k,e,q3⟩=>?_)) hm
  subst e
  cases r3
  refine wpAny_truthy_bool ?_
  cases k with
  | false=>exact ite_ff ⟨.bl false,H3,I3,rfl,q3⟩
  | true=>exact ite_tt (chain_last (thn (hc pins s3 σ H3 _ I3 q3) fun w' s4 ⟨z',H4,I4,r4,q4⟩=>ho' pins s4 σ H4 y z' u w' Q I4 r2 r4 q4))
theorem line63:(sizeLine:Nat) < 2 ^ 63:=by rw [sizeLine_eq]; decide
theorem op_add_str:OpR X (binaryOp .Add) (fun x y H Q=>∃ i j,x=.str i∧y=.str j∧i.length + j.length ≤ sizeLine∧Q (.str (i ++ j)) H):=by
  intro pins s σ H x y v u Q I rx ry h
  obtain ⟨i,j,rfl,rfl,hz,q⟩:=h
  obtain ⟨t,rfl⟩:=rx
  obtain ⟨t',rfl⟩:=ry
  exact add_str (fun t' tk=>⟨.str (i ++ j),H,I.tok _,⟨_,rfl⟩,q⟩) hz
theorem vals1 {x:V} {us:List Value} (r:Vals [x] us):∃ u,us=[u]∧RelV x u:=by
  cases r with
  | cons r1 r2=>cases r2; exact ⟨_,rfl,r1⟩
theorem vals2 {x y:V} {us:List Value} (r:Vals [x,y] us):∃ u w',us=[u,w']∧RelV x u∧RelV y w':=by
  cases r with
  | cons r1 r2=>
    cases r2 with
    | cons r3 r4=>cases r4; exact ⟨_,_,rfl,r1,r3⟩
theorem call_max2 (hc:X.calm=true):CallR X (.builtin "max") (fun xs H Q=>∃ i j,xs=[.int i,.int j]∧Q (.int (if j > i then j else i)) H):=by
  intro pins s σ H xs us Q I r h
  obtain ⟨i,j,rfl,q⟩:=h
  obtain ⟨u,w',rfl,⟨t,rfl⟩,⟨t',rfl⟩⟩:=vals2 r
  refine max_two_ints (I.ok.hd hc) fun h' tk k=>⟨_,H,I.kept k,?_,q⟩
  by_cases hj:j > i
  · rw [if_pos hj,if_pos hj]; exact ⟨_,rfl⟩
  · rw [if_neg hj,if_neg hj]; exact ⟨_,rfl⟩
theorem call_int1:CallR X (.type "int") (fun xs H Q=>(∃ i,xs=[.int i]∧Q (.int i) H)∨∃ k,xs=[.bl k]∧Q (.int (if k then 1 else 0)) H):=by
  intro pins s σ H xs us Q I r h
  rcases h with ⟨i,rfl,q⟩ | ⟨k,rfl,q⟩
  · obtain ⟨u,rfl,t,rfl⟩:=vals1 r
    exact call_int_int ⟨.int i,H,I,⟨_,rfl⟩,q⟩
  · obtain ⟨u,rfl,r1⟩:=vals1 r
    cases r1
    exact call_int_bool ⟨.int (if k then 1 else 0),H,I.tok _,⟨_,rfl⟩,q⟩
end
end L2
namespace L2
open PySem PySem.Spec PyProof.Rows
structure ObjM (h:Heap) (x dx C:Addr) (mA:Str→Option Value):Prop where
  obj:h.get? x=some (PySem.W.instObj C dx)
  ns:h.Ns1 dx mA
  ne:dx ≠ x
theorem lookIn_ns {h:Heap} {dx:Addr} {mA:Str→Option Value} (n:h.Ns1 dx mA):∃ od,h.get? dx=some od∧∀ name,PySem.W.lookIn name od=some (mA name):=by
  obtain ⟨o,es,ep,ho,hd,hk,_,hm⟩:=n
  refine ⟨o,ho,fun name=>?_⟩
  have e:=hm name
  unfold nsFind findBy at e
  rw [← Array.find?_toList] at e
  unfold PySem.W.lookIn
  rw [hd]
  dsimp only
  split
  · rename_i y q
    rw [q] at e
    exact congrArg some e
  · rename_i q
    rw [q] at e
    have a:es.toList.any (·.refKey)=false:=by
      rw [List.any_eq_false]
      intro y hy
      obtain ⟨z,t,hkey⟩:=hk y (Array.mem_toList_iff.mp hy)
      simp [DictEntry.refKey,hkey]
    have a':¬ es.toList.any (·.refKey)=true:=by rw [a]; exact Bool.false_ne_true
    rw [if_neg a']
    exact congrArg some e
theorem ObjM.look {h:Heap} {x dx C:Addr} {mA:Str→Option Value} (I:ObjM h x dx C mA):∃ od,PySem.W.InstAt h x (PySem.W.instObj C dx) C (some od)∧∀ name,PySem.W.lookIn name od=some (mA name):=
  let ⟨od,ho,hl⟩:=lookIn_ns I.ns
  ⟨od,⟨I.obj,rfl,rfl,ho⟩,hl⟩
section
variable {prog:Program} {w:World} {A:Around} {E:Value→Shared→Prop} {s:Shared} {K:PySem.W.Frag} {x dx C f:Addr} {mA:Str→Option Value} {name:Str} {v:Value}
end
theorem RelO.some_of {v:V} {o:Option Value} (r:RelO (some v) o):∃ u,o=some u∧RelV v u:=by
  cases o with
  | none=>exact (show False from r).elim
  | some u=>exact ⟨u,rfl,r⟩
section
variable {P:Program} {w:World} {H H':Hp} {h h':Heap} {a C dx:Addr} {fs fs':List (Str × V)}
theorem ins_get (hok:HOk P w H h) (e:H a=some (.ins C dx fs)):∃ mA,ObjM h a dx C mA∧(∀ f,RelO (fs.lookup f) (mA f))∧PySem.Within mA (fs.map (·.1))∧fs.length ≤ 1000∧H dx=some (.own a):=by
  obtain ⟨d,z,ne,ob,mA,n,r,q⟩:=(show ObjOk P w H h a (.ins C dx fs) from hok a _ e)
  exact ⟨mA,⟨ob,n,ne⟩,r,q,z,d⟩
end
structure Cls (K:PySem.W.Frag) (C:Addr):Prop where
  pg:PySem.W.plainGet K C Str.empty=true
  hd:PySem.W.hasDictIn K C=true
  po:PySem.W.plainOver K C=true
  sa:PySem.W.findIn K (.ref C) "__setattr__" = some (some (.builtin "object.__setattr__"))
theorem Cls.get {K:PySem.W.Frag} {C:Addr} (c:Cls K C) (f:Str):PySem.W.plainGet K C f=true:=c.pg
section
variable {X:Cx} {pins:List (Addr × Obj)} {σ:St} {H:Hp} {s:Shared} {a C dx:Addr} {fs:List (Str × V)} {f:Str} {v:V} {A:Around} {E:Value→Shared→Prop}
end
section
variable {X:Cx} {o e value:Expr} {f:Str} {pos pos' tpos:Pos} {ta tv:TE}
end
section
variable {X:Cx} {pins:List (Addr × Obj)} {σ:St} {H:Hp} {s:Shared} {A:Around} {E:Value→Shared→Prop} {Q:Value→Shared→Prop} {c:Value} {b:Bool}
inductive TyOf (K:PySem.W.Frag) (H:Hp):V→Value→Prop where
  | non:TyOf K H .non (.type "NoneType")
  | bl (x:Bool):TyOf K H (.bl x) (.type "bool")
  | int (i:Int):TyOf K H (.int i) (.type "int")
  | str (x:Str):TyOf K H (.str x) (.type "str")
  | flt (x:UInt64):TyOf K H (.flt x) (.type "float")
  | lst {a:Addr} {xs:List V} (e:H a=some (.lst xs)):TyOf K H (.ref a) (.type "list")
  | frz {a:Addr} {o:Obj} {xs:List V} (e:H a=some (.frz o (.lst xs))):TyOf K H (.ref a) (.type "list")
  | tup {a:Addr} {xs:List V} (e:H a=some (.tup xs)):TyOf K H (.ref a) (.type "tuple")
  | dK {a:Addr} {kvs:List (Key × V)} (e:H a=some (.dK kvs)):TyOf K H (.ref a) (.type "dict")
  | dT {a:Addr} {kvs:List (List Key × V)} (e:H a=some (.dT kvs)):TyOf K H (.ref a) (.type "dict")
  | ins {a C dx:Addr} {fs:List (Str × V)} (e:H a=some (.ins C dx fs)) (cl:Cls K C) (ha:PySem.W.findIn K (.ref C) "__class__" = some (some (.builtin "object.__class__")))
      (hn:PySem.W.specialIn K (.builtin "object.__class__") "__get__" = some (some (.builtin "getset_descriptor.__get__"))) (htk:PySem.W.takesIn K (.builtin "object.__class__")=some true)
      (hm:PySem.W.mroIn K C (.type "object")=some true):TyOf K H (.ref a) (.ref C)
theorem isinst_ok {x:V} {u t:Value} (I:Inv X pins σ H s) (rx:RelV x u) (ty:TyOf X.K H x t) (e:PySem.W.kitOne X.K t c=some b) (h:∀ tk,Q (.bool b) { s with toks:=tk }) :
    wpAny (model X.prog X.w) A (call (.builtin "isinstance") [u,c]) Q E s:=by
  cases ty with
  | non=>cases (show u=Value.none from rx); exact PySem.W.kia_one PySem.W.kitx_none I.kIn True.intro e (fun z=>nomatch z) h
  | bl y=>cases (show u=Value.bool y from rx); exact PySem.W.kia_one PySem.W.kitx_bool I.kIn True.intro e (fun z=>nomatch z) h
  | int i=>obtain ⟨t,q⟩:=(show ∃ t,u=Value.int i t from rx); cases q; exact PySem.W.kia_one PySem.W.kitx_int I.kIn True.intro e (fun z=>nomatch z) h
  | str y=>obtain ⟨t,q⟩:=(show ∃ t,u=Value.str y t from rx); cases q; exact PySem.W.kia_one PySem.W.kitx_str I.kIn True.intro e (fun z=>nomatch z) h
  | flt y=>obtain ⟨t,q⟩:=(show ∃ t,u=Value.float y t from rx); cases q; exact PySem.W.kia_one PySem.W.kitx_float I.kIn True.intro e (fun z=>nomatch z) h
  | @lst a xs ea=>
    cases (show u=Value.ref a from rx)
    obtain ⟨_,_,n,_,h1⟩:=(show ObjOk X.prog X.w H s.heap a (.lst xs) from I.hok a _ ea)
    exact PySem.W.kia_one PySem.W.kitx_list I.kIn ⟨_,h1,rfl⟩ e (fun z=>nomatch z) h
  | @frz a ob xs ea=>
    cases (show u=Value.ref a from rx)
    obtain ⟨_,_,_,n,_,h1⟩:=(show ObjOk X.prog X.w H s.heap a (.frz ob (.lst xs)) from I.hok a _ ea)
    exact PySem.W.kia_one PySem.W.kitx_list I.kIn ⟨_,h1,rfl⟩ e (fun z=>nomatch z) h
  | @tup a xs ea=>
    cases (show u=Value.ref a from rx)
    obtain ⟨_,_,_,p⟩:=(show ObjOk X.prog X.w H s.heap a (.tup xs) from I.hok a _ ea)
    obtain ⟨o,h1,h2,_⟩:=p
    exact PySem.W.kia_one PySem.W.kitx_tuple I.kIn ⟨o,h1,h2⟩ e (fun z=>nomatch z) h
  | @dK a kvs ea=>
    cases (show u=Value.ref a from rx)
    obtain ⟨_,_,vs,_,p⟩:=(show ObjOk X.prog X.w H s.heap a (.dK kvs) from I.hok a _ ea)
    obtain ⟨o,es,ep,h1,h2,_⟩:=p
    exact PySem.W.kia_one PySem.W.kitx_dict I.kIn ⟨o,h1,h2.1⟩ e (fun z=>nomatch z) h
  | @dT a kvs ea=>
    cases (show u=Value.ref a from rx)
    obtain ⟨_,_,xs,_,o,es,ep,h1,h2,_⟩:=(show ObjOk X.prog X.w H s.heap a (.dT kvs) from I.hok a _ ea)
    exact PySem.W.kia_one PySem.W.kitx_dict I.kIn ⟨o,h1,h2.1⟩ e (fun z=>nomatch z) h
  | @ins a C dx fs ea cl ha hn htk hm=>
    cases (show u=Value.ref a from rx)
    obtain ⟨mA,O,_⟩:=ins_get I.hok ea
    obtain ⟨od,J,_⟩:=O.look
    exact PySem.W.kia_one (PySem.W.kitx_own (cl.get _) cl.hd ha hn htk hm) I.kIn J e (fun z=>nomatch z) h
end
end L2
namespace L2
open PySem PySem.Spec PyProof.Rows
structure Room (k:Nat) (A:Around):Prop where
  hd:A.handled=none
  dp:A.depth + 3 * k + 5 < recursionLimit
  un:A.units + 16 * k + 200 < cLine
theorem Room.mono {j k:Nat} {A:Around} (r:Room k A) (h:j ≤ k):Room j A:=⟨r.hd,by have:=r.dp; omega,by have:=r.un; omega⟩
theorem Room.deeper {k:Nat} {A:Around} (r:Room (k + 1) A) (env:Env):Room k (A.deeper env):=
  ⟨r.hd,by have:=r.dp; show A.depth + 1 + 3 * k + 5 < _; omega,by have:=r.un; show A.units + 3 + 16 * k + 200 < _; omega⟩
theorem Room.depth {k:Nat} {A:Around} (r:Room k A):A.depth < recursionLimit:=by have:=r.dp; omega
theorem Room.units {k:Nat} {A:Around} (r:Room k A):A.units + 64 < cLine:=by have:=r.un; omega
noncomputable def tNil:TA:=fun _ H Q=>Q [] H
noncomputable def tCons (ta:TE) (tr:TA):TA:=fun σ H Q=>ta σ H fun x H1=>tr σ H1 fun xs H2=>Q (x :: xs) H2
section
variable {X:Cx} {e:Expr} {es:List Expr} {te:TE} {t:TA} {pos:Pos}
theorem pa_nil:PA X [] tNil:=fun _ _ _ _ H Q I h=>Calls.spliced_nil ⟨[],H,I,.nil,h⟩
theorem pa_cons (ha:PE X e te) (hr:PA X es t) (hs:starEach (e :: es) X.env=(false,eval e X.env) :: starEach es X.env:=by rfl):PA X (e :: es) (tCons te t):=by
  intro pos pins s σ H Q I h
  rw [hs]
  show wpAny _ _ (spliced ((false,eval e X.env) :: backTo pos (starEach es X.env))) _ _ s
  refine Calls.spliced_cons (thn (ha pins s σ H _ I h) fun u s1 ⟨x,H1,I1,r1,q1⟩=>?_)
  exact thn (hr pos pins s1 σ H1 _ I1 q1) fun us s2 ⟨xs,H2,I2,r2,q2⟩=>⟨x :: xs,H2,I2,.cons r1 r2,q2⟩
noncomputable def tTup (t:TA):TE:=fun σ H Q=>t σ H fun xs H1=>xs.length ≤ sizeLine∧∀ p,H1 p=none→Q (.ref p) (upd H1 p (.tup xs))
noncomputable def tLst (t:TA):TE:=fun σ H Q=>t σ H fun xs H1=>xs.length ≤ sizeLine∧∀ p,H1 p=none→Q (.ref p) (upd H1 p (.lst xs))
theorem pe_tup {x1} (h:PA X es t):PE X (.Tuple es x1 pos) (tTup t):=by
  intro pins s σ H Q I hq
  refine wpAny_Tuple_spliced (thn (h pos pins s σ H _ I hq) fun us s1 ⟨xs,H1,I1,r,z,q⟩=>⟨by rw [← r.length]; exact z,?_⟩)
  have hf:H1 s1.heap.objs.size=none:=I1.hok.fresh (Nat.le_refl _)
  refine ⟨.ref s1.heap.objs.size,upd H1 s1.heap.objs.size (.tup xs),I1.laid (t':=s1.toks) (fun b u e=>Heap.get?_push_of_some _ e) (Nat.le_refl _) ?_,rfl,q _ hf⟩
  exact ⟨z,us,r,⟨_,Heap.get?_push_size _ rfl,rfl,_,rfl⟩⟩
theorem pe_lst (h:PA X es t):PE X (.List es pos) (tLst t):=by
  intro pins s σ H Q I hq
  refine wpAny_List_spliced (thn (h pos pins s σ H _ I hq) fun us s1 ⟨xs,H1,I1,r,z,q⟩=>⟨by rw [← r.length]; exact z,?_⟩)
  have hf:H1 s1.heap.objs.size=none:=I1.hok.fresh (Nat.le_refl _)
  refine ⟨.ref s1.heap.objs.size,upd H1 s1.heap.objs.size (.lst xs),I1.laid (t':=s1.toks) (fun b u e=>Heap.get?_push_of_some _ e) (Nat.le_refl _) ?_,rfl,q _ hf⟩
  exact ⟨z,us,0,r,Heap.get?_push_size _ rfl⟩
end
noncomputable abbrev Sp:=List V→Hp→VK→XK→Prop
noncomputable abbrev CXT:=List Env→Hp→Shared→XK→Value→Shared→Prop
structure Env0 (P:Program) (w:World) (K:PySem.W.Frag) (mg:Str→Option Value) (base:Heap) (A:Around) (outer:List Env) (s:Shared) (H:Hp):Prop where
  frames:A.frames=some outer
  mod:Mod K mg base
  bs:∀ b o,base.get? b=some o→s.heap.get? b=some o∧H b=none
  bsz:base.objs.size ≤ s.heap.objs.size
  funs:s.heap.FunFrames base outer
  frf:∀ b ∈ frs outer,H b=none
  hok:HOk P w H s.heap
  bare:AllBare s.gens
noncomputable def CE (outer:List Env) (P:Program) (w:World) (H:Hp) (s:Shared) (Q:VK) (u:Value) (s':Shared):Prop:=
  ∃ v H',s'.os=s.os∧AllBare s'.gens∧Un (frs outer) [] H H' s.heap s'.heap∧HOk P w H' s'.heap∧RelV v u∧Q v H'
noncomputable def CR (CX:CXT) (outer:List Env) (P:Program) (w:World) (H:Hp) (s:Shared) (Q:VK) (E:XK) (r:Result) (s':Shared):Prop:=
  match r with
  | .ok (.ret u)=>CE outer P w H s Q u s'
  | .ok _=>False
  | .error e=>CX outer H s E e s'
structure FnOk (P:Program) (w:World) (K:PySem.W.Frag) (mg:Str→Option Value) (base:Heap) (CX:CXT) (k:Nat) (f:Addr) (fd:FuncData) (ps:List Str) (sp:Sp):Prop where
  len:∀ vs H Q E,sp vs H Q E→vs.length=ps.length
  run:∀ (A:Around) (outer:List Env) (s:Shared) (H:Hp) (args:Args) (us:List Value) (vs:List V) (Q:VK) (E:XK),Room k A→Env0 P w K mg base A outer s H→BindsTo s fd args (ps.zip us)→Vals vs us→sp vs H Q E→
    codeAny (model P w) A (.call (.ref f) args) (CR CX outer P w H s Q E) s
theorem FnOk.mono {P:Program} {w:World} {K:PySem.W.Frag} {mg:Str→Option Value} {base:Heap} {CX:CXT} {j k:Nat} {f:Addr} {fd:FuncData} {ps:List Str} {sp:Sp} (F:FnOk P w K mg base CX j f fd ps sp) (h:j ≤ k) :
    FnOk P w K mg base CX k f fd ps sp:=⟨F.len,fun A outer s H args us vs Q E hr=>F.run A outer s H args us vs Q E (hr.mono h)⟩
section
variable {X:Cx} {pins:List (Addr × Obj)} {σ:St} {H:Hp} {s s':Shared}
theorem Inv.env0 (I:Inv X pins σ H s):Env0 X.prog X.w X.K X.mg X.base X.A X.stack s H:=
  ⟨I.ok.frames,I.ok.mod,I.bs,Nat.le_trans I.ok.bsz I.sz,I.stack,I.stkFree,I.hok,I.bare⟩
theorem Inv.after {Q:VK} {u:Value} (I:Inv X pins σ H s) (h:CE X.stack X.prog X.w H s Q u s'):EP X pins σ Q u s':=by
  obtain ⟨v,H',os,bare,un,hok,r,q⟩:=h
  obtain ⟨hh,g,d,t,os'⟩:=s'
  obtain rfl:os'=s.os:=os
  exact ⟨v,H',I.call (h':=hh) (g':=g) (d':=d) (t':=t) (ch:=[]) un hok bare (fun b z=>absurd z (by simp)),r,q⟩
end
noncomputable def tCall (sp:Sp) (dvs:List V) (E:XK) (t:TA):TE:=fun σ H Q=>t σ H fun vs H1=>sp (vs ++ dvs) H1 Q E
noncomputable def Binds (K:PySem.W.Frag) (fd:FuncData) (ps:List Str) (ds:List Value):Prop:=
  ∀ (s:Shared) (us:List Value),K.In s.heap→(us ++ ds).length=ps.length→BindsTo s fd ⟨us,[]⟩ (ps.zip (us ++ ds))
theorem Binds.all {K:PySem.W.Frag} {fd:FuncData} {ps:List Str} (h:∀ us:List Value,us.length=ps.length→bindArgs fd ⟨us,[]⟩=pure (ps.zip us)):Binds K fd ps []:=fun s us _ hl=>by
  rw [List.append_nil] at hl ⊢
  exact .of_eq (h us hl)
noncomputable def Passes (CX:CXT) (X:Cx) (E:XK):Prop:=∀ (pins:List (Addr × Obj)) (σ:St) (H:Hp) (s:Shared) (e:Value) (s':Shared),Inv X pins σ H s→CX X.stack H s E e s'→X.xe e s'
section
variable {X:Cx} {CX:CXT} {k:Nat} {f C:Addr} {fd:FuncData} {ps:List Str} {sp:Sp} {dvs:List V} {ds:List Value} {E:XK} {x m:Str} {p pos apos:Pos} {e o:Expr} {es:List Expr} {ta:TE} {t:TA}
theorem run_fn {pins:List (Addr × Obj)} {σ:St} {H:Hp} {s:Shared} {Q:VK} {us:List Value} {vs:List V} (F:FnOk X.prog X.w X.K X.mg X.base CX k f fd ps sp) (hr:Room k X.A) (hb:Binds X.K fd ps ds) (hd:Vals dvs ds) (hx:Passes CX X E)
    (I:Inv X pins σ H s) (r:Vals vs us) (h:sp (vs ++ dvs) H Q E):wpAny (model X.prog X.w) X.A (call (.ref f) us) (EP X pins σ Q) X.xe s:=by
  have r2:Vals (vs ++ dvs) (us ++ ds):=r.append hd
  have hl:(us ++ ds).length=ps.length:=by rw [← r2.length]; exact F.len _ _ _ _ h
  refine wpAny_call (codeAny_mono (F.run X.A X.stack s H ⟨us,[]⟩ (us ++ ds) (vs ++ dvs) Q E hr I.env0 (hb s us I.kIn hl) r2 h) fun r s' hq=>?_)
  cases r with
  | error e=>exact hx pins σ H s e s' I hq
  | ok fl=>
    cases fl with
    | ret u=>exact I.after hq
    | next=>exact False.elim hq
    | brk=>exact False.elim hq
    | cont=>exact False.elim hq
theorem pe_call (F:FnOk X.prog X.w X.K X.mg X.base CX k f fd ps sp) (hr:Room k X.A) (hg:Gl X x) (hm:X.mg x=some (.ref f)) (hk:PySem.W.keepIn X.K (.ref f)=true) (hb:Binds X.K fd ps ds) (hd:Vals dvs ds) (hx:Passes CX X E)
    (ha:PA X (e :: es) t) (hdb:(x == ("__debug__" : Str))=false:=by decide) (he:starEach (e :: es) X.env=(false,eval e X.env) :: starEach es X.env:=by rfl) (hpl:(backTo pos (starEach es X.env)).any (·.1)=false:=by rfl) :
    PE X (.Call (.Name x p) (e :: es) [] pos) (tCall sp dvs E t):=by
  intro pins s σ H Q I h
  refine wpAny_Call_Name_kw (ld_glob I hg hm ?_ hdb)
  refine PySem.W.callWith_K (h₀:=X.base) I.ok.mod.kin hk (thn (ha pos pins s σ H _ I h) fun us s1 ⟨vs,H1,I1,r,q⟩=>⟨I1.kIn,?_⟩) he hpl
  exact run_fn F hr hb hd hx I1 r q
end
section
variable {X:Cx} {CX:CXT} {k:Nat} {f C:Addr} {fd:FuncData} {ps ks:List Str} {sp:Sp} {E:XK} {x m:Str} {p pos apos kpos:Pos} {e o:Expr} {es:List Expr} {kws:List Keyword} {te ta:TE} {t tk:TA} {nm:Option Str}
variable {g:List Value→List Value→List Value} {gV:List V→List V→List V}
end
structure FnScope (N P:List Str) (sc:Scope):Prop where
  kind:sc.kind=.function
  co:sc.isCoroutine=false
  gen:sc.isGenerator=false
  nd:N.Nodup
  pre:N.take P.length=P
  par:∀ x ∈ P,sc.names.lookup x=some .local∨sc.names.lookup x=some .cell
  nofree:∀ y ∈ sc.names,y.2 ≠ .free
theorem bindL_out {kindOf:Str→Option NameKind} {x:Str}:∀ {binds:List (Str × Value)} {m:Str→Option Value},(∀ v,(x,v) ∉ binds)→bindL kindOf binds m x=m x
  | [],_,_=>rfl
  | (n,v) :: r,m,h=>by
    unfold bindL
    rw [bindL_out fun w hw=>h w (List.mem_cons_of_mem _ hw)]
    split
    · have:x ≠ n:=by rintro rfl; exact h v List.mem_cons_self
      simp [this]
    · rfl
theorem bindC_out {kindOf:Str→Option NameKind} {x:Str}:∀ {binds:List (Str × Value)} {m:Str→Option Value},(∀ v,(x,v) ∉ binds)→bindC kindOf binds m x=m x
  | [],_,_=>rfl
  | (n,v) :: r,m,h=>by
    unfold bindC
    rw [bindC_out fun w hw=>h w (List.mem_cons_of_mem _ hw)]
    split
    · rfl
    · have:x ≠ n:=by rintro rfl; exact h v List.mem_cons_self
      simp [this]
theorem bindL_get {kindOf:Str→Option NameKind} {x:Str} {v:Value}:∀ {P:List Str} {vs:List Value} {i:Nat} {m:Str→Option Value},P.Nodup→P[i]?=some x→vs[i]?=some v→kindOf x=some .local→
    bindL kindOf (P.zip vs) m x=some v
  | [],_,_,_,_,h,_,_=>by simp at h
  | _ :: _,[],_,_,_,_,h,_=>by simp at h
  | p :: P,w :: vs,0,m,nd,h1,h2,hk=>by
    simp at h1 h2; subst h1; subst h2
    show bindL kindOf ((p,w) :: P.zip vs) m p=_
    unfold bindL
    rw [bindL_out fun v hv=>(List.nodup_cons.mp nd).1 (List.of_mem_zip hv).1,if_pos hk]
    simp
  | p :: P,w :: vs,i + 1,m,nd,h1,h2,hk=>by
    show bindL kindOf ((p,w) :: P.zip vs) m x=_
    unfold bindL
    exact bindL_get (i:=i) (List.nodup_cons.mp nd).2 (by simpa using h1) (by simpa using h2) hk
theorem bindC_get {kindOf:Str→Option NameKind} {x:Str} {v:Value}:∀ {P:List Str} {vs:List Value} {i:Nat} {m:Str→Option Value},P.Nodup→P[i]?=some x→vs[i]?=some v→kindOf x ≠ some .local→
    bindC kindOf (P.zip vs) m x=some v
  | [],_,_,_,_,h,_,_=>by simp at h
  | _ :: _,[],_,_,_,_,h,_=>by simp at h
  | p :: P,w :: vs,0,m,nd,h1,h2,hk=>by
    simp at h1 h2; subst h1; subst h2
    show bindC kindOf ((p,w) :: P.zip vs) m p=_
    unfold bindC
    rw [bindC_out fun v hv=>(List.nodup_cons.mp nd).1 (List.of_mem_zip hv).1,if_neg hk]
    simp
  | p :: P,w :: vs,i + 1,m,nd,h1,h2,hk=>by
    show bindC kindOf ((p,w) :: P.zip vs) m x=_
    unfold bindC
    exact bindC_get (i:=i) (List.nodup_cons.mp nd).2 (by simpa using h1) (by simpa using h2) hk
noncomputable def start (N:List Str) (vs:List V):St:=vs.map some ++ List.replicate (N.length - vs.length) none
noncomputable def cxOf (CX:CXT) (P:Program) (w:World) (K:PySem.W.Frag) (mg:Str→Option Value) (base:Heap) (N:List Str) (qual:Str) (scope:Scope) (f:Addr) (cd:Value) (A:Around) (outer:List Env) (s:Shared) (H:Hp) (E:XK):Cx where
  prog:=P
  w:=w
  K:=K
  mg:=mg
  base:=base
  A:=A.deeper (envOfC qual scope s.heap.objs.size f cd)
  N:=N
  s₀:=s
  H₀:=H
  env:=envOfC qual scope s.heap.objs.size f cd
  outer:=outer
  stack:=envOfC qual scope s.heap.objs.size f cd :: outer
  ex:=[]
  calm:=true
  fn:=fun _=>true
  pn:=[]
  xe:=fun e s'=>wpAny (model P w) (A.deeper (envOfC qual scope s.heap.objs.size f cd)) (leaving (envOfC qual scope s.heap.objs.size f cd) e) (fun _ s''=>CX outer H s E e s'') (fun e' s''=>CX outer H s E e' s'') s'
theorem cell_has {sc:Scope} {n:Nat} {x:Str} (h:sc.names.lookup x=some .cell):∃ c,(cellsFrom n sc.names []).lookup x=some c:=by
  have q:=PySem.W.cellsFrom_some sc.names n [] (.inl h)
  exact Option.isSome_iff_exists.mp q
theorem inv_start {CX:CXT} {P:Program} {w:World} {K:PySem.W.Frag} {mg:Str→Option Value} {base:Heap} {N ps:List Str} {qual:Str} {scope:Scope} {f:Addr} {cd:Value} {A:Around} {outer:List Env} {s s1:Shared} {H:Hp} {E:XK} {us:List Value} {vs:List V}
    (S:FnScope N ps scope) (hd:A.handled=none) (e0:Env0 P w K mg base A outer s H) (hl:vs.length=ps.length) (r:Vals vs us)
    (x:InCallC s s.heap.objs.size (bindL (envOfC qual scope s.heap.objs.size f cd).kindOf (ps.zip us) fun _=>none) (cellsFrom (s.heap.objs.size + 1) scope.names []) (bindC (envOfC qual scope s.heap.objs.size f cd).kindOf (ps.zip us) fun _=>none) s1) :
    Inv (cxOf CX P w K mg base N qual scope f cd A outer s H E) [] (start N vs) H s1:=by
  have hpl:ps.length ≤ N.length:=by have:=congrArg List.length S.pre; rw [List.length_take] at this; omega
  obtain ⟨h1,tk,rfl,hk⟩:=x.done
  have noA:∀ b:Addr,b ∉ (cxOf CX P w K mg base N qual scope f cd A outer s H E).ex:=fun b z=>absurd (show b ∈ ([]:List Addr) from z) (by simp)
  refine ⟨⟨e0.mod,S.kind,rfl,rfl,Nat.le_refl _,fun y z c h1 h2=>?_,fun y hy=>?_,fun y c _ h=>?_,fun _=>hd,Around.frames_deeper e0.frames,.inr ⟨rfl,rfl⟩,fun b z=>absurd z (noA b),e0.bs,e0.bsz,fun b _ _=>noA b,fun b z=>absurd z (noA b),e0.funs,e0.frf⟩,
    rfl,e0.bare,Un.kept hk,⟨_,x.toInCall.ns,fun i y v h1 h2 h3=>?_⟩,fun y c h=>⟨_,x.cell y c h⟩,e0.hok.fresh (Nat.le_refl _),fun y c h=>?_,fun p hp=>absurd (show p ∈ ([]:List (Addr × Obj)) from hp) (by simp),e0.hok.kept hk,?_⟩
  · exact name_of_addr x.apart (PySem.mem_of_lookup h1) (PySem.mem_of_lookup h2)
  · have hy:scope.names.lookup y=some .cell∨scope.names.lookup y=some .free:=hy
    rcases hy with hy | hy
    · exact cell_has hy
    · exact absurd rfl (S.nofree _ (PySem.mem_of_lookup hy))
  · exact Nat.le_of_lt (x.above y c (PySem.mem_of_lookup h))
  · have hi:i < vs.length:=by
      unfold start at h2
      by_cases hi:i < vs.length
      · exact hi
      · rw [List.getElem?_append_right (by simpa using hi)] at h2
        rw [List.getElem?_replicate] at h2
        split at h2 <;> cases h2
    have ha:vs[i]?=some v:=by
      unfold start at h2
      rw [List.getElem?_append_left (by simpa using hi),List.getElem?_map] at h2
      cases e:vs[i]? with
      | none=>rw [e] at h2; cases h2
      | some a=>rw [e] at h2; cases h2; rfl
    obtain ⟨u,hu,rv⟩:=r.get ha
    have hp:ps[i]?=some y:=by
      rw [← S.pre,List.getElem?_take_of_lt (by omega)]; exact h1
    have ndP:ps.Nodup:=by rw [← S.pre]; exact S.nd.sublist (List.take_sublist _ _)
    refine ⟨u,rv,?_⟩
    rcases S.par y (List.mem_of_getElem? hp) with k | k
    · exact .inl ⟨k,bindL_get ndP hp hu k⟩
    · obtain ⟨c,e⟩:=cell_has (n:=s.heap.objs.size + 1) k
      refine .inr ⟨.inl k,c,e,?_⟩
      have q:=x.cell y c e
      rw [bindC_get ndP hp hu (by show scope.names.lookup y ≠ _; rw [k]; decide)] at q
      exact q
  · exact e0.hok.fresh (Nat.le_of_lt (x.above y c (PySem.mem_of_lookup h)))
  · unfold start
    show _=N.length
    rw [List.length_append,List.length_map,List.length_replicate]
    omega
theorem fn_of {CX:CXT} {P:Program} {w:World} {K:PySem.W.Frag} {mg:Str→Option Value} {base:Heap} {k:Nat} {f:Addr} {name qual:Str} {params:Arguments} {body:List Stmt} {scope:Scope} {dV kV doc pm cdv ct oc:Value} {an od:Option Addr}
    {osl:Array (Option Value)} {N ps:List Str} {sp:Sp} (lk:K.lookup f=some ⟨oc,od,.func (PySem.W.fnOf name qual params body scope dV kV doc pm an cdv ct),osl⟩) (hcd:PySem.W.codeIn K cdv qual=true) (S:FnScope N ps scope)
    (len:∀ vs H Q E,sp vs H Q E→vs.length=ps.length)
    (hbody:∀ (A:Around) (outer:List Env) (s:Shared) (H:Hp) (vs:List V) (Q:VK) (E:XK),Room k (A.deeper (envOfC qual scope s.heap.objs.size f cdv))→sp vs H Q E→
      ∃ t,PSs (cxOf CX P w K mg base N qual scope f cdv A outer s H E) body t∧t { nx:=fun _ H'=>Q .non H',rt:=Q } (start N vs) H) :
    FnOk P w K mg base CX (k + 1) f (PySem.W.fnOf name qual params body scope dV kV doc pm an cdv ct) ps sp:=by
  refine ⟨len,fun A outer s H args us vs Q E hr e0 hb r hsp=>?_⟩
  have hl:=len _ _ _ _ hsp
  have KX:K.In s.heap:=e0.mod.kin.keeps fun b o e=>(e0.bs b o e).1
  have lim:s.heap.NoLimit:=e0.mod.nolimit.keeps fun b o e=>(e0.bs b o e).1
  have hkind:∀ y ∈ ps.zip us,scope.names.lookup y.1=some .local∨(scope.names.lookup y.1=some .cell∧((cellsFrom (s.heap.objs.size + 1) scope.names []).lookup y.1).isSome=true):=fun ⟨n,v⟩ hy=>by
    rcases S.par n (List.of_mem_zip hy).1 with q | q
    · exact .inl q
    · exact .inr ⟨q,PySem.W.cellsFrom_some _ _ _ (.inl q)⟩
  refine codeAny_call_function hr.depth (KX _ _ lk) rfl S.co S.gen rfl (PySem.W.codeRec_of KX hcd) (hb _ _ _ _ ?_)
  refine wpAny_newFunctionEnv_cells S.kind hkind fun env he s1 x=>?_
  subst he
  refine ⟨lim.keeps x.toInCall.keep,codeAny_func ?_⟩
  obtain ⟨t,ht,hq⟩:=hbody A outer s H vs Q E (hr.deeper _) hsp
  have I:Inv (cxOf CX P w K mg base N qual scope f cdv A outer s H E) [] (start N vs) H s1:=inv_start S hr.hd e0 hl r x
  refine wpAny_mono (ht [] s1 (start N vs) H _ I hq) (fun fl s' hs=>?_) fun e s' hs=>hs
  have fin:∀ {σ':St} {H':Hp} {v:V} {u:Value},Inv (cxOf CX P w K mg base N qual scope f cdv A outer s H E) [] σ' H' s'→RelV v u→Q v H'→CE outer P w H s Q u s':=
    fun {σ' H' v u} J rv q=>⟨v,H',J.os,J.bare,J.base,J.hok,rv,q⟩
  cases fl with
  | ret u=>
    obtain ⟨v,σ',H',J,rv,q⟩:=hs
    exact fin J rv q
  | next=>
    obtain ⟨σ',H',J,q⟩:=hs
    exact fin (v:=V.non) (u:=Value.none) J rfl q
  | brk=>
    obtain ⟨_,_,_,q⟩:=hs
    exact False.elim q
  | cont=>
    obtain ⟨_,_,_,q⟩:=hs
    exact False.elim q
end L2
namespace L2
open PySem PySem.Spec PyProof.Rows
section
variable {X:Cx} {x:Str} {p pos:Pos} {e:Expr} {es:List Expr} {t:TA} {id T:String} {r:List V→Hp→VK→Prop}
noncomputable def tCB (r:List V→Hp→VK→Prop) (t:TA):TE:=fun σ H Q=>t σ H fun vs H1=>r vs H1 Q
theorem pe_callB (hc:CallR X (.builtin id) r) (hg:Gl X x) (hm:X.mg x=none) (hv:bootBuiltins x=some (.builtin id)) (ha:PA X (e :: es) t) (hn:x ≠ "__name__" := by decide) (hdb:(x == ("__debug__" : Str))=false:=by decide)
    (he:starEach (e :: es) X.env=(false,eval e X.env) :: starEach es X.env:=by rfl) (hpl:(backTo pos (starEach es X.env)).any (·.1)=false:=by rfl):PE X (.Call (.Name x p) (e :: es) [] pos) (tCB r t):=by
  intro pins s σ H Q I h
  refine wpAny_Call_Name_kw (ld_blt I hg hm hv ?_ hn hdb)
  exact PyProof.Rows.callWith_builtin1 (thn (ha pos pins s σ H _ I h) fun us s1 ⟨vs,H1,I1,r1,q1⟩=>hc pins s1 σ H1 vs us Q I1 r1 q1) he hpl
theorem pe_callTy (hc:CallR X (.type T) r) (hg:Gl X x) (hm:X.mg x=none) (hv:bootBuiltins x=some (.type T)) (ha:PA X (e :: es) t) (hn:x ≠ "__name__" := by decide) (hdb:(x == ("__debug__" : Str))=false:=by decide)
    (he:starEach (e :: es) X.env=(false,eval e X.env) :: starEach es X.env:=by rfl) (hpl:(backTo pos (starEach es X.env)).any (·.1)=false:=by rfl):PE X (.Call (.Name x p) (e :: es) [] pos) (tCB r t):=by
  intro pins s σ H Q I h
  refine wpAny_Call_Name_kw (ld_blt I hg hm hv ?_ hn hdb)
  exact PyProof.Rows.callWith_type1 (thn (ha pos pins s σ H _ I h) fun us s1 ⟨vs,H1,I1,r1,q1⟩=>hc pins s1 σ H1 vs us Q I1 r1 q1) he hpl
end
end L2
namespace HT
open PySem PyProof.Rows
section
open PySem.SeqAt
open PySem.AutoSeq1 (wpAny_loadPart')
open PySem.MeetsSeq PySem.MeetsSeq2 PySem.MeetsSeq3
end
section
variable {prog:Program} {w:World} {A:Around} {E:Value→Shared→Prop} {s:Shared}
theorem cat_tup {t b:Addr} {vs ws:List Value} {Q:Value→Shared→Prop} (ht:IsTup s.heap t vs.toArray) (hb:IsTup s.heap b ws.toArray) (hv:vs ≠ [])
    (h1:ws=[]→Q (.ref t) s) (h2:ws ≠ []→Q (.ref s.heap.objs.size) { s with heap:=s.heap.push { cls:=.type "tuple",data:=.seq (vs ++ ws).toArray } })
    (hsz:vs.length + ws.length ≤ sizeLine):wpAny (model prog w) A (binaryOp .Add (.ref t) (.ref b)) Q E s:=by
  obtain ⟨⟨cls,dd,data,sl⟩,ho,hc,n,hd⟩:=id ht
  obtain ⟨⟨cls2,dd2,data2,sl2⟩,ho2,hc2,n2,hd2⟩:=id hb
  simp only at hc hd hc2 hd2
  subst hc hd hc2 hd2
  have e:vs.toArray ++ ws.toArray=(vs ++ ws).toArray:=by simp
  by_cases hw:ws=[]
  · exact concat_meets ⟨_,ho,rfl⟩ ⟨_,ho2,rfl⟩ noFill_tuple_add seq_tuple_add PySem.F.slot_tuple_add PySem.F.entry_tuple_add (PySem.F.args_tuple_add_2 _ _)
      (tuple_addW1 t b vs.toArray ws.toArray n n2 dd dd2 sl sl2 (by simpa using hv) (by simp [hw])) ⟨ho,ho2,h1 hw⟩
  · refine concat_meets ⟨_,ho,rfl⟩ ⟨_,ho2,rfl⟩ noFill_tuple_add seq_tuple_add PySem.F.slot_tuple_add PySem.F.entry_tuple_add (PySem.F.args_tuple_add_2 _ _)
      (tuple_addW2 t b vs.toArray ws.toArray n n2 dd dd2 sl sl2 (by simpa using hv) (by simpa using hw) (by rw [List.size_toArray,List.size_toArray]; exact hsz)) ⟨ho,ho2,?_⟩
    rw [e]
    exact h2 hw
noncomputable def sIx (n d:Nat):Option Int→Nat
  | none=>d
  | some v=>if v < 0 then (v + (n:Int)).toNat else min v.toNat n
theorem sIx_le (n d:Nat) (hd:d ≤ n) (o:Option Int):sIx n d o ≤ n:=by
  cases o with
  | none=>exact hd
  | some v=>
    show (if v < 0 then (v + (n:Int)).toNat else min v.toNat n) ≤ n
    by_cases hv:v < 0
    · rw [if_pos hv]; omega
    · rw [if_neg hv]; exact Nat.min_le_right _ _
theorem clip_eq (v:Int) (n d:Nat):(if v < 0 then max (v + (n:Int)) 0 else min v (n:Int))=((sIx n d (some v):Nat):Int):=by
  show (if v < 0 then max (v + (n:Int)) 0 else min v (n:Int))=(((if v < 0 then (v + (n:Int)).toNat else min v.toNat n):Nat):Int)
  by_cases hv:v < 0
  · simp only [if_pos hv]; omega
  · simp only [if_neg hv]; omega
theorem adjust_gen (lo hi:Option Int) (n:Nat):Builtin.Slice.sliceAdjust lo hi 1 (n:Int)=(((sIx n 0 lo:Nat):Int),((sIx n n hi:Nat):Int)):=by
  have h1:¬ ((1:Int) < 0):=by omega
  unfold Builtin.Slice.sliceAdjust
  simp only [h1,if_false]
  refine Prod.ext ?_ ?_
  · cases lo with
    | none=>rfl
    | some v=>exact clip_eq v n 0
  · cases hi with
    | none=>rfl
    | some v=>exact clip_eq v n n
theorem places_gen (i j:Nat):Builtin.Slice.slicePlaces (i:Int) (j:Int) 1=j - i:=by
  unfold Builtin.Slice.slicePlaces
  have h1:(1:Int) > 0:=by omega
  simp only [h1,if_true,Int.ediv_one]
  split <;> omega
theorem slicePart_ {v:Value} {o:Option Int} {Q:Option Int→Shared→Prop} (p:IsPart v o) (h:Q o s):wpAny (model prog w) A (Builtin.Slice.slicePartIndex v) Q E s:=by
  cases p with
  | none=>exact slicePart_none h
  | int i t=>exact slicePart_int h
theorem sliceApplied_gen {sl:Addr} {vl vu:Value} {lo hi:Option Int} {n:Nat} {Q:Int × Int × Nat→Shared→Prop} (hs:s.heap.IsSliceOf sl vl vu .none) (pl:IsPart vl lo) (pu:IsPart vu hi)
    (h:Q (((sIx n 0 lo:Nat):Int),1,sIx n n hi - sIx n 0 lo) s):wpAny (model prog w) A (Builtin.Slice.sliceApplied (.ref sl) (pure (n:Int))) Q E s:=by
  obtain ⟨os,hos,hcs,hds⟩:=id hs
  unfold Builtin.Slice.sliceApplied Builtin.Slice.sliceFields
  refine wpAny_bind (wpAny_bind (wpAny_field hos hds (x:=vl) rfl (wpAny_bind (wpAny_field hos hds (x:=vu) rfl (wpAny_bind (wpAny_field hos hds (x:=.none) rfl (wpAny_pure ?_)))))))
  refine wpAny_bind (slicePart_none ?_)
  show wpAny _ _ (if ((1:Int) == 0)=true then _ else _) _ _ s
  rw [if_neg (by decide)]
  refine wpAny_bind (slicePart_ pl (wpAny_bind (slicePart_ pu (wpAny_bind (wpAny_pure ?_)))))
  show wpAny _ _ (match Builtin.Slice.sliceAdjust lo hi 1 (n:Int) with | (lo,hi)=>pure (lo,(1:Int),Builtin.Slice.slicePlaces lo hi 1)) _ _ s
  rw [adjust_gen lo hi n]
  show wpAny _ _ (pure (((sIx n 0 lo:Nat):Int),(1:Int),Builtin.Slice.slicePlaces ((sIx n 0 lo:Nat):Int) ((sIx n n hi:Nat):Int) 1)) _ _ s
  rw [places_gen]
  exact wpAny_pure h
theorem pick_gen (xs:Array Value) (i k:Nat):((List.range k).filterMap fun (m:Nat)=>xs[((i:Int) + (m:Int) * 1).toNat]?).toArray=((xs.toList.drop i).take k).toArray:=by
  have e:(fun (m:Nat)=>xs[((i:Int) + (m:Int) * 1).toNat]?)=fun m=>xs[i + m]?:=by
    funext m
    have:((i:Int) + (m:Int) * 1).toNat=i + m:=by omega
    rw [this]
  rw [e]
  have:=pick_run xs i k
  rw [List.filterMap_map] at this
  have e2:((fun x=>xs[x]?) ∘ fun x=>i + x)=fun m=>xs[i + m]?:=rfl
  rw [e2] at this
  rw [this]
theorem getItem_tuple_cut {t sl:Addr} {items:Array Value} {vl vu:Value} {lo hi:Option Int} {Q:Value→Shared→Prop} (ht:IsTup s.heap t items) (hs:s.heap.IsSliceOf sl vl vu .none) (pl:IsPart vl lo) (pu:IsPart vu hi)
    (hw:¬ (sIx items.size 0 lo=0∧sIx items.size items.size hi=items.size))
    (h:Q (.ref s.heap.objs.size) { s with heap:=s.heap.push { cls:=.type "tuple",data:=.seq ((items.toList.drop (sIx items.size 0 lo)).take (sIx items.size items.size hi - sIx items.size 0 lo)).toArray } })
    (hsz:items.size ≤ sizeLine):wpAny (model prog w) A (getItem (.ref t) (.ref sl)) Q E s:=by
  have htake:sizeOk (.seq ((items.toList.drop (sIx items.size 0 lo)).take (sIx items.size items.size hi - sIx items.size 0 lo)).toArray):=by
    show ((items.toList.drop (sIx items.size 0 lo)).take (sIx items.size items.size hi - sIx items.size 0 lo)).toArray.size ≤ sizeLine
    rw [List.size_toArray,List.length_take,List.length_drop,Array.length_toList]
    omega
  have hj:sIx items.size items.size hi ≤ items.size:=sIx_le _ _ (Nat.le_refl _) hi
  obtain ⟨os,hos,hcs,hds⟩:=id hs
  have hTs:s.TypeIs (.ref sl) "slice" := ⟨os,hos,hcs⟩
  unfold getItem
  try with_reducible refine wpAny_holding ?_
  first | refine wpAny_bind (wpAny_pure ?_) | skip
  refine wpAny_bind (wpAny_sequenceKey ht.typeIs (by decide) ?_)
  refine wpAny_bind (wpAny_callSpecial?_slot (name:=Str.ofString "__getitem__") ht.typeIs PyProof.Rows.slot_tuple_getitem
    (wpAny_call_entry PyProof.Rows.slot_tuple_getitem ht.typeIs entry_tuple_getitem ?_ (args_tuple_getitem _ _)))
  show wpAny _ _ (Builtin.Tuple.tupleItemsOf (.ref t) >>= _) _ _ s
  refine wpAny_bind (tupleItemsOf_ ht ?_)
  refine wpAny_bind (wpAny_typeOf hTs ?_)
  rw [if_pos (by decide)]
  refine wpAny_bind (sliceApplied_gen hs pl pu ?_)
  have hno:¬ ((((sIx items.size 0 lo:Nat):Int) == 0 && (1:Int) == 1 && (sIx items.size items.size hi - sIx items.size 0 lo) == items.size)=true):=by
    intro q
    rw [Bool.and_eq_true,Bool.and_eq_true] at q
    have q1:((sIx items.size 0 lo:Nat):Int)=0:=eq_of_beq q.1.1
    have q2:sIx items.size items.size hi - sIx items.size 0 lo=items.size:=eq_of_beq q.2
    exact hw ⟨by omega,by omega⟩
  show wpAny _ _ (if (((sIx items.size 0 lo:Nat):Int) == 0 && (1:Int) == 1 && (sIx items.size items.size hi - sIx items.size 0 lo) == items.size)=true then _ else _) _ _ s
  rw [if_neg hno,pick_gen]
  first
    | exact wpAny_bind (m:=Builtin.Tuple.tupleExact _) (wpAny_newObj_type (wpAny_pure ⟨_,rfl,wpAny_pure h⟩) htake)
    | exact wpAny_bind (m:=Builtin.Tuple.tupleExact _) (wpAny_newObj_type (wpAny_bind (wpAny_pure (wpAny_pure ⟨_,rfl,wpAny_pure h⟩))) htake)
    | exact wpAny_bind (wpAny_bind (m:=Builtin.Tuple.tupleExact _) (wpAny_newObj_type (wpAny_pure (wpAny_pure ⟨_,rfl,wpAny_pure h⟩)) htake))
    | exact wpAny_bind (wpAny_bind (m:=Builtin.Tuple.tupleExact _) (wpAny_newObj_type (wpAny_pure ⟨_,rfl,wpAny_pure h⟩) htake))
end
end HT
namespace L2
open PySem PySem.Spec PyProof.Rows
noncomputable abbrev TO:=St→Hp→(Option Int→Hp→Prop)→Prop
noncomputable def PO (X:Cx) (e:Option Expr) (t:TO):Prop:=
  ∀ (pins:List (Addr × Obj)) (s:Shared) (σ:St) (H:Hp) (Q:Option Int→Hp→Prop),Inv X pins σ H s→t σ H Q→
    wpAny (model X.prog X.w) X.A (evalPart e X.env) (fun u s'=>∃ o H',Inv X pins σ H' s'∧IsPart u o∧Q o H') X.xe s
noncomputable def tNoPart:TO:=fun _ H Q=>Q none H
noncomputable def tPart (t:TE):TO:=fun σ H Q=>t σ H fun x H1=>∃ i,x=.int i∧Q (some i) H1
section
variable {X:Cx} {e:Expr} {te:TE} {lo hi:Option Expr} {tl th:TO} {pos p2:Pos}
theorem po_none:PO X none tNoPart:=by
  intro pins s σ H Q I h
  rw [evalPart_none]
  exact wpAny_pure ⟨none,H,I,.none,h⟩
theorem po_some (h:PE X e te):PO X (some e) (tPart te):=by
  intro pins s σ H Q I hw
  rw [evalPart_some]
  refine thn (h pins s σ H _ I hw) fun u s1 ⟨x,H1,I1,r1,q1⟩=>?_
  obtain ⟨i,rfl,q⟩:=q1
  obtain ⟨t,rfl⟩:=r1
  exact ⟨some i,H1,I1,.int i t,q⟩
noncomputable def SlR (X:Cx) (r:V→Option Int→Option Int→Hp→VK→Prop):Prop:=
  ∀ (pins:List (Addr × Obj)) (s:Shared) (σ:St) (H:Hp) (x:V) (v vl vu:Value) (lo hi:Option Int) (sl:Addr) (Q:VK),Inv X pins σ H s→RelV x v→s.heap.IsSliceOf sl vl vu .none→IsPart vl lo→IsPart vu hi→r x lo hi H Q→
    ∃ T id,typeLookup (.type T) "__getitem__" = pure (some (.builtin id))∧s.TypeIs v T∧wpAny (model X.prog X.w) X.A (getItem v (.ref sl)) (EP X pins σ Q) X.xe s
theorem SlR.or {r r':V→Option Int→Option Int→Hp→VK→Prop} (h:SlR X r) (h':SlR X r'):SlR X (fun x lo hi H Q=>r x lo hi H Q∨r' x lo hi H Q):=by
  intro pins s σ H x v vl vu lo hi sl Q I rx hs pl pu q
  rcases q with q | q
  · exact h pins s σ H x v vl vu lo hi sl Q I rx hs pl pu q
  · exact h' pins s σ H x v vl vu lo hi sl Q I rx hs pl pu q
noncomputable def tSl (r:V→Option Int→Option Int→Hp→VK→Prop) (te:TE) (tl th:TO):TE:=fun σ H Q=>te σ H fun x H1=>tl σ H1 fun l H2=>th σ H2 fun u H3=>r x l u H3 Q
theorem pe_slice {r:V→Option Int→Option Int→Hp→VK→Prop} (hr:SlR X r) (he:PE X e te) (hl:PO X lo tl) (hu:PO X hi th):PE X (.Subscript e (.Slice lo hi none p2) pos) (tSl r te tl th):=by
  intro pins s σ H Q I h
  refine Subscript_ (thn (he pins s σ H _ I h) fun v s1 ⟨x,H1,I1,r1,q1⟩=>?_)
  refine wpAny_Slice (thn (hl pins s1 σ H1 _ I1 q1) fun vl s2 ⟨l,H2,I2,pl,q2⟩=>thn (hu pins s2 σ H2 _ I2 q2) fun vu s3 ⟨u,H3,I3,pu,q3⟩=>?_)
  rw [evalPart_none]
  refine wpAny_pure ?_
  have I4:Inv X pins σ H3 { s3 with heap:=s3.heap.push { cls:=.type "slice",data:=.fields #[vl,vu,.none] } }:=I3.kept (t':=s3.toks) fun b ob q=>Heap.get?_push_of_some _ q
  obtain ⟨T,id,hT,ht,hg⟩:=hr pins { s3 with heap:=s3.heap.push { cls:=.type "slice",data:=.fields #[vl,vu,.none] } } σ H3 x v vl vu l u s3.heap.objs.size Q I4 r1 (Heap.IsSliceOf.new ..) pl pu q3
  show wpAny (model X.prog X.w) X.A (subscriptTail e (.Slice lo hi none p2) v (.ref s3.heap.objs.size)) (EP X pins σ Q) X.xe { s3 with heap:=s3.heap.push { cls:=.type "slice",data:=.fields #[vl,vu,.none] } }
  exact tail_any (ops:=[.ref s3.heap.objs.size,v]) ht hT hg (by with_unfolding_all rfl)
noncomputable def cutV (xs:List V) (lo hi:Option Int):List V:=(xs.drop (HT.sIx xs.length 0 lo)).take (HT.sIx xs.length xs.length hi - HT.sIx xs.length 0 lo)
theorem cutV_length (xs:List V) (lo hi:Option Int):(cutV xs lo hi).length ≤ xs.length:=by
  unfold cutV
  rw [List.length_take,List.length_drop]
  omega
noncomputable def rSlT (K:PySem.W.Frag):V→Option Int→Option Int→Hp→VK→Prop:=fun x lo hi H Q=>∃ a xs,x=.ref a∧SqT K H a xs∧
  ¬ (HT.sIx xs.length 0 lo=0∧HT.sIx xs.length xs.length hi=xs.length)∧∀ p,H p=none→Q (.ref p) (upd H p (.tup (cutV xs lo hi)))
theorem sl_tup:SlR X (rSlT X.K):=by
  intro pins s σ H x v vl vu lo hi sl Q I rx hs pl pu h
  obtain ⟨a,xs,rfl,hx,hw,q⟩:=h
  cases rx
  obtain ⟨its,r,ht,hz⟩:=I.tuple hx
  have hlen:its.toArray.size=xs.length:=by rw [List.size_toArray]; exact r.length.symm
  refine ⟨"tuple",_,PyProof.Rows.slot_tuple_getitem.lookup,ht.typeIs,?_⟩
  refine HT.getItem_tuple_cut ht hs pl pu (by rw [hlen]; exact hw) ?_ (by rw [hlen]; exact hz)
  rw [hlen]
  refine ⟨.ref s.heap.objs.size,_,I.laid (t':=s.toks) (o:=.tup (cutV xs lo hi)) (fun b ob q=>Heap.get?_push_of_some _ q) (Nat.le_refl _) ?_,rfl,q _ (I.hok.fresh (Nat.le_refl _))⟩
  exact ⟨Nat.le_trans (cutV_length xs lo hi) hz,_,(r.drop (HT.sIx xs.length 0 lo)).take (HT.sIx xs.length xs.length hi - HT.sIx xs.length 0 lo),IsTup.new _ _⟩
noncomputable def rCatT (K:PySem.W.Frag):R2:=fun x y H Q=>∃ a b xs ys,x=.ref a∧y=.ref b∧SqT K H a xs∧SqT K H b ys∧xs ≠ []∧xs.length + ys.length ≤ sizeLine∧
  (ys=[]→Q (.ref a) H)∧(ys ≠ []→∀ p,H p=none→Q (.ref p) (upd H p (.tup (xs ++ ys))))
theorem Vals.nil_iff {xs:List V} {us:List Value} (r:Vals xs us):us=[]↔xs=[]:=by
  cases r with
  | nil=>simp
  | cons _ _=>simp
theorem op_catT:OpR X (binaryOp .Add) (rCatT X.K):=by
  intro pins s σ H x y v u Q I rx ry h
  obtain ⟨a,b,xs,ys,rfl,rfl,ha,hb,hx,hz,q1,q2⟩:=h
  cases rx
  cases ry
  obtain ⟨its,r1,p1,_⟩:=I.tuple ha
  obtain ⟨its2,r2,p2,_⟩:=I.tuple hb
  refine HT.cat_tup p1 p2 (fun z=>hx (r1.nil_iff.mp z)) (fun z=>⟨.ref a,H,I,rfl,q1 (r2.nil_iff.mp z)⟩) (fun z=>?_) (by rw [← r1.length,← r2.length]; exact hz)
  refine ⟨.ref s.heap.objs.size,_,I.laid (t':=s.toks) (o:=.tup (xs ++ ys)) (fun b ob q=>Heap.get?_push_of_some _ q) (Nat.le_refl _) ?_,rfl,q2 (fun w=>z (r2.nil_iff.mpr w)) _ (I.hok.fresh (Nat.le_refl _))⟩
  exact ⟨by rw [List.length_append]; exact hz,_,r1.append r2,IsTup.new _ _⟩
end
end L2
namespace L2
open PySem PySem.Spec PyProof.Rows
noncomputable def ixN (n:Nat) (i:Int):Option Nat:=if 0 ≤ i then (if i < n then some i.toNat else none) else if -(n:Int) ≤ i then some (i + n).toNat else none
noncomputable def atI {α:Type} (xs:List α) (i:Int):Option α:=(ixN xs.length i).bind fun j=>xs[j]?
theorem ixN_seq {n:Nat} {i:Int} {j:Nat} (h:ixN n i=some j):seqIndex? i n=some j∧j < n∧-(n:Int) ≤ i∧i < n:=by
  unfold ixN at h
  by_cases h0:0 ≤ i
  · rw [if_pos h0] at h
    by_cases h1:i < n
    · rw [if_pos h1] at h
      have e:i.toNat=j:=Option.some.inj h
      exact ⟨by rw [seqIndex_of h0 h1,e],by omega,by omega,h1⟩
    · rw [if_neg h1] at h; cases h
  · rw [if_neg h0] at h
    by_cases h1:-(n:Int) ≤ i
    · rw [if_pos h1] at h
      have e:(i + n).toNat=j:=Option.some.inj h
      exact ⟨by rw [seqIndex_neg (by omega) h1,e],by omega,h1,by omega⟩
    · rw [if_neg h1] at h; cases h
theorem atI_get {α:Type} {xs:List α} {i:Int} {v:α} (h:atI xs i=some v):∃ j,seqIndex? i xs.length=some j∧xs[j]?=some v∧j < xs.length∧-(xs.length:Int) ≤ i∧i < xs.length:=by
  unfold atI at h
  cases e:ixN xs.length i with
  | none=>rw [e] at h; cases h
  | some j=>
    rw [e] at h
    obtain ⟨h1,h2,h3,h4⟩:=ixN_seq e
    exact ⟨j,h1,h,h2,h3,h4⟩
noncomputable def PlainIx (b:Expr):Prop:=∀ o i,subscripted b false o i=operate [o,i] (getItem o i)
noncomputable def IxR (X:Cx) (r:R2):Prop:=
  ∀ (value slice:Expr) (pins:List (Addr × Obj)) (s:Shared) (σ:St) (H:Hp) (x y:V) (v u:Value) (Q:VK),Inv X pins σ H s→RelV x v→RelV y u→r x y H Q→
    subscripted slice false v u=operate [v,u] (getItem v u)→wpAny (model X.prog X.w) X.A (subscriptTail value slice v u) (EP X pins σ Q) X.xe s
noncomputable def MtR (X:Cx) (id:String) (r:V→List V→Hp→VK→Prop):Prop:=
  ∀ (pins:List (Addr × Obj)) (s:Shared) (σ:St) (H:Hp) (x:V) (xs:List V) (v:Value) (us:List Value) (Q:VK),Inv X pins σ H s→RelV x v→Vals xs us→r x xs H Q→
    wpAny (model X.prog X.w) X.A (call (.builtin id) (v :: us)) (EP X pins σ Q) X.xe s
section
variable {X:Cx} {a b:Expr} {ta tb:TE} {pos:Pos}
theorem IxR.or {r r':R2} (h:IxR X r) (h':IxR X r'):IxR X (fun x y H Q=>r x y H Q∨r' x y H Q):=by
  intro value slice pins s σ H x y v u Q I rx ry q hs
  rcases q with q | q
  · exact h value slice pins s σ H x y v u Q I rx ry q hs
  · exact h' value slice pins s σ H x y v u Q I rx ry q hs
theorem pe_ix {r:R2} (hr:IxR X r) (ha:PE X a ta) (hb:PE X b tb) (hs:PlainIx b):PE X (.Subscript a b pos) (tOp r ta tb):=by
  intro pins s σ H Q I h
  exact Subscript_ (binT ha hb I h fun v u s2 x y H2 I2 rx ry q=>hr a b pins s2 σ H2 x y v u Q I2 rx ry q (hs _ _))
noncomputable def rIxL (K:PySem.W.Frag):R2:=fun x y H Q=>∃ p xs i v,x=.ref p∧y=.int i∧SqL K H p xs∧atI xs i=some v∧Q v H
noncomputable def rIxT (K:PySem.W.Frag):R2:=fun x y H Q=>∃ p xs i v,x=.ref p∧y=.int i∧SqT K H p xs∧atI xs i=some v∧Q v H
noncomputable def rIxS:R2:=fun x y H Q=>∃ z i c,x=.str z∧y=.int i∧z.length ≤ sizeLine∧atI z.cps.toList i=some c∧Q (.str ⟨#[c]⟩) H
theorem ix_list:IxR X (rIxL X.K):=by
  intro value slice pins s σ H x y v u Q I rx ry h hs
  obtain ⟨p,xs,i,z,rfl,rfl,hq,he,q⟩:=h
  cases rx
  obtain ⟨t,rfl⟩:=ry
  obtain ⟨its,r,pl,hz⟩:=I.list hq
  obtain ⟨j,h1,h2,h3,h4,h5⟩:=atI_get he
  obtain ⟨w,ew,rw'⟩:=r.get h2
  have hl:=r.length
  have hn:=line63
  have fin:EP X pins σ Q w s:=⟨z,H,I,rw',q⟩
  by_cases h0:0 ≤ i
  · have hj:i.toNat=j:=by
      rw [seqIndex_of h0 h5] at h1
      exact Option.some.inj h1
    exact item_listR pl.isList h0 (by omega) (by rw [hj]; simpa using ew) fin hs
  · have hj:(i + (its.toArray.size:Int)).toNat=j:=by
      rw [seqIndex_neg (by omega) h4] at h1
      rw [List.size_toArray,← hl]
      exact Option.some.inj h1
    exact subscriptTail_builtinR (x:=w) pl.isList.typeIs slot_list_getitem.lookup
      (wpAny_getItem_list_neg (Q:=fun r s'=>r=w∧EP X pins σ Q r s') pl.isList (by omega) (by rw [List.size_toArray] <;> omega) (by omega) (by rw [hj]; simpa using ew) ⟨rfl,fin⟩) hs
theorem ix_tup:IxR X (rIxT X.K):=by
  intro value slice pins s σ H x y v u Q I rx ry h hs
  obtain ⟨p,xs,i,z,rfl,rfl,hq,he,q⟩:=h
  cases rx
  obtain ⟨t,rfl⟩:=ry
  obtain ⟨its,r,pl,hz⟩:=I.tuple hq
  obtain ⟨j,h1,h2,h3,h4,h5⟩:=atI_get he
  obtain ⟨w,ew,rw'⟩:=r.get h2
  have hl:=r.length
  have hn:=line63
  have fin:EP X pins σ Q w s:=⟨z,H,I,rw',q⟩
  exact subscriptTail_builtinR (x:=w) pl.typeIs slot_tuple_getitem.lookup
    (getItem_tuple (j:=j) (Q:=fun r s'=>r=w∧EP X pins σ Q r s') pl (by omega) (by omega) (by rw [List.size_toArray,← hl]; exact h1) (by simpa using ew) ⟨rfl,fin⟩) hs
theorem ix_str:IxR X rIxS:=by
  intro value slice pins s σ H x y v u Q I rx ry h hs
  obtain ⟨z,i,c,rfl,rfl,hz,he,q⟩:=h
  obtain ⟨t,rfl⟩:=rx
  obtain ⟨t',rfl⟩:=ry
  obtain ⟨j,h1,h2,h3,h4,h5⟩:=atI_get he
  have hl:z.cps.toList.length=z.length:=by simp [Str.length]
  rw [hl] at h1 h4 h5
  have hn:=line63
  exact tail_any (typeIs_str s z t) slot_str_getitem.lookup (getItem_str (c:=c) (by
    have e1:decide (i < -(2 ^ 63:Int))=false:=decide_eq_false (by omega)
    have e2:decide (i ≥ 2 ^ 63)=false:=decide_eq_false (by omega)
    rw [e1,e2,Bool.or_false]) (by rw [h1]; simpa using h2) ⟨.str ⟨#[c]⟩,H,I.tok _,⟨_,rfl⟩,q⟩) hs
noncomputable def rIx (K:PySem.W.Frag):R2:=fun x y H Q=>rIxL K x y H Q∨rIxT K x y H Q∨rIxS x y H Q
theorem ix_seq:IxR X (rIx X.K):=ix_list.or (ix_tup.or ix_str)
theorem mapSeq_set (its:List Value) (n j:Nat) (u:Value):Obj.mapSeq (·.setIfInBounds j u) { cls:=.type "list",data:=.seq its.toArray n }={ cls:=.type "list",data:=.seq (its.set j u).toArray n }:=by
  simp [Obj.mapSeq]
theorem Inv.lst {pins:List (Addr × Obj)} {σ:St} {H:Hp} {s:Shared} {p:Addr} {xs:List V} (I:Inv X pins σ H s) (h:H p=some (.lst xs)) :
    ∃ (its:List Value) (n:Nat),Vals xs its∧s.heap.get? p=some { cls:=.type "list",data:=.seq its.toArray n }∧xs.length ≤ sizeLine:=by
  obtain ⟨z,its,n,r,e⟩:=I.hok p _ h
  exact ⟨its,n,r,e,z⟩
theorem Inv.lstUpd {pins:List (Addr × Obj)} {σ:St} {H:Hp} {s:Shared} {p:Addr} {xs ys:List V} {its its':List Value} {n n':Nat} {f:Obj→Obj} (I:Inv X pins σ H s) (h:H p=some (.lst xs))
    (ho:s.heap.get? p=some { cls:=.type "list",data:=.seq its.toArray n }) (hf:f { cls:=.type "list",data:=.seq its.toArray n }={ cls:=.type "list",data:=.seq its'.toArray n' }) (r:Vals ys its') (hz:ys.length ≤ sizeLine) (t:Nat) :
    Inv X pins σ (upd H p (.lst ys)) { s with heap:=s.heap.update p f,toks:=t }:=by
  have e:(s.heap.update p f).get? p=some { cls:=.type "list",data:=.seq its'.toArray n' }:=by
    rw [Heap.get?_update_self f ho (by rw [hf] <;> rfl),hf]
  refine I.write (x:=p) (e:=p) (by rw [h]; trivial) (.inl rfl) (fun b u hb q=>(Heap.get?_update_other _ _ (Ne.symm hb)).trans q) ⟨_,e⟩ ?_
  exact ⟨hz,its',n',r,e⟩
noncomputable def rSetL:V→V→V→Hp→(Hp→Prop)→Prop:=fun o i v H Q=>∃ p xs k j,o=.ref p∧i=.int k∧H p=some (.lst xs)∧ixN xs.length k=some j∧Q (upd H p (.lst (xs.set j v)))
theorem set_list:PSet X rSetL:=by
  intro pins s σ H o i v ov iv u Q I ro ri rv h
  obtain ⟨p,xs,k,j,rfl,rfl,hp,hj,q⟩:=h
  cases ro
  obtain ⟨t,rfl⟩:=ri
  obtain ⟨its,n,r,ho,hz⟩:=I.lst hp
  obtain ⟨h1,h2,h3,h4⟩:=ixN_seq hj
  have hl:=r.length
  have hn:=line63
  have I':Inv X pins σ (upd H p (.lst (xs.set j v))) { s with heap:=s.heap.update p (Obj.mapSeq (·.setIfInBounds j u)) }:=
    I.lstUpd hp ho (mapSeq_set its n j u) (r.set rv j) (by rw [List.length_set]; exact hz) s.toks
  by_cases h0:0 ≤ k
  · have hk:k.toNat=j:=by
      rw [seqIndex_of h0 h4] at h1
      exact Option.some.inj h1
    exact PySem.W.ki_setAt ho h0 (by omega) (by rw [List.size_toArray,← hl]; exact h4) (by rw [hk]; exact ⟨_,I',q⟩)
  · have hk:(k + (its.toArray.size:Int)).toNat=j:=by
      rw [seqIndex_neg (by omega) h3] at h1
      rw [List.size_toArray,← hl]
      exact Option.some.inj h1
    exact PySem.W.ki_setBack ho (by omega) (by rw [List.size_toArray,← hl]; exact h3) (by omega) (by rw [hk]; exact ⟨_,I',q⟩)
theorem slice_bounds (lo hi:Option Int) (n:Nat):(sliceBounds lo hi none n).1=((HT.sIx n 0 lo:Nat):Int)∧(sliceBounds lo hi none n).2.1=((HT.sIx n n hi:Nat):Int)∧(sliceBounds lo hi none n).2.2=1:=by
  refine ⟨?_,?_,rfl⟩
  · cases lo with
    | none=>simp [sliceBounds,HT.sIx]
    | some i=>
      simp only [sliceBounds,HT.sIx,Option.getD_none,show (1:Int) > 0 by decide,if_true]
      by_cases h:i < 0
      · simp only [h,if_true] <;> omega
      · simp only [h,if_false] <;> omega
  · cases hi with
    | none=>simp [sliceBounds,HT.sIx]
    | some i=>
      simp only [sliceBounds,HT.sIx,Option.getD_none,show (1:Int) > 0 by decide,if_true]
      by_cases h:i < 0
      · simp only [h,if_true] <;> omega
      · simp only [h,if_false] <;> omega
theorem slicePick_cut (its:List Value) (lo hi:Option Int):slicePick its.toArray lo hi none=((its.drop (HT.sIx its.length 0 lo)).take (HT.sIx its.length its.length hi - HT.sIx its.length 0 lo)).toArray:=by
  obtain ⟨h1,h2,h3⟩:=slice_bounds lo hi its.toArray.size
  unfold slicePick
  rw [h1,h2,h3]
  simp only [sliceRange_one,pick_run,List.size_toArray] <;> rfl
noncomputable def rSlL (K:PySem.W.Frag):V→Option Int→Option Int→Hp→VK→Prop:=fun x lo hi H Q=>∃ a xs,x=.ref a∧SqL K H a xs∧∀ p,H p=none→Q (.ref p) (upd H p (.lst (cutV xs lo hi)))
theorem sl_list:SlR X (rSlL X.K):=by
  intro pins s σ H x v vl vu lo hi sl Q I rx hs pl pu h
  obtain ⟨a,xs,rfl,hx,q⟩:=h
  cases rx
  obtain ⟨its,r,ht,hz⟩:=I.list hx
  have hlen:=r.length
  refine ⟨"list",_,slot_list_getitem.lookup,ht.isList.typeIs,?_⟩
  refine wpAny_getItem_list_slice ht.isList hs pl pu .none (by simp) ?_ (by rw [List.size_toArray] <;> omega)
  rw [slicePick_cut,← hlen]
  refine ⟨.ref s.heap.objs.size,_,I.laid (t':=s.toks) (o:=.lst (cutV xs lo hi)) (fun b ob q=>Heap.get?_push_of_some _ q) (Nat.le_refl _) ?_,rfl,q _ (I.hok.fresh (Nat.le_refl _))⟩
  exact ⟨Nat.le_trans (cutV_length xs lo hi) hz,_,0,(r.drop (HT.sIx xs.length 0 lo)).take (HT.sIx xs.length xs.length hi - HT.sIx xs.length 0 lo),Heap.get?_push_size _ rfl⟩
theorem call_len_seq:CallR X (.builtin "len") (fun xs H Q=>∃ p ys,xs=[.ref p]∧(SqL X.K H p ys∨SqT X.K H p ys)∧Q (.int ys.length) H):=by
  intro pins s σ H xs us Q I r h
  obtain ⟨p,ys,rfl,hq,q⟩:=h
  obtain ⟨u,rfl,rx⟩:=vals1 r
  cases rx
  have hn:=line63
  rcases hq with hq | hq
  · obtain ⟨its,r',pl,hz⟩:=I.list hq
    have hlen:=r'.length
    exact Calls.call_len_list pl.isList (by simp only [List.size_toArray] <;> omega) ⟨.int ys.length,H,I.tok _,⟨s.toks + 1,by rw [List.size_toArray,hlen]⟩,q⟩
  · obtain ⟨its,r',pl,hz⟩:=I.tuple hq
    have hlen:=r'.length
    exact len_tuple pl (by simp only [List.size_toArray] <;> omega) ⟨.int ys.length,H,I.tok _,⟨s.toks + 1,by rw [List.size_toArray,hlen]⟩,q⟩
theorem call_len_str:CallR X (.builtin "len") (fun xs H Q=>∃ z,xs=[.str z]∧z.length ≤ sizeLine∧Q (.int z.length) H):=by
  intro pins s σ H xs us Q I r h
  obtain ⟨z,rfl,hz,q⟩:=h
  obtain ⟨u,rfl,t,rfl⟩:=vals1 r
  have hn:=line63
  exact len_str (by omega) ⟨.int z.length,H,I.tok _,⟨_,rfl⟩,q⟩
theorem CallR.or {f:Value} {r r':List V→Hp→VK→Prop} (h:CallR X f r) (h':CallR X f r'):CallR X f (fun xs H Q=>r xs H Q∨r' xs H Q):=by
  intro pins s σ H xs us Q I rs q
  rcases q with q | q
  · exact h pins s σ H xs us Q I rs q
  · exact h' pins s σ H xs us Q I rs q
theorem call_list_of:CallR X (.type "list") (fun xs H Q=>∃ p ys,xs=[.ref p]∧(SqL X.K H p ys∨SqT X.K H p ys)∧∀ l,H l=none→Q (.ref l) (upd H l (.lst ys))):=by
  intro pins s σ H xs us Q I r h
  obtain ⟨p,ys,rfl,hq,q⟩:=h
  obtain ⟨u,rfl,rx⟩:=vals1 r
  cases rx
  have fin:∀ (its:List Value),Vals ys its→ys.length ≤ sizeLine→∀ (h':Heap) (c':Nat),(∀ b o',s.heap.get? b=some o'→h'.get? b=some o')→
      h'.get? s.heap.objs.size=some { cls:=.type "list",dict:=none,data:=.seq its.toArray c',slots:=#[] }→EP X pins σ Q (.ref s.heap.objs.size) { s with heap:=h' }:=fun its r' hz h' c' kp e=>
    ⟨.ref s.heap.objs.size,_,I.laid (t':=s.toks) kp (Nat.le_refl _) (show ObjOk X.prog X.w _ h' _ (.lst ys) from ⟨hz,its,c',r',e⟩),rfl,q _ (I.hok.fresh (Nat.le_refl _))⟩
  rcases hq with hq | hq
  · obtain ⟨its,r',pl,hz⟩:=I.list hq
    have hlen:=r'.length
    obtain ⟨o,ho,hc,n,hd⟩:=pl.isList
    exact call_list_seq p (.inl rfl) ho hc hd (fun h' c' kp e=>fin its r' hz h' c' kp e) (by simp only [List.size_toArray] <;> omega)
  · obtain ⟨its,r',pl,hz⟩:=I.tuple hq
    have hlen:=r'.length
    obtain ⟨o,ho,hc,n,hd⟩:=pl
    exact call_list_seq p (.inr rfl) ho hc hd (fun h' c' kp e=>fin its r' hz h' c' kp e) (by simp only [List.size_toArray] <;> omega)
theorem call_tuple_of:CallR X (.type "tuple") (fun xs H Q=>∃ p ys,xs=[.ref p]∧((SqL X.K H p ys∧∀ l,H l=none→Q (.ref l) (upd H l (.tup ys)))∨(SqT X.K H p ys∧Q (.ref p) H))):=by
  intro pins s σ H xs us Q I r h
  obtain ⟨p,ys,rfl,h⟩:=h
  obtain ⟨u,rfl,rx⟩:=vals1 r
  cases rx
  rcases h with ⟨hq,q⟩ | ⟨hq,q⟩
  · obtain ⟨its,r',pl,hz⟩:=I.list hq
    have hlen:=r'.length
    refine call_tuple_list pl.isList (fun h' kp=>?_) (by simp only [List.size_toArray] <;> omega)
    have I1:Inv X pins σ H { s with heap:=h' }:=I.kept (t':=s.toks) kp
    have I2:Inv X pins σ (upd H h'.objs.size (.tup ys)) { s with heap:=h'.push { cls:=.type "tuple",data:=.seq its.toArray } }:=
      I1.laid (t':=s.toks) (fun b o e=>Heap.get?_push_of_some _ e) (Nat.le_refl _) (show ObjOk X.prog X.w _ _ _ (.tup ys) from ⟨hz,its,r',IsTup.new _ _⟩)
    exact ⟨.ref h'.objs.size,_,I2,rfl,q _ (I1.hok.fresh (Nat.le_refl _))⟩
  · obtain ⟨its,r',pl,hz⟩:=I.tuple hq
    exact call_tuple_same pl ⟨.ref p,H,I,rfl,q⟩
noncomputable def tyV (K:PySem.W.Frag) (T:String) (x:V) (H:Hp):Prop:=match x with
  | .str _=>T = "str"
  | .int _=>T = "int"
  | .ref p=>(T = "list" ∧ ∃ xs,SqL K H p xs)∨(T = "tuple" ∧ ∃ o,K.lookup p=some o∧o.cls=.type "tuple" ∧ o.dict=none)∨
      (T = "dict" ∧ ((∃ kvs,H p=some (.dK kvs))∨∃ kvs,H p=some (.dT kvs)))∨(T = "set" ∧ ∃ S n,H p=some (.set S n))
  | _=>False
theorem tyV_is {pins:List (Addr × Obj)} {σ:St} {H:Hp} {s:Shared} {T:String} {x:V} {v:Value} (I:Inv X pins σ H s) (r:RelV x v) (ty:tyV X.K T x H) :
    s.TypeIs v T∧∀ a,v=.ref a→∃ ob,s.heap.get? a=some ob∧ob.dict=none:=by
  cases x with
  | str z=>
    obtain ⟨t,rfl⟩:=r
    cases (show T = "str" from ty)
    exact ⟨typeIs_str s z t,fun _ e=>nomatch e⟩
  | int i=>
    obtain ⟨t,rfl⟩:=r
    cases (show T = "int" from ty)
    exact ⟨typeIs_int s i t,fun _ e=>nomatch e⟩
  | ref p=>
    cases r
    rcases ty with ⟨rfl,xs,hq⟩ | ⟨rfl,o,hk,hc,hd⟩ | ⟨rfl,hk⟩ | ⟨rfl,S,n,hk⟩
    · obtain ⟨its,_,pl,_⟩:=I.list hq
      refine ⟨pl.isList.typeIs,fun a e=>?_⟩
      cases e
      obtain ⟨o,n,e,c,hd,_⟩:=pl
      exact ⟨o,e,hd⟩
    · refine ⟨⟨o,I.kIn p o hk,hc⟩,fun a e=>?_⟩
      cases e
      exact ⟨o,I.kIn _ o hk,hd⟩
    · have z:∃ o,s.heap.get? p=some o∧o.ExactDict:=by
        rcases hk with ⟨kvs,hk⟩ | ⟨kvs,hk⟩
        · obtain ⟨_,_,_,_,o,_,_,e,ex,_⟩:=I.hok p _ hk
          exact ⟨o,e,ex⟩
        · obtain ⟨_,_,_,_,o,_,_,e,ex,_⟩:=I.hok p _ hk
          exact ⟨o,e,ex⟩
      obtain ⟨o,e,ex⟩:=z
      refine ⟨⟨o,e,ex.1⟩,fun a e2=>?_⟩
      cases e2
      exact ⟨o,e,ex.2.1⟩
    · obtain ⟨o,_,_,_,e,ex,_⟩:=I.hok p _ hk
      refine ⟨⟨o,e,ex.1⟩,fun a e2=>?_⟩
      cases e2
      exact ⟨o,e,ex.2.1⟩
  | _=>exact False.elim ty
noncomputable def tBM0 (K:PySem.W.Frag) (T:String) (r:V→List V→Hp→VK→Prop) (to:TE):TE:=fun σ H Q=>to σ H fun x H1=>tyV K T x H1∧r x [] H1 Q
noncomputable def tBM (K:PySem.W.Frag) (T:String) (r:V→List V→Hp→VK→Prop) (to:TE) (t:TA):TE:=fun σ H Q=>to σ H fun x H1=>tyV K T x H1∧t σ H1 fun xs H2=>r x xs H2 Q
variable {o e:Expr} {es:List Expr} {to:TE} {t:TA} {name:Str} {apos cpos:Pos} {T id:String} {r:V→List V→Hp→VK→Prop}
theorem pe_bm0 (pa:PlainAttrs T) (slot:Slot T name id) (hty:typeOf (.builtin id)=pure (.type "method_descriptor")) (hm:MtR X id r) (ho:PE X o to)
    (hbase:attributeBase o name X.env (eval o X.env)=eval o X.env:=by rfl) (hline:(apos.endLine == cpos.line)=true:=by rfl):PE X (.Call (.Attribute o name apos) [] [] cpos) (tBM0 X.K T r to):=by
  intro pins s σ H Q I h
  refine wpAny_Call_method0_late hbase hline (thn (ho pins s σ H _ I h) fun v s1 ⟨x,H1,I1,r1,ty,q1⟩=>?_)
  obtain ⟨h1,h2⟩:=tyV_is I1 r1 ty
  exact ⟨T,id,pa,slot,hty,h1,h2,Calls.callWith_builtin rfl (PySem.evalArgs_none (hm pins s1 σ H1 x [] v [] Q I1 r1 .nil q1))⟩
theorem pe_bm (pa:PlainAttrs T) (slot:Slot T name id) (hty:typeOf (.builtin id)=pure (.type "method_descriptor")) (hm:MtR X id r) (ho:PE X o to) (ha:PA X (e :: es) t)
    (hbase:attributeBase o name X.env (eval o X.env)=eval o X.env:=by rfl)
    (hfew:((backTo cpos (starEach (e :: es) X.env)).all (fun x=>!x.1) && (backToKw cpos (keywordEach [] X.env)).all (fun x=>x.1.isSome)
      && decide ((e :: es).length + ([]:List Keyword).length + (if ([]:List Keyword).isEmpty then 0 else 1) < 30))=true:=by rfl)
    (hline:(apos.endLine == cpos.line)=true:=by rfl) (hs:starEach (e :: es) X.env=(false,eval e X.env) :: starEach es X.env:=by rfl) (hplain:(backTo cpos (starEach es X.env)).any (·.1)=false:=by rfl) :
    PE X (.Call (.Attribute o name apos) (e :: es) [] cpos) (tBM X.K T r to t):=by
  intro pins s σ H Q I h
  refine wpAny_Call_method_late hbase hfew hline rfl (thn (ho pins s σ H _ I h) fun v s1 ⟨x,H1,I1,r1,ty,q1⟩=>?_)
  obtain ⟨h1,h2⟩:=tyV_is I1 r1 ty
  refine ⟨T,id,pa,slot,hty,h1,h2,?_⟩
  have hA:=ha cpos pins s1 σ H1 _ I1 q1
  rw [hs] at hA ⊢
  refine Calls.callWith_builtin (by show (false || (backTo cpos (starEach es X.env)).any (·.1))=false; rw [hplain] <;> rfl) (Calls.evalArgs_plain ?_)
  exact thn hA fun us s2 ⟨vs,H2,I2,r2,q2⟩=>hm pins s2 σ H2 x vs v us Q I2 r1 r2 q2
end
end L2
namespace L2
open PySem PySem.Spec PyProof.Rows
noncomputable def MtM (X:Cx) (id:String) (r:V→List V→Hp→VK→Prop):Prop:=
  ∀ (pins:List (Addr × Obj)) (s:Shared) (σ:St) (H:Hp) (x:V) (xs:List V) (v:Value) (us:List Value) (Q:VK),Inv X pins σ H s→RelV x v→Vals xs us→r x xs H Q→
    wpAny (model X.prog X.w) X.A (call (.builtin id) (v :: us)) (EP X pins σ Q) X.xe s
theorem Vals.one:∀ {x:V} {us:List Value},Vals [x] us→∃ u,us=[u]∧RelV x u
  | _,_,.cons r .nil=>⟨_,rfl,r⟩
theorem Vals.zero:∀ {us:List Value},Vals [] us→us=[]
  | _,.nil=>rfl
theorem Vals.dropLast {xs:List V} {us:List Value} (h:Vals xs us):Vals xs.dropLast us.dropLast:=by
  induction h with
  | nil=>exact .nil
  | cons r t ih=>
    cases t with
    | nil=>exact .nil
    | cons q t'=>exact .cons r ih
theorem Vals.rep {xs:List V} {us:List Value} (h:Vals xs us):∀ k:Nat,Vals (List.replicate k xs).flatten (List.replicate k us).flatten
  | 0=>.nil
  | k + 1=>by
    rw [List.replicate_succ,List.replicate_succ,List.flatten_cons,List.flatten_cons]
    exact Vals.append h (Vals.rep h k)
theorem erase_last {α:Type} (l:List α):l.eraseIdx (l.length - 1)=l.dropLast:=by
  induction l with
  | nil=>rfl
  | cons a r ih=>
    cases r with
    | nil=>rfl
    | cons b r=>
      have e:(a :: b :: r).length - 1=((b :: r).length - 1) + 1:=by
        have h1:(a :: b :: r).length=r.length + 2:=rfl
        have h2:(b :: r).length=r.length + 1:=rfl
        omega
      rw [e,List.eraseIdx_cons_succ,ih]
      all_goals rfl
theorem foldl_rep (its:List Value):∀ (k:Nat) (acc:List Value),
    List.foldl (fun x1 x2=>x1 ++ x2) acc.toArray (List.replicate k its.toArray)=(acc ++ (List.replicate k its).flatten).toArray
  | 0,acc=>by simp
  | k + 1,acc=>by
    have e:acc.toArray ++ its.toArray=(acc ++ its).toArray:=by simp
    have e2:(acc ++ its) ++ (List.replicate k its).flatten=acc ++ (List.replicate (k + 1) its).flatten:=by
      rw [List.replicate_succ,List.flatten_cons,List.append_assoc]
    rw [← e2,← foldl_rep its k (acc ++ its),← e,List.replicate_succ,List.foldl_cons]
section
variable {X:Cx} {pins:List (Addr × Obj)} {σ:St} {H:Hp} {s:Shared} {l b:Addr} {xs ys zs:List V}
theorem Inv.lset {its its':List Value} {n:Nat} {f:Array Value→Array Value} {t':Nat} (I:Inv X pins σ H s) (hH:H l=some (.lst xs))
    (e:s.heap.get? l=some { cls:=.type "list",data:=.seq its.toArray n }) (hf:f its.toArray=its'.toArray) (hv:Vals ys its') (hz:ys.length ≤ sizeLine) :
    Inv X pins σ (upd H l (.lst ys)) { s with heap:=s.heap.update l (Obj.mapSeq f),toks:=t' }:=by
  have q:=PySem.IsL.update e f
  rw [hf] at q
  refine I.write (x:=l) (e:=l) (by rw [hH]; exact trivial) (.inl rfl) (fun b' u hb hu=>(Heap.get?_update_other s.heap (Obj.mapSeq f) (Ne.symm hb)).trans hu) ⟨_,q⟩ ?_
  exact ⟨hz,its',_,hv,q⟩
theorem Inv.lnew {its:List Value} {t':Nat} (I:Inv X pins σ H s) (hv:Vals ys its) (hz:ys.length ≤ sizeLine) :
    Inv X pins σ (upd H s.heap.objs.size (.lst ys)) { s with heap:=s.heap.push { cls:=.type "list",data:=.seq its.toArray },toks:=t' }:=
  I.laid (fun _ _ q=>Heap.get?_push_of_some _ q) (Nat.le_refl _) ⟨hz,its,0,hv,Heap.get?_push_size _ rfl⟩
theorem Inv.fresh (I:Inv X pins σ H s):H s.heap.objs.size=none:=I.hok.fresh (Nat.le_refl _)
theorem Inv.lstM (I:Inv X pins σ H s) (hH:H l=some (.lst xs)):xs.length ≤ sizeLine∧∃ (its:List Value) (n:Nat),Vals xs its∧xs.length=its.length∧s.heap.get? l=some { cls:=.type "list",data:=.seq its.toArray n }:=by
  obtain ⟨z,its,n,r,e⟩:=I.hok l _ hH
  exact ⟨z,its,n,r,r.length,e⟩
theorem notLongL {n:Nat} (h:n ≤ sizeLine):Builtin.List.listTooLong n=false:=by
  unfold Builtin.List.listTooLong
  exact decide_eq_false (by omega)
end
section
variable {X:Cx}
noncomputable def rAppend:V→List V→Hp→VK→Prop:=fun x vs H Q=>∃ l xs y,x=.ref l∧vs=[y]∧H l=some (.lst xs)∧xs.length < sizeLine∧Q .non (upd H l (.lst (xs ++ [y])))
theorem mt_append:MtM X "list.append" rAppend:=by
  intro pins s σ H x vs v us Q I rx rv h
  obtain ⟨l,xs,y,rfl,rfl,hH,hz,q⟩:=h
  cases rx
  obtain ⟨u,rfl,ru⟩:=rv.one
  obtain ⟨z,its,n,r,hl,e⟩:=I.lstM hH
  refine call_meets F.slot_list_append ⟨_,e,rfl⟩ F.entry_list_append (F.args_list_append_2 _ _) (PySem.list_append l its.toArray n u (by rw [List.size_toArray]; omega)) ⟨e,?_⟩
  refine ⟨.non,_,I.lset (its':=its ++ [u]) hH e (by simp) (r.append (.cons ru .nil)) ?_,rfl,q⟩
  rw [List.length_append,List.length_singleton]
  omega
noncomputable def rPop:V→List V→Hp→VK→Prop:=fun x vs H Q=>∃ l xs y,x=.ref l∧vs=[]∧H l=some (.lst xs)∧xs[xs.length - 1]?=some y∧Q y (upd H l (.lst xs.dropLast))
theorem mt_pop:MtM X "list.pop" rPop:=by
  intro pins s σ H x vs v us Q I rx rv h
  obtain ⟨l,xs,y,rfl,rfl,hH,hy,q⟩:=h
  cases rx
  have hus:=rv.zero
  subst hus
  obtain ⟨z,its,n,r,hl,e⟩:=I.lstM hH
  obtain ⟨u,hu,ru⟩:=r.get hy
  have hy':its.toArray[its.toArray.size - 1]?=some u:=by
    show its.toArray[its.length - 1]?=some u
    rw [← Array.getElem?_toList,← hl]
    exact hu
  refine call_meets F.slot_list_pop ⟨_,e,rfl⟩ F.entry_list_pop (F.args_list_pop_1 _) (MeetsSeq.list_pop_last l its.toArray n u hy' (by rw [List.size_toArray]; omega)) ⟨e,?_⟩
  refine ⟨y,_,I.lset (its':=its.dropLast) hH e ?_ r.dropLast ?_,ru,q⟩
  · show its.toArray.eraseIdxIfInBounds (its.toArray.size - 1)=its.dropLast.toArray
    rw [List.size_toArray,List.eraseIdxIfInBounds_toArray,erase_last]
  · rw [List.length_dropLast]
    omega
noncomputable def rCat:R2:=fun x y H Q=>∃ l b xs zs,x=.ref l∧y=.ref b∧H l=some (.lst xs)∧H b=some (.lst zs)∧xs.length + zs.length ≤ sizeLine∧∀ p,H p=none→Q (.ref p) (upd H p (.lst (xs ++ zs)))
theorem op_cat:OpR X (binaryOp .Add) rCat:=by
  intro pins s σ H x y v u Q I rx ry h
  obtain ⟨l,b,xs,zs,rfl,rfl,hH,hB,hz,q⟩:=h
  cases rx
  cases ry
  obtain ⟨z,its,n,r,hl,e⟩:=I.lstM hH
  obtain ⟨z2,its2,n2,r2,hl2,e2⟩:=I.lstM hB
  refine PySem.P.add_list e e2 ?_ (by rw [List.size_toArray,List.size_toArray]; omega)
  have ea:its.toArray ++ its2.toArray=(its ++ its2).toArray:=by simp
  rw [ea]
  exact ⟨.ref _,_,I.lnew (t':=s.toks) (r.append r2) (by rw [List.length_append]; omega),rfl,q _ I.fresh⟩
noncomputable def rRep:R2:=fun x y H Q=>∃ l k xs,x=.ref l∧y=.int k∧H l=some (.lst xs)∧-(2 ^ 63) ≤ k∧k < 2 ^ 63∧xs.length * k.toNat ≤ sizeLine∧
  ∀ p,H p=none→Q (.ref p) (upd H p (.lst (List.replicate k.toNat xs).flatten))
theorem len_rep {α:Type} (xs:List α) (k:Nat):(List.replicate k xs).flatten.length=k * xs.length:=by
  induction k with
  | zero=>simp
  | succ k ih=>rw [List.replicate_succ,List.flatten_cons,List.length_append,ih,Nat.succ_mul,Nat.add_comm]
theorem op_rep:OpR X (binaryOp .Mult) rRep:=by
  intro pins s σ H x y v u Q I rx ry h
  obtain ⟨l,k,xs,rfl,rfl,hH,h1,h2,hz,q⟩:=h
  cases rx
  obtain ⟨t,rfl⟩:=ry
  obtain ⟨z,its,n,r,hl,e⟩:=I.lstM hH
  have hlen:its.toArray.size * k.toNat ≤ sizeLine:=by rw [List.size_toArray,← hl]; exact hz
  have hcap:¬ its.toArray.size * k.toNat > (2 ^ 63 - 1) / 8:=by
    have:(sizeLine:Nat) ≤ (2 ^ 63 - 1) / 8:=by decide
    omega
  have hfit:¬ (!Builtin.List.listFitsIndex k)=true:=by
    rw [fitsIndex_both h1 h2]
    exact Bool.false_ne_true
  have hlong:¬ Builtin.List.listTooLong (its.toArray.size * k.toNat)=true:=by
    rw [notLongL hlen]
    exact Bool.false_ne_true
  have hnew:List.foldl (fun x1 x2=>x1 ++ x2) #[] (List.replicate (if its.toArray.isEmpty=true then 0 else k.toNat) its.toArray)=(List.replicate k.toNat its).flatten.toArray:=by
    have f0:∀ m:Nat,List.foldl (fun x1 x2=>x1 ++ x2) #[] (List.replicate m its.toArray)=(List.replicate m its).flatten.toArray:=fun m=>by
      have:=foldl_rep its m []
      rw [List.nil_append] at this
      exact this
    rw [f0]
    cases its with
    | nil=>simp
    | cons a r'=>rw [if_neg (by simp)]
  refine wpAny_binaryOp_repeat_ref (T := "list") (U := "int") (by decide) ⟨_,e,rfl⟩ (fun s'=>typeIs_int s' k t) noFill_list_mul F.fills_int_mul F.slot_int_rmul repeat_list F.slot_int_index.lookup
    (call_meets F.slot_int_rmul (typeIs_int s k t) F.entry_int_rmul (F.args_int_rmul_2 _ _) (int___rmul___int_list k t l its.toArray n)
      ⟨e,rfl,⟨_,e,rfl⟩,call_meets F.slot_list_mul ⟨_,e,rfl⟩ F.entry_list_mul (F.args_list_mul_2 _ _) (AutoListH.list___mul___list_int_3 l its.toArray n k t hfit hcap hlong) ⟨e,?_⟩⟩)
  rw [hnew]
  exact ⟨.ref _,_,I.lnew (t':=s.toks) (r.rep k.toNat) (by rw [len_rep,Nat.mul_comm]; exact hz),rfl,q _ I.fresh⟩
end
section
variable {prog:Program} {w:World} {A:Around} {E:Value→Shared→Prop} {s:Shared}
end
section
variable {X:Cx}
end
end L2
namespace Att
open PySem PySem.W PySem.Calls PyProof.Rows
theorem ints_of_wellAll {P:Params} {h:Heap}:∀ (ns:List Int) (vs:List Value),WellAll P h vs (ns.map WData.int)→IntsAre vs ns:=by
  intro ns
  induction ns with
  | nil=>
    intro vs w
    rw [List.map_nil] at w
    cases w
    exact .nil
  | cons n ns ih=>
    intro vs w
    rw [List.map_cons] at w
    cases w with
    | cons a b=>
      cases a
      exact .cons _ _ (ih _ b)
theorem script_of {l:OpenLaw} {n:Nat} (hn:l.most=some n) {P:Params} {h:Heap} {args:List WData} {vals:List Value}
    (hpre:l.row.toRowW.claim.pre args=true) (hwl:WellAll P h vals args) :
    ∃ a vs ns,vals=[Value.ref a]∧args=[WData.list (ns.map WData.int)]∧h.get? a=some { cls:=.type "list",data:=.seq vs.toArray }∧IntsAre vs ns∧ns.length ≤ n:=by
  have hsh:WShape.hasAll [] args [.list .int]=true:=(pre_splitW hpre).1
  have hc:l.pre.holds [] { args:=args }=true:=(pre_splitW hpre).2
  obtain ⟨d,r,rfl,h1,h2⟩:=hasAllW_cons hsh
  obtain rfl:=hasAllW_nil h2
  obtain ⟨xs,rfl,h3⟩:=hasW_list h1
  obtain ⟨ns,rfl⟩:=items_int h3
  have hlen:ns.length ≤ n:=by
    unfold OpenLaw.pre at hc
    have h4:(WTm.not (.lt (.lit (.int (n:Int))) (.len (.arg 0)))).holds [] { args:=[.list (ns.map .int)] }=true:=by
      have h4:=(holds_andW hc).1
      rw [hn] at h4
      exact h4
    have h5:=condW_of h4 (w_not (w_lt w_lit (w_len_list (w_arg rfl))))
    rw [List.length_map] at h5
    refine Nat.le_of_not_lt fun q=>?_
    have q':(n:Int) < ((ns.length:Nat):Int):=by omega
    first
      | (rw [decide_eq_true q'] at h5; exact absurd h5 (by decide))
      | (simp at h5; omega)
  cases hwl with
  | cons w1 w2=>
    cases w2
    cases w1 with
    | list ho hall=>exact ⟨_,_,ns,rfl,rfl,ho,ints_of_wellAll ns _ hall,hlen⟩
theorem post_true (l:OpenLaw) (args:List WData):l.row.toRowW.claim.post args (.bool true) args=true:=
  postW_of (r:=l.row.toRowW) (X:=(true == true))
    (show WShape.has [] (.bool true) .bool=true by first | rfl | decide | simp [WShape.has,WShape.arms,WShape.armsAll])
    (show (WTm.eq .res (.lit (.bool true))).value [] { args:=args,res:=some (.bool true),after:=args }=some (.bool (true == true)) from w_eq_bool (w_res rfl) w_lit) rfl
theorem attach_call {l:OpenLaw} {n:Nat} {q:Program} {loose:List Str} {XP:(Str→Option Value)→Heap→Prop} {YP:World→Heap→Prop} {d:DefRec}
    (hn:l.most=some n) (hdf:d.params.defaults=[])
    (call:∀ (w:World) (s₀ s₁:Shared) (mg mb:Str→Option Value) (fa:Addr) (o:Obj) (pm cd doc:Value) (a:Addr) (vs:List Value) (ns:List Int),
      Ground q loose [] XP w s₀ mg mb s₁.heap→YP w s₁.heap→
      s₁.heap.get? fa=some o→o.data=.func (docDef d.name d.params d.body d.scope pm cd doc)→s₁.heap.CodeRec cd d.name→mg d.name=some (.ref fa)→
      s₁.heap.get? a=some { cls:=.type "list",data:=.seq vs.toArray }→IntsAre vs ns→ns.length ≤ n→s₁.gens=#[]→
      codeAny (model l.prog w) callerA (.call (.ref fa) ⟨[.ref a],[]⟩) (fun r s'=>r=.ok (.ret (.bool true))∧OldK s₁.heap s'.heap∧s'.os=s₁.os∧AllBare s'.gens) s₁) :
    WalkO q loose XP YP l.row.toRowW d [] (fun f vs=>PySem.call f vs):=by
  intro w s₀ s₁ mg mb G Y fa o pm cd doc dV kV ho hd hcd hD hmg hg args vals as hpre hlay hrd hwl hlo
  obtain rfl:dV=.none:=Dflts.none hD hdf
  obtain rfl:kV=.none:=Dflts.noKw hD
  obtain ⟨a,vs,ns,rfl,rfl,hobj,hints,hlen⟩:=script_of hn hpre hwl
  refine enter_call (codeAny_mono (call w s₀ s₁ mg mb fa o pm cd doc a vs ns G Y ho (fd_plain hd) hcd hmg hobj hints hlen hg) fun r s' hq=>?_)
  obtain ⟨rfl,h2,h3,h4⟩:=hq
  exact ⟨.inl ⟨.bool true,.bool true,[],rfl,fun _=>rfl,.bool true,post_true l _,fun _=>⟨List.Pairwise.nil,fun _ hm=>(nomatch hm)⟩⟩,h2,h3,h4⟩
section
variable {prog:Program} {w:World} {A:Around} {E:Value→Shared→Prop} {s:Shared} {K:Frag}
end
end Att
namespace L2
open PySem PySem.Spec PyProof.Rows
theorem vals_ints:∀ {vs:List Value} {ns:List Int},IntsAre vs ns→Vals (ns.map V.int) vs
  | _,_,.nil=>.nil
  | _,_,.cons n t h=>.cons ⟨t,rfl⟩ (vals_ints h)
noncomputable def Only (H:Hp):Prop:=∀ b,H b=none∨∃ o xs,H b=some (.frz o (.lst xs))
theorem law_call {P:Program} {w:World} {K:PySem.W.Frag} {mg mb:Str→Option Value} {CX:CXT} {k:Nat} {fa a:Addr} {fd:FuncData} {x:Str} {sp:Sp} {s₁:Shared} {vs:List Value} {ns:List Int}
    (KX:K.In s₁.heap) (hns:s₁.heap.Ns mainGlobals mg) (hb:s₁.heap.Ns builtinsNs mb) (hbb:∀ x:Str,x ≠ "__name__" → mb x=bootBuiltins x) (hlim:s₁.heap.NoLimit) (hg:s₁.gens=#[])
    (ha:s₁.heap.get? a=some { cls:=.type "list",data:=.seq vs.toArray }) (hi:IntsAre vs ns) (hl:ns.length ≤ sizeLine) (hr:Room k callerA)
    (F:∀ base:Heap,K.In base→base.Ns mainGlobals mg→FnOk P w K mg base CX k fa fd [x] sp) (hbind:∀ (s:Shared) (u:Value),BindsTo s fd ⟨[u],[]⟩ [(x,u)])
    (hsp:∀ H:Hp,Only H→SqL K H a (ns.map V.int)→sp [.ref a] H (fun v _=>v=.bl true) fun _ _ _=>False)
    (hCX:∀ H e s',CX [] H s₁ (fun _ _ _=>False) e s'→False) :
    codeAny (model P w) callerA (.call (.ref fa) ⟨[.ref a],[]⟩) (fun r s'=>r=.ok (.ret (.bool true))∧OldK s₁.heap s'.heap∧s'.os=s₁.os∧AllBare s'.gens) s₁:=by
  have rv:=vals_ints hi
  have lenV:=hi.length
  -- from an abstract heap in which nothing but the script may be tracked
  have core:∀ H:Hp,Only H→SqL K H a (ns.map V.int)→HOk P w H s₁.heap→(∀ b,H b ≠ none→b=a)→(H a ≠ none→K.lookup a=none)→
      codeAny (model P w) callerA (.call (.ref fa) ⟨[.ref a],[]⟩) (fun r s'=>r=.ok (.ret (.bool true))∧OldK s₁.heap s'.heap∧s'.os=s₁.os∧AllBare s'.gens) s₁:=by
    intro H hO hS hok hA hK
    have base_of:∀ {b:Addr} {o:Obj},s₁.heap.get? b=some o→H b=none→(hidT s₁.heap H).get? b=some o:=fun e n=>hidT_get e n
    have noA:∀ {b:Addr} {o:Obj} {es:Array DictEntry} {ep:Nat},s₁.heap.get? b=some o→o.data=.dict es ep→H b=none:=fun {b o es ep} e d=>by
      cases q:H b with
      | none=>rfl
      | some u=>
        have e':b=a:=hA b (by rw [q]; simp)
        subst e'
        rw [ha] at e; cases e
        have d':Data.seq vs.toArray _=Data.dict es ep:=d
        cases d'
    have nsK:∀ {b:Addr} {m:Str→Option Value},s₁.heap.Ns b m→(hidT s₁.heap H).Ns b m:=fun {b m} ⟨o,es,ep,e,d,r⟩=>⟨o,es,ep,base_of e (noA e d),d,r⟩
    have hKb:K.In (hidT s₁.heap H):=fun b o e=>base_of (KX b o e) (by
      cases q:H b with
      | none=>rfl
      | some u=>
        have e':b=a:=hA b (by rw [q]; simp)
        subst e'
        rw [hK (by rw [q]; simp)] at e; cases e)
    have hM:Mod K mg (hidT s₁.heap H):=⟨hKb,nsK hns,⟨mb,nsK hb,hbb⟩,let ⟨mc,h1,h2⟩:=hlim; ⟨mc,nsK h1,h2⟩⟩
    have e0:Env0 P w K mg (hidT s₁.heap H) callerA [] s₁ H:=⟨rfl,hM,fun b o e=>of_hidT e,Nat.le_of_eq (hidT_size _ _),trivial,fun b hb=>absurd (show b ∈ ([]:List Addr) from hb) (by simp),hok,.of_eq hg⟩
    refine codeAny_mono ((F _ hKb (nsK hns)).run callerA [] s₁ H ⟨[.ref a],[]⟩ [.ref a] [.ref a] _ _ hr e0 (hbind s₁ (.ref a)) (.cons rfl .nil) (hsp H hO hS)) fun r s' h=>?_
    cases r with
    | error e=>exact (hCX H e s' h).elim
    | ok fl=>
      cases fl with
      | next=>exact False.elim h
      | brk=>exact False.elim h
      | cont=>exact False.elim h
      | ret u=>
        obtain ⟨v,H',os,bare,un,hok',r',q⟩:=h
        have q':v=.bl true:=q
        subst q'
        obtain rfl:u=Value.bool true:=r'
        refine ⟨rfl,OldK.of_keep fun b o e=>?_,os,bare⟩
        cases q:H b with
        | none=>exact un.keep b o e q (by intro z; exact absurd (show b ∈ ([]:List Addr) from z) (by simp)) (by simp)
        | some u=>
          rcases hO b with z | ⟨ob,xs,z⟩
          · rw [q] at z; cases z
          · have z2:=un.frzs b ob _ z
            obtain ⟨e1,_⟩:=hok b _ z
            obtain ⟨e2,_⟩:=hok' b _ z2
            rw [e] at e1; cases e1
            exact e2
  cases hk:K.lookup a with
  | some o=>
    -- the script is one of the module's own objects
    have e:=KX a o hk
    rw [ha] at e
    cases e
    refine core (fun _=>none) (fun _=>.inl rfl) (.inr ⟨_,vs.toArray,_,hk,rfl,rfl,rfl,by rw [List.size_toArray,lenV]; exact hl,by simpa using rv⟩) (fun b u z=>by have z':(none:Option HO)=some u:=z; cases z') (fun b z=>absurd rfl z) fun z=>absurd rfl z
  | none=>
    refine core (fun b=>if b=a then some (.frz { cls:=.type "list",data:=.seq vs.toArray } (.lst (ns.map V.int))) else none) (fun b=>?_) (.inl (.inr ⟨{ cls:=.type "list",data:=.seq vs.toArray },if_pos rfl⟩)) (fun b u z=>?_) (fun b z=>?_) fun _=>hk
    · by_cases hb:b=a
      · exact .inr ⟨_,_,if_pos hb⟩
      · exact .inl (if_neg hb)
    · by_cases hb:b=a
      · have z':=(if_pos hb).symm.trans z
        cases z'
        subst hb
        exact ⟨ha,by rw [List.length_map]; exact hl,vs,_,rv,ha⟩
      · have z':=(if_neg hb).symm.trans z
        cases z'
    · by_cases hb:b=a
      · exact hb
      · exact absurd (if_neg hb) z
end L2
namespace L2
open PySem PySem.Spec PyProof.Rows
theorem walk_of {l:PySem.W.OpenLaw} {n k:Nat} {q:Program} {loose:List Str} {XP:(Str→Option Value)→Heap→Prop} {YP:World→Heap→Prop} {d:DefRec} {K:Params→PySem.W.Frag} {CX:World→CXT} {sp:World→Sp} {x:Str}
    (hn:l.most=some n) (hn2:n ≤ sizeLine) (hdf:d.params.defaults=[]) (hr:Room k callerA)
    (hY:∀ (w:World) (h:Heap),YP w h→(K w.params).In h)
    (F:∀ (w:World) (mg:Str→Option Value) (fa:Addr) (h:Heap),(K w.params).In h→h.Ns mainGlobals mg→mg d.name=some (.ref fa)→
      ∃ fd:FuncData,(∀ (s:Shared) (u:Value),BindsTo s fd ⟨[u],[]⟩ [(x,u)])∧
        ∀ base:Heap,(K w.params).In base→base.Ns mainGlobals mg→FnOk l.prog w (K w.params) mg base (CX w) k fa fd [x] (sp w))
    (hsp:∀ (w:World) (H:Hp) (a:Addr) (ns:List Int),ns.length ≤ n→Only H→SqL (K w.params) H a (ns.map V.int)→sp w [.ref a] H (fun v _=>v=.bl true) fun _ _ _=>False)
    (hCX:∀ (w:World) (H:Hp) (s:Shared) (e:Value) (s':Shared),CX w [] H s (fun _ _ _=>False) e s'→False) :
    PySem.W.WalkO q loose XP YP l.row.toRowW d [] (fun f vs=>PySem.call f vs):=by
  refine Att.attach_call hn hdf fun w s₀ s₁ mg mb fa o pm cd doc a vs ns G Y ho hd hcd hmg hobj hints hlen hg=>?_
  have KX:=hY w _ Y
  obtain ⟨fd,hb,hF⟩:=F w mg fa _ KX G.T.g hmg
  exact law_call KX G.T.g G.T.b G.T.builtins G.T.nolimit hg hobj hints (Nat.le_trans hlen hn2) hr hF hb (fun H hO hS=>hsp w H a ns hlen hO hS) fun H e s'=>hCX w H s₁ e s'
end L2
namespace L2
open PySem PySem.Spec PyProof.Rows
noncomputable def defArgs (s:Stmt):Arguments:=match s with
  | .FunctionDef _ a _ _ _ _ _ _ _ _=>a
  | _=>{ posonlyargs:=[],args:=[],vararg:=none,kwonlyargs:=[],kw_defaults:=[],kwarg:=none,defaults:=[] }
noncomputable def defBody (s:Stmt):List Stmt:=match s with
  | .FunctionDef _ _ b _ _ _ _ _ _ _=>b
  | _=>[]
noncomputable def defScope (s:Stmt):Scope:=match s with
  | .FunctionDef _ _ _ _ _ _ sc _ _ _=>sc
  | _=>{ kind:=.function,names:=[],isGenerator:=false,isCoroutine:=false }
noncomputable abbrev CX0:CXT:=fun _ _ _ _ _ _=>False
structure Fun (K:PySem.W.Frag) (x qual:Str) (st:Stmt) (f:Addr) (fd:FuncData):Prop where
  ex:∃ (oc:Value) (od:Option Addr) (kV doc pm:Value) (an:Option Addr) (cdv ct:Value) (osl:Array (Option Value)),
    fd=PySem.W.fnOf x qual (defArgs st) (defBody st) (defScope st) .none kV doc pm an cdv ct∧K.lookup f=some ⟨oc,od,.func fd,osl⟩∧PySem.W.codeIn K cdv qual=true
  kp:PySem.W.keepIn K (.ref f)=true
section
variable {P:Program} {w:World} {K:PySem.W.Frag} {mg:Str→Option Value} {base:Heap}
theorem Fun.ok {x qual:Str} {st:Stmt} {f:Addr} {fd:FuncData} {N ps:List Str} {k:Nat} {sp:Sp} (F:Fun K x qual st f fd) (S:FnScope N ps (defScope st)) (len:∀ vs H Q E,sp vs H Q E→vs.length=ps.length)
    (hbody:∀ (cdv:Value) (A:Around) (outer:List Env) (s:Shared) (H:Hp) (vs:List V) (Q:VK) (E:XK),Room k (A.deeper (envOfC qual (defScope st) s.heap.objs.size f cdv))→sp vs H Q E→
      ∃ t,PSs (cxOf CX0 P w K mg base N qual (defScope st) f cdv A outer s H E).nox (defBody st) t∧t { nx:=fun _ H'=>Q .non H',rt:=Q } (start N vs) H):FnOk P w K mg base CX0 (k + 1) f fd ps sp:=by
  obtain ⟨oc,od,kV,doc,pm,an,cdv,ct,osl,rfl,lk,hcd⟩:=F.ex
  refine fn_of lk hcd S len fun A outer s H vs Q E hr hsp=>?_
  obtain ⟨t,h,q⟩:=hbody cdv A outer s H vs Q E hr hsp
  exact ⟨t,h.nox,q⟩
theorem Fun.binds {x qual:Str} {st:Stmt} {f:Addr} {fd:FuncData} {ps:List Str} (F:Fun K x qual st f fd)
    (h:∀ (kV doc pm:Value) (an:Option Addr) (cdv ct:Value) (us:List Value),us.length=ps.length→bindArgs (PySem.W.fnOf x qual (defArgs st) (defBody st) (defScope st) .none kV doc pm an cdv ct) ⟨us,[]⟩=pure (ps.zip us)):Binds K fd ps []:=by
  obtain ⟨oc,od,kV,doc,pm,an,cdv,ct,osl,rfl,lk,hcd⟩:=F.ex
  exact .all (h kV doc pm an cdv ct)
theorem fun_mk {x qual:Str} {st:Stmt} {f:Addr} {oc:Value} {od an:Option Addr} {osl:Array (Option Value)} {kV doc pm cdv ct:Value} (l:K.lookup f=some ⟨oc,od,.func (PySem.W.fnOf x qual (defArgs st) (defBody st) (defScope st) .none kV doc pm an cdv ct),osl⟩)
    (c:PySem.W.codeIn K cdv qual=true) (k:PySem.W.keepIn K (.ref f)=true):Fun K x qual st f (PySem.W.fnOf x qual (defArgs st) (defBody st) (defScope st) .none kV doc pm an cdv ct):=⟨⟨oc,od,kV,doc,pm,an,cdv,ct,osl,rfl,l,c⟩,k⟩
end
section
variable {X:Cx}
theorem pv (i:Nat) {x:Str} {pos:Pos} (hN:X.N[i]?=some x:=by rfl) (hv:Vis X.env.scope x:=by first | exact Or.inl rfl | exact Or.inr (Or.inl rfl) | exact Or.inr (Or.inr rfl)) (hd:(x == ("__debug__" : Str))=false:=by decide)
    (hcd:(x == ("__classdict__" : Str))=false:=by decide):PE X (.Name x pos) (tVar i):=pe_var hN hv hd hcd
end
noncomputable def Same (H H':Hp):Prop:=∀ b o,H b=some o→H' b=some o
theorem Same.refl (H:Hp):Same H H:=fun _ _ h=>h
theorem Same.trans {H H1 H2:Hp} (a:Same H H1) (b:Same H1 H2):Same H H2:=fun c o h=>b c o (a c o h)
theorem Same.free {H H':Hp} (e:Same H H') {l:Addr} (h:H' l=Option.none):H l=Option.none:=by
  cases q:H l with
  | none=>rfl
  | some o=>
    rw [e l o q] at h
    cases h
theorem Same.seq {K:PySem.W.Frag} {H H':Hp} {a:Addr} {xs:List V} (e:Same H H') (h:SqL K H a xs):SqL K H' a xs:=by
  rcases h with (h | ⟨o,h⟩) | h
  · exact .inl (.inl (e _ _ h))
  · exact .inl (.inr ⟨o,e _ _ h⟩)
  · exact .inr h
end L2
set_option Elab.async false
set_option linter.all false
set_option maxRecDepth 100000
set_option maxHeartbeats 4000000
namespace PF
open PySem PySem.Spec L2
open PyProof.Rows hiding St
inductive D where
  | non | bl (b:Bool) | int (i:Int) | str (x:Str) | tup (l:List D) | lst (l:List D) | scr (l:List Int) | dic (ks:List Key) (l:List D)
mutual
noncomputable def Rep (K:PySem.W.Frag) (H:Hp):D→V→Prop
  | .non,v=>v=.non
  | .bl b,v=>v=.bl b
  | .int i,v=>v=.int i
  | .str x,v=>v=.str x
  | .tup l,v=>∃ a vs,v=.ref a∧SqT K H a vs∧RepL K H l vs
  | .lst l,v=>∃ a vs,v=.ref a∧H a=some (.lst vs)∧RepL K H l vs
  | .scr l,v=>∃ a,v=.ref a∧SqL K H a (l.map V.int)
  | .dic ks l,v=>∃ a kvs,v=.ref a∧H a=some (.dK kvs)∧kvs.map (·.1)=ks∧RepL K H l (kvs.map (·.2))
noncomputable def RepL (K:PySem.W.Frag) (H:Hp):List D→List V→Prop
  | [],vs=>vs=[]
  | d :: l,vs=>∃ v r,vs=v :: r∧Rep K H d v∧RepL K H l r
end
mutual
noncomputable def noList:D→Bool
  | .lst _=>false
  | .scr _=>false
  | .dic _ _=>false
  | .tup l=>noLists l
  | .non=>true
  | .bl _=>true
  | .int _=>true
  | .str _=>true
noncomputable def noLists:List D→Bool
  | []=>true
  | d :: l=>noList d && noLists l
end
section
variable {K:PySem.W.Frag} {H H':Hp}
theorem SqT.same (e:Same H H') {a:Addr} {xs:List V} (h:SqT K H a xs):SqT K H' a xs:=by
  rcases h with (h | ⟨o,h⟩) | h
  · exact .inl (.inl (e _ _ h))
  · exact .inl (.inr ⟨o,e _ _ h⟩)
  · exact .inr h
mutual
theorem Rep.mono (e:Same H H'):∀ {d:D} {v:V},Rep K H d v→Rep K H' d v
  | .non,_,h=>h
  | .bl _,_,h=>h
  | .int _,_,h=>h
  | .str _,_,h=>h
  | .tup l,v,h=>by
    obtain ⟨a,vs,q1,q,r⟩:=h
    exact ⟨a,vs,q1,SqT.same e q,RepL.mono e r⟩
  | .lst l,v,h=>by
    obtain ⟨a,vs,q1,q,r⟩:=h
    exact ⟨a,vs,q1,e a _ q,RepL.mono e r⟩
  | .scr l,v,h=>by
    obtain ⟨a,q1,q⟩:=h
    exact ⟨a,q1,e.seq q⟩
  | .dic ks l,v,h=>by
    obtain ⟨a,kvs,q1,q,q2,r⟩:=h
    exact ⟨a,kvs,q1,e a _ q,q2,RepL.mono e r⟩
theorem RepL.mono (e:Same H H'):∀ {l:List D} {vs:List V},RepL K H l vs→RepL K H' l vs
  | [],_,h=>h
  | d :: l,vs,h=>by
    obtain ⟨v,r,q1,q,t⟩:=h
    exact ⟨v,r,q1,Rep.mono e q,RepL.mono e t⟩
end
mutual
theorem Rep.impT (hT:∀ a vs,SqT K H a vs→SqT K H' a vs):∀ {d:D} {v:V},noList d=true→Rep K H d v→Rep K H' d v
  | .non,_,_,h=>h
  | .bl _,_,_,h=>h
  | .int _,_,_,h=>h
  | .str _,_,_,h=>h
  | .tup l,v,n,h=>by
    obtain ⟨a,vs,e,q,r⟩:=h
    exact ⟨a,vs,e,hT a vs q,RepL.impT hT (by simpa [noList] using n) r⟩
  | .lst l,v,n,h=>by simp [noList] at n
  | .scr l,v,n,h=>by simp [noList] at n
  | .dic ks l,v,n,h=>by simp [noList] at n
theorem RepL.impT (hT:∀ a vs,SqT K H a vs→SqT K H' a vs):∀ {l:List D} {vs:List V},noLists l=true→RepL K H l vs→RepL K H' l vs
  | [],_,_,h=>h
  | d :: l,vs,n,h=>by
    obtain ⟨v,r,e,q,t⟩:=h
    simp [noLists] at n
    exact ⟨v,r,e,Rep.impT hT n.1 q,RepL.impT hT n.2 t⟩
end
theorem RepL.length:∀ {l:List D} {vs:List V},RepL K H l vs→l.length=vs.length
  | [],_,h=>by have h':_=[]:=h; subst h'; rfl
  | d :: l,_,h=>by
    obtain ⟨v,r,rfl,_,t⟩:=h
    simp [RepL.length t]
theorem RepL.get:∀ {l:List D} {vs:List V} {i:Nat} {d:D},RepL K H l vs→l[i]?=some d→∃ v,vs[i]?=some v∧Rep K H d v
  | [],_,_,_,_,e=>by simp at e
  | d :: l,_,0,_,h,e=>by
    obtain ⟨v,r,rfl,q,t⟩:=h
    simp at e; subst e
    exact ⟨v,rfl,q⟩
  | d :: l,_,i + 1,_,h,e=>by
    obtain ⟨v,r,rfl,q,t⟩:=h
    obtain ⟨u,e',q'⟩:=RepL.get t (i:=i) (by simpa using e)
    exact ⟨u,by simpa using e',q'⟩
theorem RepL.append:∀ {l l':List D} {vs vs':List V},RepL K H l vs→RepL K H l' vs'→RepL K H (l ++ l') (vs ++ vs')
  | [],_,_,_,h,h'=>by have e:_=[]:=h; subst e; exact h'
  | d :: l,_,_,_,h,h'=>by
    obtain ⟨v,r,rfl,q,t⟩:=h
    exact ⟨v,_,rfl,q,RepL.append t h'⟩
theorem RepL.nil:RepL K H [] []:=rfl
theorem RepL.cons {d:D} {v:V} {l:List D} {vs:List V} (q:Rep K H d v) (t:RepL K H l vs):RepL K H (d :: l) (v :: vs):=⟨v,vs,rfl,q,t⟩
theorem RepL.one {d:D} {v:V} (q:Rep K H d v):RepL K H [d] [v]:=.cons q .nil
theorem RepL.take:∀ {l:List D} {vs:List V} (n:Nat),RepL K H l vs→RepL K H (l.take n) (vs.take n)
  | _,_,0,_=>rfl
  | [],_,n + 1,h=>by have e:_=[]:=h; subst e; rfl
  | d :: l,_,n + 1,h=>by
    obtain ⟨v,r,rfl,q,t⟩:=h
    exact ⟨v,_,rfl,q,RepL.take n t⟩
theorem RepL.drop:∀ {l:List D} {vs:List V} (n:Nat),RepL K H l vs→RepL K H (l.drop n) (vs.drop n)
  | _,_,0,h=>by simpa using h
  | [],_,n + 1,h=>by have e:_=[]:=h; subst e; rfl
  | d :: l,_,n + 1,h=>by
    obtain ⟨v,r,rfl,q,t⟩:=h
    simpa using RepL.drop n t
theorem RepL.set {d:D} {v:V} (q:Rep K H d v):∀ {l:List D} {vs:List V} (n:Nat),RepL K H l vs→RepL K H (l.set n d) (vs.set n v)
  | [],_,_,h=>by have e:_=[]:=h; subst e; rfl
  | _ :: l,_,0,h=>by
    obtain ⟨v',r,rfl,_,t⟩:=h
    exact ⟨v,r,rfl,q,t⟩
  | d' :: l,_,n + 1,h=>by
    obtain ⟨v',r,rfl,q',t⟩:=h
    exact ⟨v',_,rfl,q',RepL.set q n t⟩
theorem RepL.reverse:∀ {l:List D} {vs:List V},RepL K H l vs→RepL K H l.reverse vs.reverse
  | [],_,h=>by have e:_=[]:=h; subst e; rfl
  | d :: l,_,h=>by
    obtain ⟨v,r,rfl,q,t⟩:=h
    rw [List.reverse_cons,List.reverse_cons]
    exact RepL.append (RepL.reverse t) (.one q)
theorem RepL.rep {l:List D} {vs:List V} (h:RepL K H l vs):∀ k:Nat,RepL K H (List.replicate k l).flatten (List.replicate k vs).flatten
  | 0=>rfl
  | k + 1=>by
    rw [List.replicate_succ,List.replicate_succ,List.flatten_cons,List.flatten_cons]
    exact RepL.append h (RepL.rep h k)
theorem RepL.dropLast:∀ {l:List D} {vs:List V},RepL K H l vs→RepL K H l.dropLast vs.dropLast:=fun {l vs} h=>by
  rw [List.dropLast_eq_take,List.dropLast_eq_take,h.length]
  exact h.take _
end
inductive MO where
  | lst (xs:List V) | dK (kvs:List (Key × V))
noncomputable def MO.ho:MO→HO
  | .lst xs=>.lst xs
  | .dK kvs=>.dK kvs
structure Ext (F H F' H':Hp):Prop where
  ff:Same F F'
  hh:Same H H'
  fh:Same F' H'
  new:∀ a (xs:MO),H a=some xs.ho→F a=none→F' a=none
theorem Ext.refl {F H:Hp} (h:Same F H):Ext F H F H:=⟨Same.refl _,Same.refl _,h,fun _ _ _ e=>e⟩
theorem Ext.trans {F H F1 H1 F2 H2:Hp} (a:Ext F H F1 H1) (b:Ext F1 H1 F2 H2):Ext F H F2 H2:=
  ⟨a.ff.trans b.ff,a.hh.trans b.hh,b.fh,fun c xs h f=>b.new c xs (a.hh _ _ h) (a.new c xs h f)⟩
theorem same_upd {H:Hp} {p:Addr} {o:HO} (h:H p=none):Same H (upd H p o):=fun b u q=>by rw [upd_ne (ne_of_none q h)]; exact q
theorem same_upd2 {F H:Hp} {p:Addr} {o:HO} (fh:Same F H):Same (upd F p o) (upd H p o):=fun b u q=>by
  by_cases e:b=p
  · subst e; rw [upd_same] at q ⊢; exact q
  · rw [upd_ne e] at q ⊢; exact fh b u q
theorem ext_alloc {F H:Hp} {p:Addr} {o:HO} (fh:Same F H) (hp:H p=none):Ext F H (upd F p o) (upd H p o):=
  ⟨same_upd (fh.free hp),same_upd hp,same_upd2 fh,fun a xs h f=>by rw [upd_ne (ne_of_none h hp)]; exact f⟩
theorem ext_own {F H:Hp} {p:Addr} {o:HO} (fh:Same F H) (hp:H p=none):Ext F H F (upd H p o):=
  ⟨Same.refl _,same_upd hp,fh.trans (same_upd hp),fun _ _ _ f=>f⟩
noncomputable abbrev M (α:Type):=Option (Except Addr α)
noncomputable def mb {α β:Type} (x:M α) (f:α→M β):M β:=match x with
  | none=>none
  | some (.error c)=>some (.error c)
  | some (.ok a)=>f a
inductive VR where
  | ok (d:D) | bor (l:List D) | bod (ks:List Key) (l:List D)
inductive Slot where
  | val (d:D) | own (l:List D) | owd (ks:List Key) (l:List D)
noncomputable abbrev DS:=List (Option Slot)
noncomputable def toD:VR→D
  | .ok d=>d
  | .bor l=>.lst l
  | .bod ks l=>.dic ks l
structure StOk (K:PySem.W.Frag) (F0 H0 F H:Hp) (σ:St) (S:DS):Prop where
  ext:Ext F0 H0 F H
  len:S.length=σ.length
  val:∀ (i:Nat) (d:D),S[i]?=some (some (Slot.val d))→∃ v,σ[i]?=some (some v)∧Rep K F d v
  own:∀ (i:Nat) (l:List D),S[i]?=some (some (Slot.own l))→∃ a vs,σ[i]?=some (some (V.ref a))∧H0 a=none∧F a=none∧H a=some (.lst vs)∧RepL K F l vs
  sep:∀ (i j:Nat) (l l':List D) (a:Addr),i ≠ j→S[i]?=some (some (Slot.own l))→S[j]?=some (some (Slot.own l'))→σ[i]?=some (some (V.ref a))→σ[j]?=some (some (V.ref a))→False
  owd:∀ (i:Nat) (ks:List Key) (l:List D),S[i]?=some (some (Slot.owd ks l))→∃ a kvs,σ[i]?=some (some (V.ref a))∧H0 a=none∧F a=none∧H a=some (.dK kvs)∧kvs.map (·.1)=ks∧RepL K F l (kvs.map (·.2))
  sepd:∀ (i j:Nat) (ks ks':List Key) (l l':List D) (a:Addr),i ≠ j→S[i]?=some (some (Slot.owd ks l))→S[j]?=some (some (Slot.owd ks' l'))→σ[i]?=some (some (V.ref a))→σ[j]?=some (some (V.ref a))→False
section
variable {K:PySem.W.Frag} {F0 H0 F H F' H':Hp} {σ:St} {S:DS}
theorem StOk.step (s:StOk K F0 H0 F H σ S) (e:Ext F H F' H'):StOk K F0 H0 F' H' σ S where
  ext:=s.ext.trans e
  len:=s.len
  val:=fun i d h=>let ⟨v,a,b⟩:=s.val i d h; ⟨v,a,b.mono e.ff⟩
  own:=fun i l h=>let ⟨a,vs,h1,h2,h3,h4,h5⟩:=s.own i l h; ⟨a,vs,h1,h2,e.new a (.lst vs) h4 h3,e.hh _ _ h4,h5.mono e.ff⟩
  sep:=s.sep
  owd:=fun i ks l h=>let ⟨a,kvs,h1,h2,h3,h4,h5,h6⟩:=s.owd i ks l h; ⟨a,kvs,h1,h2,e.new a (.dK kvs) h4 h3,e.hh _ _ h4,h5,h6.mono e.ff⟩
  sepd:=s.sepd
theorem get_set_some {α:Type} {l:List (Option α)} {i j:Nat} {x y:α} (h:(l.set i (some x))[j]?=some (some y)):(i=j∧i < l.length∧x=y)∨(i ≠ j∧l[j]?=some (some y)):=by
  by_cases e:i=j
  · subst e
    rw [List.getElem?_set_self'] at h
    cases q:l[i]? with
    | none=>rw [q] at h; simp at h
    | some z=>
      rw [q] at h
      simp at h
      have:i < l.length:=by
        rcases Nat.lt_or_ge i l.length with h1 | h1
        · exact h1
        · rw [List.getElem?_eq_none h1] at q; cases q
      exact .inl ⟨rfl,this,h⟩
  · rw [List.getElem?_set_ne e] at h
    exact .inr ⟨e,h⟩
theorem set_self {α:Type} {l:List α} {i:Nat} {x:α} (h:i < l.length):(l.set i x)[i]?=some x:=by simp [h]
theorem StOk.setVal (s:StOk K F0 H0 F H σ S) {d:D} {v:V} (r:Rep K F d v) (i:Nat):StOk K F0 H0 F H (σ.set i (some v)) (S.set i (some (.val d))) where
  ext:=s.ext
  len:=by rw [List.length_set,List.length_set]; exact s.len
  val:=fun j d' h=>by
    rcases get_set_some h with ⟨rfl,hl,e⟩ | ⟨ne,h⟩
    · injection e with e; subst e
      exact ⟨v,set_self (by rw [← s.len]; exact hl),r⟩
    · obtain ⟨v',a,b⟩:=s.val j d' h
      exact ⟨v',by rw [List.getElem?_set_ne ne]; exact a,b⟩
  own:=fun j l h=>by
    rcases get_set_some h with ⟨rfl,hl,e⟩ | ⟨ne,h⟩
    · cases e
    · obtain ⟨a,vs,h1,h2⟩:=s.own j l h
      exact ⟨a,vs,by rw [List.getElem?_set_ne ne]; exact h1,h2⟩
  sep:=fun j k l l' a ne h1 h2 h3 h4=>by
    rcases get_set_some h1 with ⟨rfl,_,e⟩ | ⟨n1,h1⟩
    · cases e
    · rcases get_set_some h2 with ⟨rfl,_,e⟩ | ⟨n2,h2⟩
      · cases e
      · rw [List.getElem?_set_ne n1] at h3
        rw [List.getElem?_set_ne n2] at h4
        exact s.sep j k l l' a ne h1 h2 h3 h4
  owd:=fun j ks l h=>by
    rcases get_set_some h with ⟨rfl,hl,e⟩ | ⟨ne,h⟩
    · cases e
    · obtain ⟨a,vs,h1,h2⟩:=s.owd j ks l h
      exact ⟨a,vs,by rw [List.getElem?_set_ne ne]; exact h1,h2⟩
  sepd:=fun j k ks ks' l l' a ne h1 h2 h3 h4=>by
    rcases get_set_some h1 with ⟨rfl,_,e⟩ | ⟨n1,h1⟩
    · cases e
    · rcases get_set_some h2 with ⟨rfl,_,e⟩ | ⟨n2,h2⟩
      · cases e
      · rw [List.getElem?_set_ne n1] at h3
        rw [List.getElem?_set_ne n2] at h4
        exact s.sepd j k ks ks' l l' a ne h1 h2 h3 h4
theorem StOk.setOwn (s:StOk K F0 H0 F H σ S) (e:Ext F H F' H') {a:Addr} {vs:List V} {l:List D} (hn:H a=none) (hf:F' a=none) (hh:H' a=some (.lst vs)) (r:RepL K F' l vs) (i:Nat) :
    StOk K F0 H0 F' H' (σ.set i (some (.ref a))) (S.set i (some (.own l))) where
  ext:=s.ext.trans e
  len:=by rw [List.length_set,List.length_set]; exact s.len
  val:=fun j d' h=>by
    rcases get_set_some h with ⟨rfl,hl,q⟩ | ⟨ne,h⟩
    · cases q
    · obtain ⟨v',a',b⟩:=s.val j d' h
      exact ⟨v',by rw [List.getElem?_set_ne ne]; exact a',b.mono e.ff⟩
  own:=fun j l' h=>by
    rcases get_set_some h with ⟨rfl,hl,q⟩ | ⟨ne,h⟩
    · injection q with q; subst q
      exact ⟨a,vs,set_self (by rw [← s.len]; exact hl),s.ext.hh.free hn,hf,hh,r⟩
    · obtain ⟨b,ws,h1,h2,h3,h4,h5⟩:=(s.step e).own j l' h
      exact ⟨b,ws,by rw [List.getElem?_set_ne ne]; exact h1,h2,h3,h4,h5⟩
  sep:=fun j k l1 l2 b ne h1 h2 h3 h4=>by
    have old:∀ (m:Nat) (l:List D),S[m]?=some (some (Slot.own l))→σ[m]?=some (some (V.ref a))→False:=fun m l q z=>by
      obtain ⟨c,ws,z1,_,_,z4,_⟩:=s.own m l q
      rw [z] at z1
      have z2:V.ref a=V.ref c:=by simpa using z1
      injection z2 with z2
      subst z2
      rw [hn] at z4; cases z4
    rcases get_set_some h1 with ⟨rfl,hl,_⟩ | ⟨n1,h1⟩
    · rw [set_self (by rw [← s.len]; exact hl)] at h3
      rcases get_set_some h2 with ⟨rfl,_,_⟩ | ⟨n2,h2⟩
      · exact ne rfl
      · rw [List.getElem?_set_ne n2] at h4
        have z:V.ref a=V.ref b:=by simpa using h3
        injection z with z; subst z
        exact old k l2 h2 h4
    · rw [List.getElem?_set_ne n1] at h3
      rcases get_set_some h2 with ⟨rfl,hl,_⟩ | ⟨n2,h2⟩
      · rw [set_self (by rw [← s.len]; exact hl)] at h4
        have z:V.ref a=V.ref b:=by simpa using h4
        injection z with z; subst z
        exact old j l1 h1 h3
      · rw [List.getElem?_set_ne n2] at h4
        exact s.sep j k l1 l2 b ne h1 h2 h3 h4
  owd:=fun j ks l' h=>by
    rcases get_set_some h with ⟨rfl,hl,q⟩ | ⟨ne,h⟩
    · cases q
    · obtain ⟨b,ws,h1,h2⟩:=(s.step e).owd j ks l' h
      exact ⟨b,ws,by rw [List.getElem?_set_ne ne]; exact h1,h2⟩
  sepd:=fun j k ks ks' l1 l2 b ne h1 h2 h3 h4=>by
    rcases get_set_some h1 with ⟨rfl,_,q⟩ | ⟨n1,h1⟩
    · cases q
    · rcases get_set_some h2 with ⟨rfl,_,q⟩ | ⟨n2,h2⟩
      · cases q
      · rw [List.getElem?_set_ne n1] at h3
        rw [List.getElem?_set_ne n2] at h4
        exact s.sepd j k ks ks' l1 l2 b ne h1 h2 h3 h4
theorem StOk.setOwd (s:StOk K F0 H0 F H σ S) (e:Ext F H F' H') {a:Addr} {kvs:List (Key × V)} {ks:List Key} {l:List D} (hn:H a=none) (hf:F' a=none) (hh:H' a=some (.dK kvs)) (hk:kvs.map (·.1)=ks) (r:RepL K F' l (kvs.map (·.2))) (i:Nat) :
    StOk K F0 H0 F' H' (σ.set i (some (.ref a))) (S.set i (some (.owd ks l))) where
  ext:=s.ext.trans e
  len:=by rw [List.length_set,List.length_set]; exact s.len
  val:=fun j d' h=>by
    rcases get_set_some h with ⟨rfl,hl,q⟩ | ⟨ne,h⟩
    · cases q
    · obtain ⟨v',a',b⟩:=s.val j d' h
      exact ⟨v',by rw [List.getElem?_set_ne ne]; exact a',b.mono e.ff⟩
  own:=fun j l' h=>by
    rcases get_set_some h with ⟨rfl,hl,q⟩ | ⟨ne,h⟩
    · cases q
    · obtain ⟨b,ws,h1,h2⟩:=(s.step e).own j l' h
      exact ⟨b,ws,by rw [List.getElem?_set_ne ne]; exact h1,h2⟩
  sep:=fun j k l1 l2 b ne h1 h2 h3 h4=>by
    rcases get_set_some h1 with ⟨rfl,_,q⟩ | ⟨n1,h1⟩
    · cases q
    · rcases get_set_some h2 with ⟨rfl,_,q⟩ | ⟨n2,h2⟩
      · cases q
      · rw [List.getElem?_set_ne n1] at h3
        rw [List.getElem?_set_ne n2] at h4
        exact s.sep j k l1 l2 b ne h1 h2 h3 h4
  owd:=fun j ks' l' h=>by
    rcases get_set_some h with ⟨rfl,hl,q⟩ | ⟨ne,h⟩
    · injection q with q1 q2; subst q1 q2
      exact ⟨a,kvs,set_self (by rw [← s.len]; exact hl),s.ext.hh.free hn,hf,hh,hk,r⟩
    · obtain ⟨b,ws,h1,h2⟩:=(s.step e).owd j ks' l' h
      exact ⟨b,ws,by rw [List.getElem?_set_ne ne]; exact h1,h2⟩
  sepd:=fun j k ks1 ks2 l1 l2 b ne h1 h2 h3 h4=>by
    have old:∀ (m:Nat) (ks:List Key) (l:List D),S[m]?=some (some (Slot.owd ks l))→σ[m]?=some (some (V.ref a))→False:=fun m ks l q z=>by
      obtain ⟨c,ws,z1,_,_,z4,_⟩:=s.owd m ks l q
      rw [z] at z1
      have z2:V.ref a=V.ref c:=by simpa using z1
      injection z2 with z2
      subst z2
      rw [hn] at z4; cases z4
    rcases get_set_some h1 with ⟨rfl,hl,_⟩ | ⟨n1,h1⟩
    · rw [set_self (by rw [← s.len]; exact hl)] at h3
      rcases get_set_some h2 with ⟨rfl,_,_⟩ | ⟨n2,h2⟩
      · exact ne rfl
      · rw [List.getElem?_set_ne n2] at h4
        have z:V.ref a=V.ref b:=by simpa using h3
        injection z with z; subst z
        exact old k ks2 l2 h2 h4
    · rw [List.getElem?_set_ne n1] at h3
      rcases get_set_some h2 with ⟨rfl,hl,_⟩ | ⟨n2,h2⟩
      · rw [set_self (by rw [← s.len]; exact hl)] at h4
        have z:V.ref a=V.ref b:=by simpa using h4
        injection z with z; subst z
        exact old j ks1 l1 h1 h3
      · rw [List.getElem?_set_ne n2] at h4
        exact s.sepd j k ks1 ks2 l1 l2 b ne h1 h2 h3 h4
theorem StOk.mutd (s:StOk K F0 H0 F H σ S) {i:Nat} {ks ks':List Key} {l l':List D} {a:Addr} {kvs':List (Key × V)} (h:S[i]?=some (some (Slot.owd ks l))) (ha:σ[i]?=some (some (V.ref a))) (hk:kvs'.map (·.1)=ks') (r:RepL K F l' (kvs'.map (·.2))) :
    StOk K F0 H0 F (upd H a (.dK kvs')) σ (S.set i (some (.owd ks' l'))):=by
  obtain ⟨a',vs,h1,h2,h3,h4,h5,h6⟩:=s.owd i ks l h
  have:a'=a:=by rw [ha] at h1; simpa using h1.symm
  subst this
  refine ⟨⟨s.ext.ff,fun b u q=>?_,fun b u q=>?_,s.ext.new⟩,by rw [List.length_set]; exact s.len,fun j d q=>?_,fun j m q=>?_,fun j k l1 l2 b ne q1 q2 q3 q4=>?_,fun j km m q=>?_,fun j k k1 k2 l1 l2 b ne q1 q2 q3 q4=>?_⟩
  · rw [upd_ne (ne_of_none q h2)]; exact s.ext.hh b u q
  · rw [upd_ne (ne_of_none q h3)]; exact s.ext.fh b u q
  · rcases get_set_some q with ⟨rfl,_,e⟩ | ⟨ne,q⟩
    · cases e
    · exact s.val j d q
  · rcases get_set_some q with ⟨rfl,_,e⟩ | ⟨ne,q⟩
    · cases e
    · obtain ⟨b,ws,q1,q2,q3,q4,q5⟩:=s.own j m q
      have nb:b ≠ a':=by rintro rfl; rw [h4] at q4; cases q4
      exact ⟨b,ws,q1,q2,q3,by rw [upd_ne nb]; exact q4,q5⟩
  · rcases get_set_some q1 with ⟨rfl,_,e⟩ | ⟨_,q1⟩
    · cases e
    · rcases get_set_some q2 with ⟨rfl,_,e⟩ | ⟨_,q2⟩
      · cases e
      · exact s.sep j k l1 l2 b ne q1 q2 q3 q4
  · rcases get_set_some q with ⟨rfl,_,e⟩ | ⟨ne,q⟩
    · injection e with e1 e2; subst e1 e2
      exact ⟨a',kvs',h1,h2,h3,upd_same,hk,r⟩
    · obtain ⟨b,ws,q1,q2,q3,q4,q5⟩:=s.owd j km m q
      have nb:b ≠ a':=by rintro rfl; exact s.sepd i j ks km l m b ne h q h1 q1
      exact ⟨b,ws,q1,q2,q3,by rw [upd_ne nb]; exact q4,q5⟩
  · have back:∀ (m:Nat) (km:List Key) (l1:List D),(S.set i (some (Slot.owd ks' l')))[m]?=some (some (Slot.owd km l1))→∃ k2 l2,S[m]?=some (some (Slot.owd k2 l2)):=fun m km l1 z=>by
      rcases get_set_some z with ⟨rfl,_,_⟩ | ⟨_,z⟩
      · exact ⟨ks,l,h⟩
      · exact ⟨km,l1,z⟩
    obtain ⟨k3,l3,q1⟩:=back j k1 l1 q1
    obtain ⟨k4,l4,q2⟩:=back k k2 l2 q2
    exact s.sepd j k k3 k4 l3 l4 b ne q1 q2 q3 q4
theorem StOk.mut (s:StOk K F0 H0 F H σ S) {i:Nat} {l l':List D} {a:Addr} {vs':List V} (h:S[i]?=some (some (Slot.own l))) (ha:σ[i]?=some (some (V.ref a))) (r:RepL K F l' vs') :
    StOk K F0 H0 F (upd H a (.lst vs')) σ (S.set i (some (.own l'))):=by
  obtain ⟨a',vs,h1,h2,h3,h4,h5⟩:=s.own i l h
  have:a'=a:=by rw [ha] at h1; simpa using h1.symm
  subst this
  refine ⟨⟨s.ext.ff,fun b u q=>?_,fun b u q=>?_,s.ext.new⟩,by rw [List.length_set]; exact s.len,fun j d q=>?_,fun j m q=>?_,fun j k l1 l2 b ne q1 q2 q3 q4=>?_,fun j km m q=>?_,fun j k k1 k2 l1 l2 b ne q1 q2 q3 q4=>?_⟩
  · rw [upd_ne (ne_of_none q h2)]; exact s.ext.hh b u q
  · rw [upd_ne (ne_of_none q h3)]; exact s.ext.fh b u q
  · rcases get_set_some q with ⟨rfl,_,e⟩ | ⟨ne,q⟩
    · cases e
    · exact s.val j d q
  · rcases get_set_some q with ⟨rfl,_,e⟩ | ⟨ne,q⟩
    · injection e with e; subst e
      exact ⟨a',vs',h1,h2,h3,upd_same,r⟩
    · obtain ⟨b,ws,q1,q2,q3,q4,q5⟩:=s.own j m q
      have nb:b ≠ a':=by rintro rfl; exact s.sep i j l m b ne h q h1 q1
      exact ⟨b,ws,q1,q2,q3,by rw [upd_ne nb]; exact q4,q5⟩
  · have back:∀ (m:Nat) (l1:List D),(S.set i (some (Slot.own l')))[m]?=some (some (Slot.own l1))→∃ l2,S[m]?=some (some (Slot.own l2)):=fun m l1 z=>by
      rcases get_set_some z with ⟨rfl,_,_⟩ | ⟨_,z⟩
      · exact ⟨l,h⟩
      · exact ⟨l1,z⟩
    obtain ⟨l3,q1⟩:=back j l1 q1
    obtain ⟨l4,q2⟩:=back k l2 q2
    exact s.sep j k l3 l4 b ne q1 q2 q3 q4
  · rcases get_set_some q with ⟨rfl,_,e⟩ | ⟨ne,q⟩
    · cases e
    · obtain ⟨b,ws,q1,q2,q3,q4,q5⟩:=s.owd j km m q
      have nb:b ≠ a':=by rintro rfl; rw [h4] at q4; cases q4
      exact ⟨b,ws,q1,q2,q3,by rw [upd_ne nb]; exact q4,q5⟩
  · rcases get_set_some q1 with ⟨rfl,_,e⟩ | ⟨_,q1⟩
    · cases e
    · rcases get_set_some q2 with ⟨rfl,_,e⟩ | ⟨_,q2⟩
      · cases e
      · exact s.sepd j k k1 k2 l1 l2 b ne q1 q2 q3 q4
end
section
variable (K:PySem.W.Frag) (F0 H0:Hp) (xq:Addr→Hp→Prop)
noncomputable def RR (F H:Hp):VR→V→Prop
  | .ok d,v=>Rep K F d v
  | .bor l,v=>∃ a vs,v=.ref a∧H0 a=none∧F a=none∧H a=some (.lst vs)∧RepL K F l vs
  | .bod ks l,v=>∃ a kvs,v=.ref a∧H0 a=none∧F a=none∧H a=some (.dK kvs)∧kvs.map (·.1)=ks∧RepL K F l (kvs.map (·.2))
noncomputable def outE (F H:Hp) (Q:VK):M VR→Prop
  | none=>False
  | some (.error c)=>∀ H',Same H H'→xq c H'
  | some (.ok r)=>∀ v F' H',Ext F H F' H'→RR K H0 F' H' r v→Q v H'
noncomputable def tE (f:DS→M VR):TE:=fun σ H Q=>∃ F S,StOk K F0 H0 F H σ S∧outE K H0 xq F H Q (f S)
noncomputable def outF (F H:Hp) (Q:VK):M (List D)→Prop
  | none=>False
  | some (.error c)=>∀ H',Same H H'→xq c H'
  | some (.ok l)=>∀ a vs F' H',Ext F H F' H'→H a=none→F' a=none→H' a=some (.lst vs)→RepL K F' l vs→Q (.ref a) H'
noncomputable def tF (f:DS→M (List D)):TE:=fun σ H Q=>∃ F S,StOk K F0 H0 F H σ S∧outF K xq F H Q (f S)
noncomputable def outT (F H:Hp) (Q:Bool→Hp→Prop):M Bool→Prop
  | none=>False
  | some (.error c)=>∀ H',Same H H'→xq c H'
  | some (.ok b)=>∀ F' H',Ext F H F' H'→Q b H'
noncomputable def tT (f:DS→M Bool):TT:=fun σ H Q=>∃ F S,StOk K F0 H0 F H σ S∧outT xq F H Q (f S)
noncomputable def RRs (F H:Hp):List VR→List V→Prop
  | [],vs=>vs=[]
  | r :: l,vs=>∃ v t,vs=v :: t∧RR K H0 F H r v∧RRs F H l t
noncomputable def outA (F H:Hp) (Q:List V→Hp→Prop):M (List VR)→Prop
  | none=>False
  | some (.error c)=>∀ H',Same H H'→xq c H'
  | some (.ok rs)=>∀ vs F' H',Ext F H F' H'→RRs K H0 F' H' rs vs→Q vs H'
noncomputable def tA (f:DS→M (List VR)):TA:=fun σ H Q=>∃ F S,StOk K F0 H0 F H σ S∧outA K H0 xq F H Q (f S)
inductive Fl where
  | next (S:DS) | ret (d:D) | brk (S:DS) | cont (S:DS) | ex (c:Addr)
noncomputable def outS (Dn:Ends):Option Fl→Prop
  | none=>False
  | some (.next S)=>∀ σ F H,StOk K F0 H0 F H σ S→Dn.nx σ H
  | some (.brk S)=>∀ σ F H,StOk K F0 H0 F H σ S→Dn.bk σ H
  | some (.cont S)=>∀ σ F H,StOk K F0 H0 F H σ S→Dn.ct σ H
  | some (.ret d)=>∀ v F H,Ext F0 H0 F H→Rep K F d v→Dn.rt v H
  | some (.ex c)=>∀ H,Same H0 H→xq c H
noncomputable def tS (f:DS→Option Fl):TS:=fun Dn σ H=>∃ F S,StOk K F0 H0 F H σ S∧outS K F0 H0 xq Dn (f S)
end
structure DE (X:Cx) (F0 H0:Hp) (xq:Addr→Hp→Prop) (e:Expr) (f:DS→M VR):Prop where
  mk ::
  h:PE X e (tE X.K F0 H0 xq f)
structure DF (X:Cx) (F0 H0:Hp) (xq:Addr→Hp→Prop) (e:Expr) (f:DS→M (List D)):Prop where
  mk ::
  h:PE X e (tF X.K F0 H0 xq f)
structure DT (X:Cx) (F0 H0:Hp) (xq:Addr→Hp→Prop) (e:Expr) (f:DS→M Bool):Prop where
  mk ::
  h:PT X e (tT X.K F0 H0 xq f)
structure DW (X:Cx) (F0 H0:Hp) (xq:Addr→Hp→Prop) (e:Expr) (f:DS→M Bool):Prop where
  mk ::
  h:PW X e (tT X.K F0 H0 xq f)
structure DA (X:Cx) (F0 H0:Hp) (xq:Addr→Hp→Prop) (es:List Expr) (f:DS→M (List VR)):Prop where
  mk ::
  h:PA X es (tA X.K F0 H0 xq f)
structure DS1 (X:Cx) (F0 H0:Hp) (xq:Addr→Hp→Prop) (st:Stmt) (f:DS→Option Fl):Prop where
  mk ::
  h:PS X st (tS X.K F0 H0 xq f)
structure DSs (X:Cx) (F0 H0:Hp) (xq:Addr→Hp→Prop) (st:List Stmt) (f:DS→Option Fl):Prop where
  mk ::
  h:PSs X st (tS X.K F0 H0 xq f)
section
variable {K:PySem.W.Frag} {F0 H0 F H F' H':Hp} {xq:Addr→Hp→Prop} {Q:VK}
theorem RR.step {r:VR} {v:V} (e:Ext F H F' H') (h:RR K H0 F H r v):RR K H0 F' H' r v:=by
  cases r with
  | ok d=>exact Rep.mono e.ff h
  | bor l=>
    obtain ⟨a,vs,h1,h2,h3,h4,h5⟩:=h
    exact ⟨a,vs,h1,h2,e.new a (.lst vs) h4 h3,e.hh _ _ h4,h5.mono e.ff⟩
  | bod ks l=>
    obtain ⟨a,vs,h1,h2,h3,h4,h5,h6⟩:=h
    exact ⟨a,vs,h1,h2,e.new a (.dK vs) h4 h3,e.hh _ _ h4,h5,h6.mono e.ff⟩
theorem outE.step {x:M VR} (e:Ext F H F' H') (h:outE K H0 xq F H Q x):outE K H0 xq F' H' Q x:=by
  match x,h with
  | some (.error c),h=>exact fun H2 s=>h H2 (e.hh.trans s)
  | some (.ok r),h=>exact fun v F2 H2 e2 q=>h v F2 H2 (e.trans e2) q
theorem outF.step {x:M (List D)} (e:Ext F H F' H') (h:outF K xq F H Q x):outF K xq F' H' Q x:=by
  match x,h with
  | some (.error c),h=>exact fun H2 s=>h H2 (e.hh.trans s)
  | some (.ok l),h=>exact fun a vs F2 H2 e2 q1 q2 q3 q4=>h a vs F2 H2 (e.trans e2) (e.hh.free q1) q2 q3 q4
theorem outT.step {x:M Bool} {Q:Bool→Hp→Prop} (e:Ext F H F' H') (h:outT xq F H Q x):outT xq F' H' Q x:=by
  match x,h with
  | some (.error c),h=>exact fun H2 s=>h H2 (e.hh.trans s)
  | some (.ok b),h=>exact fun F2 H2 e2=>h F2 H2 (e.trans e2)
theorem outA.step {x:M (List VR)} {Q:List V→Hp→Prop} (e:Ext F H F' H') (h:outA K H0 xq F H Q x):outA K H0 xq F' H' Q x:=by
  match x,h with
  | some (.error c),h=>exact fun H2 s=>h H2 (e.hh.trans s)
  | some (.ok r),h=>exact fun v F2 H2 e2 q=>h v F2 H2 (e.trans e2) q
theorem outE.bind {x:M VR} {Q1:VK} {β:Type} {k:VR→M β} {G:Hp→Hp→M β→Prop} (gs:∀ {F H F' H':Hp} {z:M β},Ext F H F' H'→G F H z→G F' H' z) (gn:∀ F H,G F H none→False) (ge:∀ F H c,G F H (some (.error c))→∀ H',Same H H'→xq c H')
    (h:G F H (mb x k)) (hq:∀ r v F1 H1,Ext F H F1 H1→RR K H0 F1 H1 r v→G F1 H1 (k r)→Q1 v H1):outE K H0 xq F H Q1 x:=by
  match x,h with
  | none,h=>exact gn _ _ h
  | some (.error c),h=>exact ge _ _ c h
  | some (.ok r),h=>exact fun v F1 H1 e q=>hq r v F1 H1 e q (gs e h)
theorem outE.mb {x:M VR} {k:VR→M VR} {Q1:VK} (h:outE K H0 xq F H Q (mb x k)) (hq:∀ r v F1 H1,Ext F H F1 H1→RR K H0 F1 H1 r v→outE K H0 xq F1 H1 Q (k r)→Q1 v H1):outE K H0 xq F H Q1 x:=
  outE.bind (G:=fun F H z=>outE K H0 xq F H Q z) (fun e h=>h.step e) (fun _ _ h=>h) (fun _ _ _ h=>h) h hq
theorem outE.mbT {x:M VR} {k:VR→M Bool} {Q1:VK} {Q:Bool→Hp→Prop} (h:outT xq F H Q (PF.mb x k)) (hq:∀ r v F1 H1,Ext F H F1 H1→RR K H0 F1 H1 r v→outT xq F1 H1 Q (k r)→Q1 v H1):outE K H0 xq F H Q1 x:=
  outE.bind (G:=fun F H z=>outT xq F H Q z) (fun e h=>h.step e) (fun _ _ h=>h) (fun _ _ _ h=>h) h hq
theorem outE.mbA {x:M VR} {k:VR→M (List VR)} {Q1:VK} {Q:List V→Hp→Prop} (h:outA K H0 xq F H Q (PF.mb x k)) (hq:∀ r v F1 H1,Ext F H F1 H1→RR K H0 F1 H1 r v→outA K H0 xq F1 H1 Q (k r)→Q1 v H1):outE K H0 xq F H Q1 x:=
  outE.bind (G:=fun F H z=>outA K H0 xq F H Q z) (fun e h=>h.step e) (fun _ _ h=>h) (fun _ _ _ h=>h) h hq
theorem outE.mbF {x:M VR} {k:VR→M (List D)} {Q1:VK} (h:outF K xq F H Q (PF.mb x k)) (hq:∀ r v F1 H1,Ext F H F1 H1→RR K H0 F1 H1 r v→outF K xq F1 H1 Q (k r)→Q1 v H1):outE K H0 xq F H Q1 x:=
  outE.bind (G:=fun F H z=>outF K xq F H Q z) (fun e h=>h.step e) (fun _ _ h=>h) (fun _ _ _ h=>h) h hq
theorem outA.bind {x:M (List VR)} {Q1:List V→Hp→Prop} {β:Type} {k:List VR→M β} {G:Hp→Hp→M β→Prop} (gs:∀ {F H F' H':Hp} {z:M β},Ext F H F' H'→G F H z→G F' H' z) (gn:∀ F H,G F H none→False) (ge:∀ F H c,G F H (some (.error c))→∀ H',Same H H'→xq c H')
    (h:G F H (mb x k)) (hq:∀ r v F1 H1,Ext F H F1 H1→RRs K H0 F1 H1 r v→G F1 H1 (k r)→Q1 v H1):outA K H0 xq F H Q1 x:=by
  match x,h with
  | none,h=>exact gn _ _ h
  | some (.error c),h=>exact ge _ _ c h
  | some (.ok r),h=>exact fun v F1 H1 e q=>hq r v F1 H1 e q (gs e h)
theorem outT.bind {x:M Bool} {Q1:Bool→Hp→Prop} {β:Type} {k:Bool→M β} {G:Hp→Hp→M β→Prop} (gs:∀ {F H F' H':Hp} {z:M β},Ext F H F' H'→G F H z→G F' H' z) (gn:∀ F H,G F H none→False) (ge:∀ F H c,G F H (some (.error c))→∀ H',Same H H'→xq c H')
    (h:G F H (mb x k)) (hq:∀ b F1 H1,Ext F H F1 H1→G F1 H1 (k b)→Q1 b H1):outT xq F H Q1 x:=by
  match x,h with
  | none,h=>exact gn _ _ h
  | some (.error c),h=>exact ge _ _ c h
  | some (.ok b),h=>exact fun F1 H1 e=>hq b F1 H1 e (gs e h)
noncomputable def RV (K:PySem.W.Frag) (F H:Hp):D→V→Prop
  | .lst l,v=>∃ a vs,v=.ref a∧H a=some (.lst vs)∧RepL K F l vs
  | .dic ks l,v=>∃ a kvs,v=.ref a∧H a=some (.dK kvs)∧kvs.map (·.1)=ks∧RepL K F l (kvs.map (·.2))
  | d,v=>Rep K F d v
theorem RR.rv {r:VR} {v:V} (fh:Same F H) (h:RR K H0 F H r v):RV K F H (toD r) v:=by
  cases r with
  | bor l=>
    obtain ⟨a,vs,h1,h2,h3,h4,h5⟩:=h
    exact ⟨a,vs,h1,h4,h5⟩
  | bod ks l=>
    obtain ⟨a,vs,h1,h2,h3,h4,h5,h6⟩:=h
    exact ⟨a,vs,h1,h4,h5,h6⟩
  | ok d=>
    cases d with
    | lst l=>
      obtain ⟨a,vs,h1,h2,h3⟩:=h
      exact ⟨a,vs,h1,fh _ _ h2,h3⟩
    | dic ks l=>
      obtain ⟨a,vs,h1,h2,h3,h4⟩:=h
      exact ⟨a,vs,h1,fh _ _ h2,h3,h4⟩
    | _=>exact h
theorem RR.rep {r:VR} {v:V} (fh:Same F H) (h:RR K H0 F H r v):Rep K H (toD r) v:=by
  cases r with
  | bor l=>
    obtain ⟨a,vs,h1,h2,h3,h4,h5⟩:=h
    exact ⟨a,vs,h1,h4,h5.mono fh⟩
  | bod ks l=>
    obtain ⟨a,vs,h1,h2,h3,h4,h5,h6⟩:=h
    exact ⟨a,vs,h1,h4,h5,h6.mono fh⟩
  | ok d=>exact Rep.mono fh h
end
end PF
set_option Elab.async false
set_option linter.all false
set_option maxRecDepth 100000
set_option maxHeartbeats 4000000
namespace PF
open PySem PySem.Spec L2
open PyProof.Rows hiding St
section
variable {X:Cx} {F0 H0:Hp} {xq:Addr→Hp→Prop} {pos:Pos}
noncomputable def dVar (i:Nat):DS→M VR:=fun S=>match S[i]? with
  | some (some (.val d))=>some (.ok (.ok d))
  | some (some (.own l))=>some (.ok (.bor l))
  | some (some (.owd ks l))=>some (.ok (.bod ks l))
  | _=>none
theorem tVar_of {K:PySem.W.Frag} {i:Nat} {σ:St} {H:Hp} {Q:VK} (h:tE K F0 H0 xq (dVar i) σ H Q):tVar i σ H Q:=by
  obtain ⟨F,S,st,o⟩:=h
  unfold dVar at o
  cases q:S[i]? with
  | none=>rw [q] at o; exact False.elim o
  | some z=>
    cases z with
    | none=>rw [q] at o; exact False.elim o
    | some sl=>
      cases sl with
      | val d=>
        rw [q] at o
        obtain ⟨v,e,r⟩:=st.val i d q
        exact ⟨v,e,o v F H (Ext.refl st.ext.fh) r⟩
      | own l=>
        rw [q] at o
        obtain ⟨a,vs,h1,h2,h3,h4,h5⟩:=st.own i l q
        exact ⟨_,h1,o _ F H (Ext.refl st.ext.fh) ⟨a,vs,rfl,h2,h3,h4,h5⟩⟩
      | owd ks l=>
        rw [q] at o
        obtain ⟨a,vs,h1,h2,h3,h4,h5,h6⟩:=st.owd i ks l q
        exact ⟨_,h1,o _ F H (Ext.refl st.ext.fh) ⟨a,vs,rfl,h2,h3,h4,h5,h6⟩⟩
theorem de_var (i:Nat) {x:Str} (hN:X.N[i]?=some x:=by rfl) (hv:Vis X.env.scope x:=by first | exact Or.inl rfl | exact Or.inr (Or.inl rfl) | exact Or.inr (Or.inr rfl)) (hd:(x == ("__debug__" : Str))=false:=by decide)
    (hcd:(x == ("__classdict__" : Str))=false:=by decide):DE X F0 H0 xq (.Name x pos) (dVar i):=
  .mk fun pins s σ H Q I h=>pe_var hN hv hd hcd pins s σ H Q I (tVar_of h)
noncomputable def dC (d:D):DS→M VR:=fun _=>some (.ok (.ok d))
theorem de_const {e:Expr} {v:V} {d:D} (h:PE X e (tC v)) (r:∀ F,Rep X.K F d v):DE X F0 H0 xq e (dC d):=
  .mk fun pins s σ H Q I ⟨F,S,st,o⟩=>h pins s σ H Q I (o v F H (Ext.refl st.ext.fh) (r F))
theorem de_int {i j}:DE X F0 H0 xq (.Constant (.int i) j pos) (dC (.int i)):=de_const pe_int fun _=>rfl
theorem de_bl {b j}:DE X F0 H0 xq (.Constant (.bool b) j pos) (dC (.bl b)):=de_const pe_bl fun _=>rfl
theorem de_non {j}:DE X F0 H0 xq (.Constant .none j pos) (dC .non):=de_const pe_non fun _=>rfl
noncomputable def dOf (f:DS→M (List D)):DS→M VR:=fun S=>mb (f S) fun l=>some (.ok (.ok (.lst l)))
theorem tF_of {K:PySem.W.Frag} {f:DS→M (List D)} {σ:St} {H:Hp} {Q:VK} (h:tE K F0 H0 xq (dOf f) σ H Q):tF K F0 H0 xq f σ H Q:=by
  obtain ⟨F,S,st,o⟩:=h
  refine ⟨F,S,st,?_⟩
  unfold dOf at o
  cases q:f S with
  | none=>rw [q] at o; exact False.elim o
  | some z=>
    cases z with
    | error c=>rw [q] at o; exact o
    | ok l=>
      rw [q] at o
      intro a vs F' H' e hn hf hh r
      refine o (.ref a) (upd F' a (.lst vs)) H' ⟨e.ff.trans (same_upd hf),e.hh,fun b u z=>?_,fun b xs hb fb=>?_⟩ ⟨a,vs,rfl,upd_same,r.mono (same_upd hf)⟩
      · by_cases eb:b=a
        · subst eb; rw [upd_same] at z; rw [hh]; exact z
        · rw [upd_ne eb] at z; exact e.fh b u z
      · rw [upd_ne (ne_of_none hb hn)]; exact e.new b xs hb fb
theorem de_of {e:Expr} {f:DS→M (List D)} (h:DF X F0 H0 xq e f):DE X F0 H0 xq e (dOf f):=.mk fun pins s σ H Q I q=>h.h pins s σ H Q I (tF_of q)
end
noncomputable def vr (d:Option D):M VR:=match d with
  | some d=>some (.ok (.ok d))
  | none=>none
noncomputable def dBin (g:D→D→Option D) (fa fb:DS→M VR):DS→M VR:=fun S=>mb (fa S) fun r1=>mb (fb S) fun r2=>vr (g (toD r1) (toD r2))
noncomputable def OpD (K:PySem.W.Frag) (r:R2) (g:D→D→Option D):Prop:=∀ (F H:Hp) (d1 d2 d:D) (v1 v2:V) (Q:VK),Same F H→RV K F H d1 v1→RV K F H d2 v2→g d1 d2=some d→(∀ v F' H',Ext F H F' H'→Rep K F' d v→Q v H')→r v1 v2 H Q
section
variable {X:Cx} {F0 H0:Hp} {xq:Addr→Hp→Prop} {pos:Pos} {a b c:Expr} {fa fb fc:DS→M VR}
theorem tOp_of {K:PySem.W.Frag} {r:R2} {g:D→D→Option D} {σ:St} {H:Hp} {Q:VK} (hg:OpD K r g) (h:tE K F0 H0 xq (dBin g fa fb) σ H Q):tOp r (tE K F0 H0 xq fa) (tE K F0 H0 xq fb) σ H Q:=by
  obtain ⟨F,S,st,o⟩:=h
  refine ⟨F,S,st,outE.mb o fun r1 v1 F1 H1 e1 q1 o1=>?_⟩
  refine ⟨F1,S,st.step e1,outE.mb o1 fun r2 v2 F2 H2 e2 q2 o2=>?_⟩
  cases z:g (toD r1) (toD r2) with
  | none=>rw [z] at o2; exact False.elim o2
  | some d=>
    rw [z] at o2
    exact hg F2 H2 _ _ d v1 v2 Q e2.fh (RR.rv e2.fh (RR.step e2 q1)) (RR.rv e2.fh q2) z fun v F' H' e r=>o2 v F' H' e r
theorem de_bin {op:Operator} {r:R2} {g:D→D→Option D} (ho:OpR X (binaryOp op) r) (hg:OpD X.K r g) (ha:DE X F0 H0 xq a fa) (hb:DE X F0 H0 xq b fb):DE X F0 H0 xq (.BinOp a op b pos) (dBin g fa fb):=
  .mk fun pins s σ H Q I h=>pe_op ho ha.h hb.h pins s σ H Q I (tOp_of hg h)
theorem de_cmp {op:CmpOp} {r:R2} {g:D→D→Option D} (ho:OpR X (compareOp op) r) (hg:OpD X.K r g) (ha:DE X F0 H0 xq a fa) (hb:DE X F0 H0 xq b fb) (hm:behindInMarks op b=false):DE X F0 H0 xq (.Compare a [op] [b] pos) (dBin g fa fb):=
  .mk fun pins s σ H Q I h=>pe_cmpR ho ha.h hb.h hm pins s σ H Q I (tOp_of hg h)
noncomputable def dtB (f:DS→M VR):DS→M Bool:=fun S=>mb (f S) fun r=>match r with
  | .ok (.bl b)=>some (.ok b)
  | _=>none
theorem tTest_of {K:PySem.W.Frag} {f:DS→M VR} {σ:St} {H:Hp} {Q:Bool→Hp→Prop} (h:tT K F0 H0 xq (dtB f) σ H Q):tE K F0 H0 xq f σ H (fun x H'=>∃ k,x=.bl k∧Q k H'):=by
  obtain ⟨F,S,st,o⟩:=h
  refine ⟨F,S,st,outE.mbT (K:=K) (H0:=H0) o fun r v F1 H1 e q o1=>?_⟩
  cases r with
  | bor l=>exact False.elim o1
  | bod ks l=>exact False.elim o1
  | ok d=>
    cases d with
    | bl b=>exact ⟨b,q,o1 F1 H1 (Ext.refl e.fh)⟩
    | _=>exact False.elim o1
theorem dt_cmp {op:CmpOp} {r:R2} {g:D→D→Option D} (ho:OpR X (compareOp op) r) (hg:OpD X.K r g) (ha:DE X F0 H0 xq a fa) (hb:DE X F0 H0 xq b fb) (hm:behindInMarks op b=false):DT X F0 H0 xq (.Compare a [op] [b] pos) (dtB (dBin g fa fb)):=
  .mk fun pins s σ H Q I h=>pt_cmpR ho ha.h hb.h hm pins s σ H Q I (tOp_of hg (tTest_of h))
theorem dt_val {e:Expr} {f:DS→M VR} (h:DE X F0 H0 xq e f) (he:∀ whole,isTrue e X.env whole=(do let v ← whole; standAt e.pos; holding [v] (truthy v)):=by intro _; rfl):DT X F0 H0 xq e (dtB f):=
  .mk fun pins s σ H Q I q=>pt_val h.h he pins s σ H Q I (tTest_of q)
noncomputable def dChain (g g':D→D→Option D) (fa fb fc:DS→M VR):DS→M VR:=fun S=>mb (fa S) fun r1=>mb (fb S) fun r2=>match g (toD r1) (toD r2) with
  | some (.bl true)=>mb (fc S) fun r3=>vr (g' (toD r2) (toD r3))
  | some (.bl false)=>some (.ok (.ok (.bl false)))
  | _=>none
theorem tChain_of {K:PySem.W.Frag} {r r':R2} {g g':D→D→Option D} {σ:St} {H:Hp} {Q:VK} (hg:OpD K r g) (hg':OpD K r' g') (h:tE K F0 H0 xq (dChain g g' fa fb fc) σ H Q) :
    tChain r r' (tE K F0 H0 xq fa) (tE K F0 H0 xq fb) (tE K F0 H0 xq fc) σ H Q:=by
  obtain ⟨F,S,st,o⟩:=h
  refine ⟨F,S,st,outE.mb o fun r1 v1 F1 H1 e1 q1 o1=>?_⟩
  refine ⟨F1,S,st.step e1,outE.mb o1 fun r2 v2 F2 H2 e2 q2 o2=>?_⟩
  have st2:=(st.step e1).step e2
  match z:g (toD r1) (toD r2),o2 with
  | some (.bl true),o2=>
    refine hg F2 H2 _ _ _ v1 v2 _ e2.fh (RR.rv e2.fh (RR.step e2 q1)) (RR.rv e2.fh q2) z fun v F3 H3 e3 r3=>⟨true,r3,?_⟩
    rw [if_pos rfl]
    refine ⟨F3,S,st2.step e3,outE.mb (outE.step e3 o2) fun r4 v4 F4 H4 e4 q4 o4=>?_⟩
    cases y:g' (toD r2) (toD r4) with
    | none=>rw [y] at o4; exact False.elim o4
    | some d=>
      rw [y] at o4
      exact hg' F4 H4 _ _ d v2 v4 Q e4.fh (RR.rv e4.fh (RR.step e4 (RR.step e3 q2))) (RR.rv e4.fh q4) y fun v F' H' e r=>o4 v F' H' e r
  | some (.bl false),o2=>
    refine hg F2 H2 _ _ _ v1 v2 _ e2.fh (RR.rv e2.fh (RR.step e2 q1)) (RR.rv e2.fh q2) z fun v F3 H3 e3 r3=>⟨false,r3,?_⟩
    rw [if_neg Bool.false_ne_true]
    exact o2 (.bl false) F3 H3 e3 rfl
theorem de_chain {op op':CmpOp} {r r':R2} {g g':D→D→Option D} (ho:OpR X (compareOp op) r) (ho':OpR X (compareOp op') r') (hg:OpD X.K r g) (hg':OpD X.K r' g') (ha:DE X F0 H0 xq a fa) (hb:DE X F0 H0 xq b fb) (hc:DE X F0 H0 xq c fc)
    (hm:lastMarks [op,op'] [b,c]=false:=by with_unfolding_all rfl):DE X F0 H0 xq (.Compare a [op,op'] [b,c] pos) (dChain g g' fa fb fc):=
  .mk fun pins s σ H Q I h=>pe_chain ho ho' ha.h hb.h hc.h hm pins s σ H Q I (tChain_of hg hg' h)
end
noncomputable def UnD (K:PySem.W.Frag) (r:V→Hp→VK→Prop) (g:D→Option D):Prop:=∀ (F H:Hp) (d1 d:D) (v1:V) (Q:VK),Same F H→RV K F H d1 v1→g d1=some d→(∀ v F' H',Ext F H F' H'→Rep K F' d v→Q v H')→r v1 H Q
noncomputable def dUn (g:D→Option D) (fa:DS→M VR):DS→M VR:=fun S=>mb (fa S) fun r1=>vr (g (toD r1))
section
variable {X:Cx} {F0 H0:Hp} {xq:Addr→Hp→Prop} {pos:Pos} {a b c:Expr} {fa fb fc:DS→M VR}
theorem tUn_of {K:PySem.W.Frag} {r:V→Hp→VK→Prop} {g:D→Option D} {σ:St} {H:Hp} {Q:VK} (hg:UnD K r g) (h:tE K F0 H0 xq (dUn g fa) σ H Q):tE K F0 H0 xq fa σ H (fun x H1=>r x H1 Q):=by
  obtain ⟨F,S,st,o⟩:=h
  refine ⟨F,S,st,outE.mb o fun r1 v1 F1 H1 e1 q1 o1=>?_⟩
  cases z:g (toD r1) with
  | none=>rw [z] at o1; exact False.elim o1
  | some d=>
    rw [z] at o1
    exact hg F1 H1 _ d v1 Q e1.fh (RR.rv e1.fh q1) z fun v F' H' e r=>o1 v F' H' e r
theorem de_un {op:UnaryOp} {r:V→Hp→VK→Prop} {g:D→Option D} (ho:UnR X (unaryOp op) r) (hg:UnD X.K r g) (ha:DE X F0 H0 xq a fa):DE X F0 H0 xq (.UnaryOp op a pos) (dUn g fa):=
  .mk fun pins s σ H Q I h=>pe_un ho ha.h pins s σ H Q I (tUn_of hg h)
theorem tCB_of {K:PySem.W.Frag} {r:List V→Hp→VK→Prop} {g:D→Option D} {σ:St} {H:Hp} {Q:VK} (hg:UnD K (fun x H Q=>r [x] H Q) g) (h:tE K F0 H0 xq (dUn g fa) σ H Q):tCB r (tCons (tE K F0 H0 xq fa) tNil) σ H Q:=tUn_of hg h
theorem de_b1 {id:String} {x:Str} {p:Pos} {r:List V→Hp→VK→Prop} {g:D→Option D} (hc:CallR X (.builtin id) r) (hg:UnD X.K (fun x H Q=>r [x] H Q) g) (hgl:Gl X x) (hm:X.mg x=none) (hv:bootBuiltins x=some (.builtin id)) (ha:DE X F0 H0 xq a fa)
    (hn:x ≠ "__name__" := by decide) (hdb:(x == ("__debug__" : Str))=false:=by decide) (he:starEach [a] X.env=(false,eval a X.env) :: starEach [] X.env:=by rfl):DE X F0 H0 xq (.Call (.Name x p) [a] [] pos) (dUn g fa):=
  .mk fun pins s σ H Q I h=>pe_callB hc hgl hm hv (pa_cons ha.h pa_nil he) hn hdb he rfl pins s σ H Q I (tCB_of hg h)
theorem de_t1 {T:String} {x:Str} {p:Pos} {r:List V→Hp→VK→Prop} {g:D→Option D} (hc:CallR X (.type T) r) (hg:UnD X.K (fun x H Q=>r [x] H Q) g) (hgl:Gl X x) (hm:X.mg x=none) (hv:bootBuiltins x=some (.type T)) (ha:DE X F0 H0 xq a fa)
    (hn:x ≠ "__name__" := by decide) (hdb:(x == ("__debug__" : Str))=false:=by decide) (he:starEach [a] X.env=(false,eval a X.env) :: starEach [] X.env:=by rfl):DE X F0 H0 xq (.Call (.Name x p) [a] [] pos) (dUn g fa):=
  .mk fun pins s σ H Q I h=>pe_callTy hc hgl hm hv (pa_cons ha.h pa_nil he) hn hdb he rfl pins s σ H Q I (tCB_of hg h)
noncomputable def dNot (f:DS→M Bool):DS→M Bool:=fun S=>mb (f S) fun b=>some (.ok (!b))
theorem dt_not {f:DS→M Bool} (h:DT X F0 H0 xq a f):DT X F0 H0 xq (.UnaryOp .Not a pos) (dNot f):=.mk fun pins s σ H Q I q=>by
  refine pt_not h.h pins s σ H Q I ?_
  obtain ⟨F,S,st,o⟩:=q
  exact ⟨F,S,st,outT.bind (G:=fun F H z=>outT xq F H Q z) (fun e h=>h.step e) (fun _ _ h=>h) (fun _ _ _ h=>h) o fun b F1 H1 e o1=>o1 F1 H1 (Ext.refl e.fh)⟩
noncomputable def dNotV (f:DS→M VR):DS→M VR:=fun S=>mb (f S) fun r=>match r with
  | .ok (.bl b)=>some (.ok (.ok (.bl (!b))))
  | _=>none
theorem de_not {f:DS→M VR} (h:DE X F0 H0 xq a f):DE X F0 H0 xq (.UnaryOp .Not a pos) (dNotV f):=.mk fun pins s σ H Q I q=>by
  refine pe_not h.h pins s σ H Q I ?_
  obtain ⟨F,S,st,o⟩:=q
  refine ⟨F,S,st,outE.mb o fun r v F1 H1 e q o1=>?_⟩
  cases r with
  | bor l=>exact False.elim o1
  | bod ks l=>exact False.elim o1
  | ok d=>
    cases d with
    | bl b=>exact ⟨b,q,o1 (.bl (!b)) F1 H1 (Ext.refl e.fh) rfl⟩
    | _=>exact False.elim o1
noncomputable def dAnd (f g:DS→M Bool):DS→M Bool:=fun S=>mb (f S) fun b=>if b=true then g S else some (.ok false)
noncomputable def dOr (f g:DS→M Bool):DS→M Bool:=fun S=>mb (f S) fun b=>if b=true then some (.ok true) else g S
variable {rest:List Expr}
theorem dw_and1 {f:DS→M Bool} (h:DT X F0 H0 xq a f):DW X F0 H0 xq (.BoolOp .And [a] pos) f:=⟨pw_and1 h.h⟩
theorem dw_or1 {f:DS→M Bool} (h:DT X F0 H0 xq a f):DW X F0 H0 xq (.BoolOp .Or [a] pos) f:=⟨pw_or1 h.h⟩
theorem dw_and {f g:DS→M Bool} (h:DT X F0 H0 xq a f) (h2:DW X F0 H0 xq (.BoolOp .And (b :: rest) pos) g):DW X F0 H0 xq (.BoolOp .And (a :: b :: rest) pos) (dAnd f g):=.mk fun wh pins s σ H Q I q=>by
  refine pw_and h.h h2.h wh pins s σ H Q I ?_
  obtain ⟨F,S,st,o⟩:=q
  refine ⟨F,S,st,outT.bind (G:=fun F H z=>outT xq F H Q z) (fun e h=>h.step e) (fun _ _ h=>h) (fun _ _ _ h=>h) o fun b F1 H1 e o1=>?_⟩
  cases b with
  | true=>rw [if_pos rfl] at o1 ⊢; exact ⟨F1,S,st.step e,o1⟩
  | false=>rw [if_neg Bool.false_ne_true] at o1 ⊢; exact o1 F1 H1 (Ext.refl e.fh)
theorem dw_or {f g:DS→M Bool} (h:DT X F0 H0 xq a f) (h2:DW X F0 H0 xq (.BoolOp .Or (b :: rest) pos) g):DW X F0 H0 xq (.BoolOp .Or (a :: b :: rest) pos) (dOr f g):=.mk fun wh pins s σ H Q I q=>by
  refine pw_or h.h h2.h wh pins s σ H Q I ?_
  obtain ⟨F,S,st,o⟩:=q
  refine ⟨F,S,st,outT.bind (G:=fun F H z=>outT xq F H Q z) (fun e h=>h.step e) (fun _ _ h=>h) (fun _ _ _ h=>h) o fun b F1 H1 e o1=>?_⟩
  cases b with
  | true=>rw [if_pos rfl] at o1 ⊢; exact o1 F1 H1 (Ext.refl e.fh)
  | false=>rw [if_neg Bool.false_ne_true] at o1 ⊢; exact ⟨F1,S,st.step e,o1⟩
theorem dt_w {e:Expr} {f:DS→M Bool} (h:DW X F0 H0 xq e f):DT X F0 H0 xq e f:=⟨h.h.pt⟩
noncomputable def dAndV (f g:DS→M VR):DS→M VR:=fun S=>mb (f S) fun r=>match r with
  | .ok (.bl true)=>g S
  | .ok (.bl false)=>some (.ok (.ok (.bl false)))
  | _=>none
noncomputable def dOrV (f g:DS→M VR):DS→M VR:=fun S=>mb (f S) fun r=>match r with
  | .ok (.bl true)=>some (.ok (.ok (.bl true)))
  | .ok (.bl false)=>g S
  | _=>none
theorem de_one {op} {f:DS→M VR} (h:DE X F0 H0 xq a f):DE X F0 H0 xq (.BoolOp op [a] pos) f:=⟨pe_one h.h⟩
theorem de_and {f g:DS→M VR} (h:DE X F0 H0 xq a f) (h2:DE X F0 H0 xq (.BoolOp .And (b :: rest) pos) g):DE X F0 H0 xq (.BoolOp .And (a :: b :: rest) pos) (dAndV f g):=.mk fun pins s σ H Q I q=>by
  refine pe_and h.h h2.h pins s σ H Q I ?_
  obtain ⟨F,S,st,o⟩:=q
  refine ⟨F,S,st,outE.mb o fun r v F1 H1 e q o1=>?_⟩
  cases r with
  | bor l=>exact False.elim o1
  | bod ks l=>exact False.elim o1
  | ok d=>
    cases d with
    | bl b=>
      cases b with
      | true=>exact ⟨true,q,by rw [if_pos rfl]; exact ⟨F1,S,st.step e,o1⟩⟩
      | false=>exact ⟨false,q,by rw [if_neg Bool.false_ne_true]; exact o1 (.bl false) F1 H1 (Ext.refl e.fh) rfl⟩
    | _=>exact False.elim o1
theorem de_or {f g:DS→M VR} (h:DE X F0 H0 xq a f) (h2:DE X F0 H0 xq (.BoolOp .Or (b :: rest) pos) g):DE X F0 H0 xq (.BoolOp .Or (a :: b :: rest) pos) (dOrV f g):=.mk fun pins s σ H Q I q=>by
  refine pe_or h.h h2.h pins s σ H Q I ?_
  obtain ⟨F,S,st,o⟩:=q
  refine ⟨F,S,st,outE.mb o fun r v F1 H1 e q o1=>?_⟩
  cases r with
  | bor l=>exact False.elim o1
  | bod ks l=>exact False.elim o1
  | ok d=>
    cases d with
    | bl b=>
      cases b with
      | true=>exact ⟨true,q,by rw [if_pos rfl]; exact o1 (.bl true) F1 H1 (Ext.refl e.fh) rfl⟩
      | false=>exact ⟨false,q,by rw [if_neg Bool.false_ne_true]; exact ⟨F1,S,st.step e,o1⟩⟩
    | _=>exact False.elim o1
noncomputable def dIfE (c:DS→M Bool) (f g:DS→M VR):DS→M VR:=fun S=>mb (c S) fun b=>if b=true then f S else g S
end
section
variable {X:Cx} {F0 H0:Hp} {xq:Addr→Hp→Prop} {pos:Pos} {e:Expr} {es:List Expr} {f:DS→M VR} {fs:DS→M (List VR)}
noncomputable def dNil:DS→M (List VR):=fun _=>some (.ok [])
noncomputable def dCons (f:DS→M VR) (fs:DS→M (List VR)):DS→M (List VR):=fun S=>mb (f S) fun r=>mb (fs S) fun rs=>some (.ok (r :: rs))
theorem da_nil:DA X F0 H0 xq [] dNil:=.mk fun p pins s σ H Q I ⟨F,S,st,o⟩=>pa_nil p pins s σ H Q I (o [] F H (Ext.refl st.ext.fh) rfl)
theorem tCons_of {K:PySem.W.Frag} {σ:St} {H:Hp} {Q:List V→Hp→Prop} (h:tA K F0 H0 xq (dCons f fs) σ H Q):tCons (tE K F0 H0 xq f) (tA K F0 H0 xq fs) σ H Q:=by
  obtain ⟨F,S,st,o⟩:=h
  refine ⟨F,S,st,outE.mbA o fun r v F1 H1 e1 q1 o1=>?_⟩
  refine ⟨F1,S,st.step e1,outA.bind (G:=fun F H z=>outA K H0 xq F H Q z) (fun e h=>h.step e) (fun _ _ h=>h) (fun _ _ _ h=>h) o1 fun rs vs F2 H2 e2 q2 o2=>?_⟩
  exact o2 (v :: vs) F2 H2 (Ext.refl e2.fh) ⟨v,vs,rfl,RR.step e2 q1,q2⟩
noncomputable def unst:Expr→Bool
  | .Starred _ _=>false
  | _=>true
theorem star_cons {e:Expr} {es:List Expr} {env:Env} (h:unst e=true):starEach (e :: es) env=(false,eval e env) :: starEach es env:=by
  cases e <;> first | rfl | cases h
theorem da_cons (ha:DE X F0 H0 xq e f) (hr:DA X F0 H0 xq es fs) (hs:unst e=true:=by rfl):DA X F0 H0 xq (e :: es) (dCons f fs):=
  .mk fun p pins s σ H Q I h=>pa_cons ha.h hr.h (star_cons hs) p pins s σ H Q I (tCons_of h)
noncomputable def datas:List VR→Option (List D)
  | []=>some []
  | .ok d :: r=>(datas r).map (d :: ·)
  | .bor _ :: _=>none
  | .bod _ _ :: _=>none
theorem RRs.datas {K:PySem.W.Frag} {F H:Hp}:∀ {rs:List VR} {vs:List V} {ds:List D},RRs K H0 F H rs vs→PF.datas rs=some ds→RepL K F ds vs
  | [],_,ds,h,e=>by
    have e':([]:List D)=ds:=Option.some.inj e
    subst e'; exact h
  | .ok d :: r,_,ds,h,e=>by
    obtain ⟨v,t,rfl,q,h⟩:=h
    unfold PF.datas at e
    cases z:PF.datas r with
    | none=>rw [z] at e; cases e
    | some l=>
      rw [z] at e
      have e':d :: l=ds:=Option.some.inj e
      subst e'
      exact ⟨v,t,rfl,q,RRs.datas h z⟩
  | .bor _ :: _,_,ds,_,e=>by cases e
  | .bod _ _ :: _,_,ds,_,e=>by cases e
noncomputable def big:Nat:=100000
theorem big_le {n:Nat} (h:n ≤ big):n ≤ sizeLine:=Nat.le_trans h (by rw [sizeLine_eq]; decide)
noncomputable def dTup (fs:DS→M (List VR)):DS→M VR:=fun S=>mb (fs S) fun rs=>match datas rs with
  | some ds=>if ds.length ≤ big then some (.ok (.ok (.tup ds))) else none
  | none=>none
noncomputable def dLst (fs:DS→M (List VR)):DS→M (List D):=fun S=>mb (fs S) fun rs=>match datas rs with
  | some ds=>if ds.length ≤ big then some (.ok ds) else none
  | none=>none
theorem de_tup {x1} (h:DA X F0 H0 xq es fs):DE X F0 H0 xq (.Tuple es x1 pos) (dTup fs):=.mk fun pins s σ H Q I q=>by
  refine pe_tup h.h pins s σ H Q I ?_
  obtain ⟨F,S,st,o⟩:=q
  refine ⟨F,S,st,outA.bind (G:=fun F H z=>outE X.K H0 xq F H Q z) (fun e h=>h.step e) (fun _ _ h=>h) (fun _ _ _ h=>h) o fun rs vs F1 H1 e1 q1 o1=>?_⟩
  cases z:datas rs with
  | none=>simp only [z] at o1; exact False.elim o1
  | some ds=>
    simp only [z] at o1
    have rl:=RRs.datas q1 z
    by_cases hz:ds.length ≤ big
    · rw [if_pos hz] at o1
      refine ⟨by rw [← rl.length]; exact big_le hz,fun p hp=>?_⟩
      have hf:=e1.fh.free hp
      exact o1 (.ref p) _ _ (ext_alloc e1.fh hp) ⟨p,vs,rfl,SqT.of upd_same,rl.mono (same_upd hf)⟩
    · rw [if_neg hz] at o1; exact False.elim o1
theorem df_lst (h:DA X F0 H0 xq es fs):DF X F0 H0 xq (.List es pos) (dLst fs):=.mk fun pins s σ H Q I q=>by
  refine pe_lst h.h pins s σ H Q I ?_
  obtain ⟨F,S,st,o⟩:=q
  refine ⟨F,S,st,outA.bind (G:=fun F H z=>outF X.K xq F H Q z) (fun e h=>h.step e) (fun _ _ h=>h) (fun _ _ _ h=>h) o fun rs vs F1 H1 e1 q1 o1=>?_⟩
  cases z:datas rs with
  | none=>simp only [z] at o1; exact False.elim o1
  | some ds=>
    simp only [z] at o1
    have rl:=RRs.datas q1 z
    by_cases hz:ds.length ≤ big
    · rw [if_pos hz] at o1
      refine ⟨by rw [← rl.length]; exact big_le hz,fun p hp=>?_⟩
      exact o1 p vs F1 _ (ext_own e1.fh hp) hp (e1.fh.free hp) upd_same rl
    · rw [if_neg hz] at o1; exact False.elim o1
noncomputable def spM (K:PySem.W.Frag) (n:Nat) (m:List D→M D):Sp:=fun vs H Q E=>∃ F ds,Same F H∧RepL K F ds vs∧ds.length=n∧match m ds with
  | none=>False
  | some (.error c)=>∀ H',Same H H'→E (.ref c) none H'
  | some (.ok d)=>∀ v F' H',Ext F H F' H'→Rep K F' d v→Q v H'
noncomputable def Ex (xq:Addr→Hp→Prop):XK:=fun c _ H'=>∃ a,c=.ref a∧xq a H'
structure FnD (P:Program) (w:World) (K:PySem.W.Frag) (mg:Str→Option Value) (base:Heap) (CX:CXT) (k:Nat) (x:Str) (n:Nat) (m:List D→M D):Prop where
  ex:∃ (f:Addr) (fd:FuncData) (ps:List Str),mg x=some (.ref f)∧PySem.W.keepIn K (.ref f)=true∧Binds K fd ps []∧ps.length=n∧FnOk P w K mg base CX k f fd ps (spM K n m)
noncomputable def isBor:VR→Bool
  | .bor _=>true
  | .bod _ _=>true
  | .ok _=>false
noncomputable def dCall (n:Nat) (m:List D→M D) (fs:DS→M (List VR)):DS→M VR:=fun S=>mb (fs S) fun rs=>if rs.length=n then mb (m (rs.map toD)) fun d=>if rs.any isBor=true∧noList d=false then none else some (.ok (.ok d)) else none
theorem RRs.rep {K:PySem.W.Frag} {F H:Hp} (fh:Same F H):∀ {rs:List VR} {vs:List V},RRs K H0 F H rs vs→RepL K H (rs.map toD) vs
  | [],_,h=>h
  | r :: rs,_,h=>let ⟨v,t,e,q,h⟩:=h; ⟨v,t,e,RR.rep fh q,RRs.rep fh h⟩
theorem RRs.repF {K:PySem.W.Frag} {F H:Hp}:∀ {rs:List VR} {vs:List V},RRs K H0 F H rs vs→rs.any isBor=false→RepL K F (rs.map toD) vs
  | [],_,h,_=>h
  | .ok d :: rs,_,h,nb=>let ⟨v,t,e,q,h⟩:=h; ⟨v,t,e,q,RRs.repF h (by simpa [isBor] using nb)⟩
  | .bor l :: rs,_,h,nb=>by simp [isBor] at nb
  | .bod ks l :: rs,_,h,nb=>by simp [isBor] at nb
noncomputable def backF (F H F':Hp):Hp:=fun b=>match H b with
  | some (.lst _)=>F b
  | some (.dK _)=>F b
  | _=>F' b
theorem backF_cases (F H F':Hp) (b:Addr):((∃ u,H b=some u∧((∃ xs,u=.lst xs)∨∃ ks,u=.dK ks))∧backF F H F' b=F b)∨((∀ u,H b=some u→(∀ xs,u ≠ .lst xs)∧∀ ks,u ≠ .dK ks)∧backF F H F' b=F' b):=by
  unfold backF
  cases z:H b with
  | none=>exact .inr ⟨fun u e=>by (cases e),rfl⟩
  | some u=>
    cases u with
    | lst xs=>exact .inl ⟨⟨_,rfl,.inl ⟨_,rfl⟩⟩,rfl⟩
    | dK xs=>exact .inl ⟨⟨_,rfl,.inr ⟨_,rfl⟩⟩,rfl⟩
    | _=>exact .inr ⟨fun u e=>by cases e; exact ⟨fun _=>HO.noConfusion,fun _=>HO.noConfusion⟩,rfl⟩
theorem Ext.back {K:PySem.W.Frag} {F H F' H':Hp} {d:D} {v:V} (fh:Same F H) (e:Ext H H F' H') (r:Rep K F' d v) (hd:noList d=true):∃ F'',Ext F H F'' H'∧Rep K F'' d v:=by
  refine ⟨backF F H F',⟨fun b o q=>?_,e.hh,fun b o q=>?_,fun b xs hb fb=>?_⟩,?_⟩
  · rcases backF_cases F H F' b with ⟨_,z⟩ | ⟨_,z⟩
    · rw [z]; exact q
    · rw [z]; exact e.ff b _ (fh b o q)
  · rcases backF_cases F H F' b with ⟨_,z⟩ | ⟨_,z⟩
    · rw [z] at q; exact e.hh b o (fh b o q)
    · rw [z] at q; exact e.fh b o q
  · rcases backF_cases F H F' b with ⟨_,z⟩ | ⟨hu,z⟩
    · rw [z]; exact fb
    · cases xs with
      | lst xs=>exact absurd rfl ((hu _ hb).1 xs)
      | dK xs=>exact absurd rfl ((hu _ hb).2 xs)
  · refine Rep.impT (fun a vs h=>?_) hd r
    have keep:∀ o:HO,(∀ xs,o ≠ .lst xs)→(∀ xs,o ≠ .dK xs)→F' a=some o→backF F H F' a=some o:=fun o no nd q=>by
      rcases backF_cases F H F' a with ⟨⟨u,hu,hh⟩,z⟩ | ⟨_,z⟩
      · have:=e.ff a _ hu
        rw [q] at this
        have:=Option.some.inj this
        subst this
        rcases hh with ⟨xs,hh⟩ | ⟨xs,hh⟩
        · exact absurd hh (no xs)
        · exact absurd hh (nd xs)
      · rw [z]; exact q
    rcases h with (h | ⟨o,h⟩) | h
    · exact .inl (.inl (keep _ (fun _=>HO.noConfusion) (fun _=>HO.noConfusion) h))
    · exact .inl (.inr ⟨o,keep _ (fun _=>HO.noConfusion) (fun _=>HO.noConfusion) h⟩)
    · exact .inr h
theorem de_call {CX:CXT} {k n:Nat} {x:Str} {p:Pos} {m:List D→M D} (Fn:FnD X.prog X.w X.K X.mg X.base CX k x n m) (hr:Room k X.A) (hg:Gl X x) (hx:Passes CX X (Ex xq)) (ha:DA X F0 H0 xq (e :: es) fs)
    (hdb:(x == ("__debug__" : Str))=false:=by decide) (he:starEach (e :: es) X.env=(false,eval e X.env) :: starEach es X.env:=by rfl) (hpl:(backTo pos (starEach es X.env)).any (·.1)=false:=by rfl) :
    DE X F0 H0 xq (.Call (.Name x p) (e :: es) [] pos) (dCall n m fs):=.mk fun pins s σ H Q I q=>by
  obtain ⟨f,fd,ps,hm,hk,hb,hl,G⟩:=Fn.ex
  refine pe_call G hr hg hm hk hb .nil hx ha.h hdb he hpl pins s σ H Q I ?_
  obtain ⟨F,S,st,o⟩:=q
  refine ⟨F,S,st,outA.bind (G:=fun F H z=>outE X.K H0 xq F H Q z) (fun e h=>h.step e) (fun _ _ h=>h) (fun _ _ _ h=>h) o fun rs vs F1 H1 e1 q1 o1=>?_⟩
  show spM X.K n m (vs ++ []) H1 Q (Ex xq)
  rw [List.append_nil]
  by_cases hn:rs.length=n
  · rw [if_pos hn] at o1
    by_cases hb:rs.any isBor=true
    · refine ⟨H1,rs.map toD,Same.refl _,RRs.rep e1.fh q1,by rw [List.length_map]; exact hn,?_⟩
      cases z:m (rs.map toD) with
      | none=>rw [z] at o1; exact o1
      | some y=>
        rw [z] at o1
        cases y with
        | error c=>exact fun H' h=>⟨c,rfl,o1 H' h⟩
        | ok d=>
          intro v F' H' e r
          have o2:outE X.K H0 xq F1 H1 Q (if rs.any isBor=true∧noList d=false then none else some (.ok (.ok d))):=o1
          cases nl:noList d with
          | false=>rw [if_pos ⟨hb,nl⟩] at o2; exact False.elim o2
          | true=>
            rw [if_neg (by rw [nl]; simp)] at o2
            obtain ⟨F'',e',r'⟩:=Ext.back e1.fh e r nl
            exact o2 v F'' H' e' r'
    · have hb':rs.any isBor=false:=by simpa using hb
      refine ⟨F1,rs.map toD,e1.fh,RRs.repF q1 hb',by rw [List.length_map]; exact hn,?_⟩
      cases z:m (rs.map toD) with
      | none=>rw [z] at o1; exact o1
      | some y=>
        rw [z] at o1
        cases y with
        | error c=>exact fun H' h=>⟨c,rfl,o1 H' h⟩
        | ok d=>
          intro v F' H' e r
          have o2:outE X.K H0 xq F1 H1 Q (if rs.any isBor=true∧noList d=false then none else some (.ok (.ok d))):=o1
          rw [if_neg (by rw [hb']; simp)] at o2
          exact o2 v F' H' e r
  · rw [if_neg hn] at o1; exact False.elim o1
end
section
variable {X:Cx} {F0 H0:Hp} {xq:Addr→Hp→Prop} {pos:Pos} {st:Stmt} {rest:List Stmt} {e:Expr}
noncomputable def dNext:DS→Option Fl:=fun S=>some (.next S)
noncomputable def dSeq (g h:DS→Option Fl):DS→Option Fl:=fun S=>match g S with
  | some (.next S')=>h S'
  | x=>x
theorem dss_nil:DSs X F0 H0 xq [] dNext:=.mk fun pins s σ H Dn I ⟨F,S,st,o⟩=>pss_nil pins s σ H Dn I (o σ F H st)
theorem dss_cons {g h:DS→Option Fl} (h1:DS1 X F0 H0 xq st g) (h2:DSs X F0 H0 xq rest h):DSs X F0 H0 xq (st :: rest) (dSeq g h):=.mk fun pins s σ H Dn I q=>by
  refine pss_cons h1.h h2.h pins s σ H Dn I ?_
  obtain ⟨F,S,sk,o⟩:=q
  refine ⟨F,S,sk,?_⟩
  unfold dSeq at o
  cases z:g S with
  | none=>rw [z] at o; exact False.elim o
  | some y=>
    rw [z] at o
    cases y with
    | next S'=>exact fun σ' F' H' sk'=>⟨F',S',sk',o⟩
    | ret d=>exact o
    | brk S'=>exact o
    | cont S'=>exact o
    | ex c=>exact o
theorem dss_one {g:DS→Option Fl} (h1:DS1 X F0 H0 xq st g):DSs X F0 H0 xq [st] g:=⟨pss_one h1.h⟩
noncomputable def liftE (x:M VR) (k:VR→Option Fl):Option Fl:=match x with
  | none=>none
  | some (.error c)=>some (.ex c)
  | some (.ok r)=>k r
theorem outE_of {K:PySem.W.Frag} {F H:Hp} {σ:St} {S:DS} {x:M VR} {k:VR→Option Fl} {Dn:Ends} {Q:VK} (sk:StOk K F0 H0 F H σ S) (o:outS K F0 H0 xq Dn (liftE x k)) (h:∀ r v F1 H1,Ext F H F1 H1→RR K H0 F1 H1 r v→outS K F0 H0 xq Dn (k r)→Q v H1):outE K H0 xq F H Q x:=by
  match x,o with
  | some (.error c),o=>exact fun H' s=>o H' (sk.ext.hh.trans s)
  | some (.ok r),o=>exact fun v F1 H1 e q=>h r v F1 H1 e q o
noncomputable def dSet (i:Nat) (f:DS→M VR):DS→Option Fl:=fun S=>liftE (f S) fun r=>match r with
  | .ok d=>some (.next (S.set i (some (.val d))))
  | _=>none
theorem ds_set (i:Nat) {x:Str} {pos':Pos} {f:DS→M VR} (hN:X.N.Nodup) (he:DE X F0 H0 xq e f) (hi:X.N[i]?=some x:=by rfl) (hx:Loc X.env.scope x:=by first | exact Or.inl rfl | exact Or.inr rfl) (hs:swapsWith e (some (.Name x pos')) pos.line X.env=pure false:=by rfl)
    (hf:X.fn x=true∨X.env.scope.names.lookup x=some .local:=by first | exact .inl rfl | exact .inr rfl | assumption):DS1 X F0 H0 xq (.Assign [.Name x pos'] e pos) (dSet i f):=.mk fun pins s σ H Dn I q=>by
  refine ps_set hN hi hx he.h hs hf pins s σ H Dn I ?_
  obtain ⟨F,S,sk,o⟩:=q
  refine ⟨F,S,sk,outE_of sk o fun r v F1 H1 e1 q1 o1=>?_⟩
  cases r with
  | bor l=>exact False.elim o1
  | bod ks l=>exact False.elim o1
  | ok d=>exact o1 _ F1 H1 ((sk.step e1).setVal q1 i)
noncomputable def dOwn (i:Nat) (f:DS→M (List D)):DS→Option Fl:=fun S=>match f S with
  | none=>none
  | some (.error c)=>some (.ex c)
  | some (.ok l)=>some (.next (S.set i (some (.own l))))
theorem ds_own (i:Nat) {x:Str} {pos':Pos} {f:DS→M (List D)} (hN:X.N.Nodup) (he:DF X F0 H0 xq e f) (hi:X.N[i]?=some x:=by rfl) (hx:Loc X.env.scope x:=by first | exact Or.inl rfl | exact Or.inr rfl) (hs:swapsWith e (some (.Name x pos')) pos.line X.env=pure false:=by rfl)
    (hf:X.fn x=true∨X.env.scope.names.lookup x=some .local:=by first | exact .inl rfl | exact .inr rfl | assumption):DS1 X F0 H0 xq (.Assign [.Name x pos'] e pos) (dOwn i f):=.mk fun pins s σ H Dn I q=>by
  refine ps_set hN hi hx he.h hs hf pins s σ H Dn I ?_
  obtain ⟨F,S,sk,o⟩:=q
  refine ⟨F,S,sk,?_⟩
  unfold dOwn at o
  cases z:f S with
  | none=>rw [z] at o; exact False.elim o
  | some y=>
    rw [z] at o
    cases y with
    | error c=>exact fun H' s=>o H' (sk.ext.hh.trans s)
    | ok l=>exact fun a vs F1 H1 e1 h1 h2 h3 h4=>o _ F1 H1 (sk.setOwn e1 h1 h2 h3 h4 i)
noncomputable def dIf (c:DS→M Bool) (g h:DS→Option Fl):DS→Option Fl:=fun S=>match c S with
  | none=>none
  | some (.error c)=>some (.ex c)
  | some (.ok b)=>if b=true then g S else h S
theorem outT_of {K:PySem.W.Frag} {F H:Hp} {σ:St} {S:DS} {x:M Bool} {k:Bool→Option Fl} {Dn:Ends} {Q:Bool→Hp→Prop} (sk:StOk K F0 H0 F H σ S)
    (o:outS K F0 H0 xq Dn (match x with | none=>none | some (.error c)=>some (.ex c) | some (.ok b)=>k b)) (h:∀ b F1 H1,Ext F H F1 H1→outS K F0 H0 xq Dn (k b)→Q b H1):outT xq F H Q x:=by
  match x,o with
  | some (.error c),o=>exact fun H' s=>o H' (sk.ext.hh.trans s)
  | some (.ok r),o=>exact fun F1 H1 e=>h r F1 H1 e o
theorem ds_if {c:Expr} {a b:List Stmt} {t:DS→M Bool} {g h:DS→Option Fl} (hc:DT X F0 H0 xq c t) (ha:DSs X F0 H0 xq a g) (hb:DSs X F0 H0 xq b h):DS1 X F0 H0 xq (.If c a b pos) (dIf t g h):=.mk fun pins s σ H Dn I q=>by
  refine ps_if hc.h ha.h hb.h pins s σ H Dn I ?_
  obtain ⟨F,S,sk,o⟩:=q
  refine ⟨F,S,sk,outT_of (k:=fun b=>if b=true then g S else h S) sk o fun b F1 H1 e o1=>?_⟩
  cases b with
  | true=>rw [if_pos rfl] at o1 ⊢; exact ⟨F1,S,sk.step e,o1⟩
  | false=>rw [if_neg Bool.false_ne_true] at o1 ⊢; exact ⟨F1,S,sk.step e,o1⟩
noncomputable def dRet (f:DS→M VR):DS→Option Fl:=fun S=>liftE (f S) fun r=>some (.ret (toD r))
theorem ds_ret {f:DS→M VR} (he:DE X F0 H0 xq e f):DS1 X F0 H0 xq (.Return (some e) pos) (dRet f):=.mk fun pins s σ H Dn I q=>by
  refine ps_ret he.h pins s σ H Dn I ?_
  obtain ⟨F,S,sk,o⟩:=q
  refine ⟨F,S,sk,outE_of sk o fun r v F1 H1 e1 q1 o1=>?_⟩
  have ex:=sk.ext.trans e1
  cases r with
  | ok d=>exact o1 v F1 H1 ex q1
  | bor l=>
    obtain ⟨a,vs,rfl,h1,h2,h3,h4⟩:=q1
    refine o1 (.ref a) (upd F1 a (.lst vs)) H1 ⟨ex.ff.trans (same_upd h2),ex.hh,fun b u z=>?_,fun b xs hb fb=>?_⟩ ⟨a,vs,rfl,upd_same,h4.mono (same_upd h2)⟩
    · by_cases eb:b=a
      · subst eb; rw [upd_same] at z; rw [h3]; exact z
      · rw [upd_ne eb] at z; exact ex.fh b u z
    · rw [upd_ne (ne_of_none hb h1)]; exact ex.new b xs hb fb
  | bod ks l=>
    obtain ⟨a,vs,rfl,h1,h2,h3,h4,h5⟩:=q1
    refine o1 (.ref a) (upd F1 a (.dK vs)) H1 ⟨ex.ff.trans (same_upd h2),ex.hh,fun b u z=>?_,fun b xs hb fb=>?_⟩ ⟨a,vs,rfl,upd_same,h4,h5.mono (same_upd h2)⟩
    · by_cases eb:b=a
      · subst eb; rw [upd_same] at z; rw [h3]; exact z
      · rw [upd_ne eb] at z; exact ex.fh b u z
    · rw [upd_ne (ne_of_none hb h1)]; exact ex.new b xs hb fb
noncomputable def dAppend (i:Nat) (f:DS→M VR):DS→Option Fl:=fun S=>match S[i]? with
  | some (some (.own l))=>liftE (f S) fun r=>match r with
    | .ok d=>if l.length < big then some (.next (S.set i (some (.own (l ++ [d]))))) else none
    | _=>none
  | _=>none
theorem ds_append (i:Nat) {x:Str} {p apos cpos:Pos} {f:DS→M VR} (he:DE X F0 H0 xq e f) (hN:X.N[i]?=some x:=by rfl) (hv:Vis X.env.scope x:=by first | exact Or.inl rfl | exact Or.inr (Or.inl rfl) | exact Or.inr (Or.inr rfl))
    (hd:(x == ("__debug__" : Str))=false:=by decide) (hcd:(x == ("__classdict__" : Str))=false:=by decide)
    (hbase:attributeBase (.Name x p) "append" X.env (eval (.Name x p) X.env)=eval (.Name x p) X.env:=by rfl)
    (hfew:((backTo cpos (starEach [e] X.env)).all (fun x=>!x.1) && (backToKw cpos (keywordEach [] X.env)).all (fun x=>x.1.isSome) && decide (([e]:List Expr).length + ([]:List Keyword).length + (if ([]:List Keyword).isEmpty then 0 else 1) < 30))=true:=by rfl)
    (hline:(apos.endLine == cpos.line)=true:=by rfl) (hs:starEach [e] X.env=(false,eval e X.env) :: starEach [] X.env:=by rfl)
    (hsw:swapsWith (.Call (.Attribute (.Name x p) "append" apos) [e] [] cpos) none pos.line X.env=pure false:=by rfl) :
    DS1 X F0 H0 xq (.Expr (.Call (.Attribute (.Name x p) "append" apos) [e] [] cpos) pos) (dAppend i f):=.mk fun pins s σ H Dn I q=>by
  refine ps_expr (pe_bm PySem.F.plainAttrs_list PySem.F.slot_list_append PySem.F.type_list_append mt_append (pe_var hN hv hd hcd) (pa_cons he.h pa_nil hs) hbase hfew hline hs rfl) hsw pins s σ H Dn I ?_
  obtain ⟨F,S,sk,o⟩:=q
  unfold dAppend at o
  have key:∃ l,S[i]?=some (some (Slot.own l)):=by
    cases z:S[i]? with
    | none=>rw [z] at o; exact False.elim o
    | some z1=>
      cases z1 with
      | none=>rw [z] at o; exact False.elim o
      | some sl=>
        cases sl with
        | val d=>rw [z] at o; exact False.elim o
        | owd ks l=>rw [z] at o; exact False.elim o
        | own l=>exact ⟨l,rfl⟩
  · obtain ⟨l,z⟩:=key
    rw [z] at o
    obtain ⟨a,vs,h1,h2,h3,h4,h5⟩:=sk.own i l z
    refine ⟨.ref a,h1,.inl ⟨rfl,vs,SqL.of h4⟩,F,S,sk,outE_of sk o fun r v F1 H1 e1 q1 o1=>?_⟩
    cases r with
    | bor l=>exact False.elim o1
    | bod ks l=>exact False.elim o1
    | ok d=>
      have o2:outS X.K F0 H0 xq Dn (if l.length < big then some (.next (S.set i (some (.own (l ++ [d]))))) else none):=o1
      by_cases hz:l.length < big
      · rw [if_pos hz] at o2
        have sk1:=sk.step e1
        obtain ⟨a',vs',g1,g2,g3,g4,g5⟩:=sk1.own i l z
        have ea:a'=a:=by rw [h1] at g1; simpa using g1.symm
        subst ea
        refine ⟨a',vs',v,rfl,rfl,g4,Nat.lt_of_lt_of_le (by rw [← g5.length]; exact hz) (big_le (Nat.le_refl _)),?_⟩
        exact o2 σ F1 _ (sk1.mut z g1 (g5.append (.one q1)))
      · rw [if_neg hz] at o2; exact False.elim o2
noncomputable def dStore (i:Nat) (g f:DS→M VR):DS→Option Fl:=fun S=>match S[i]? with
  | some (some (.own l))=>liftE (f S) fun r=>match r with
    | .ok d=>liftE (g S) fun r2=>match r2 with
      | .ok (.int k)=>match ixN l.length k with
        | some j=>some (.next (S.set i (some (.own (l.set j d)))))
        | none=>none
      | _=>none
    | _=>none
  | _=>none
theorem ds_store (i:Nat) {x:Str} {p p2:Pos} {ix:Expr} {f g:DS→M VR} (hix:DE X F0 H0 xq ix g) (he:DE X F0 H0 xq e f) (hN:X.N[i]?=some x:=by rfl) (hv:Vis X.env.scope x:=by first | exact Or.inl rfl | exact Or.inr (Or.inl rfl) | exact Or.inr (Or.inr rfl))
    (hd:(x == ("__debug__" : Str))=false:=by decide) (hcd:(x == ("__classdict__" : Str))=false:=by decide)
    (ha:∀ v,assign (.Subscript (.Name x p) ix p2) X.env v=(do
      let ov ← holding [v] (eval (.Name x p) X.env)
      let iv ← holding [v,ov] (eval ix X.env)
      standAt p2
      holding [v,ov,iv] (setItem ov iv v)
      release [v,ov,iv] []):=by intro _; rfl)
    (hs:swapsWithSole [.Subscript (.Name x p) ix p2] e pos.line X.env=pure false:=by rfl) (hw:swappedStores [.Subscript (.Name x p) ix p2] e X.env=pure none:=by rfl)
    (h1:(assignEach [.Subscript (.Name x p) ix p2] X.env).map (·.2)=[assign (.Subscript (.Name x p) ix p2) X.env]:=by rfl) :
    DS1 X F0 H0 xq (.Assign [.Subscript (.Name x p) ix p2] e pos) (dStore i g f):=.mk fun pins s σ H Dn I q=>by
  refine ps_asg he.h (pg_sub (pe_var hN hv hd hcd) hix.h set_list ha) hs hw h1 pins s σ H Dn I ?_
  obtain ⟨F,S,sk,o⟩:=q
  unfold dStore at o
  cases z:S[i]? with
  | none=>rw [z] at o; exact False.elim o
  | some z1=>
    cases z1 with
    | none=>rw [z] at o; exact False.elim o
    | some sl=>
      cases sl with
      | val d=>rw [z] at o; exact False.elim o
      | owd ks l=>rw [z] at o; exact False.elim o
      | own l=>
        rw [z] at o
        refine ⟨F,S,sk,outE_of sk o fun r v F1 H1 e1 q1 o1=>?_⟩
        cases r with
        | bor l=>exact False.elim o1
        | bod ks l=>exact False.elim o1
        | ok d=>
          have sk1:=sk.step e1
          obtain ⟨a,vs,h1,h2,h3,h4,h5⟩:=sk1.own i l z
          refine ⟨.ref a,h1,F1,S,sk1,outE_of sk1 o1 fun r2 v2 F2 H2 e2 q2 o2=>?_⟩
          cases r2 with
          | bor l=>exact False.elim o2
          | bod ks l=>exact False.elim o2
          | ok d2=>
            cases d2 with
            | int k=>
              cases y:ixN l.length k with
              | none=>simp only [y] at o2; exact False.elim o2
              | some j=>
                simp only [y] at o2
                have sk2:=sk1.step e2
                obtain ⟨a',vs',g1,g2,g3,g4,g5⟩:=sk2.own i l z
                have ea:a'=a:=by rw [h1] at g1; simpa using g1.symm
                subst ea
                refine ⟨a',vs',k,j,rfl,q2,g4,by rw [← g5.length]; exact y,?_⟩
                exact o2 σ F2 _ (sk2.mut z g1 (RepL.set (Rep.mono e2.ff q1) j g5))
            | _=>exact False.elim o2
end
end PF
set_option Elab.async false
set_option linter.all false
set_option maxRecDepth 100000
set_option maxHeartbeats 400000
namespace PF
open PySem PySem.Spec L2
open PyProof.Rows hiding St
structure ItOk (K:PySem.W.Frag) (J:It) (Fb:Hp) (ds:List D):Prop where
  go:∀ (i:Nat) (F H:Hp),i < ds.length→Same Fb F→Same F H→J.go i H
  yld:∀ (i:Nat) (F H:Hp) (x:V) (H':Hp),Same Fb F→Same F H→J.yld i H x H'→∀ d,ds[i]?=some d→∃ F',Ext F H F' H'∧Rep K F' d x
  stop:∀ (i:Nat) (F H:Hp),ds.length ≤ i→Same Fb F→Same F H→J.stop i H
section
variable (K:PySem.W.Frag) (F0 H0:Hp) (xq:Addr→Hp→Prop)
noncomputable def outI (F H:Hp) (R:It→Hp→Prop):M (List D)→Prop
  | none=>False
  | some (.error c)=>∀ H',Same H H'→xq c H'
  | some (.ok ds)=>∀ J F' H',Ext F H F' H'→ItOk K J F' ds→R J H'
noncomputable def tI (f:DS→M (List D)):TI:=fun σ H R=>∃ F S,StOk K F0 H0 F H σ S∧outI K xq F H R (f S)
noncomputable def tG (set:D→DS→Option DS):TG:=fun v σ H Q=>∃ F S d,StOk K F0 H0 F H σ S∧Rep K F d v∧match set d S with
  | none=>False
  | some S'=>∀ σ' F' H',Ext F H F' H'→StOk K F0 H0 F' H' σ' S'→Q σ' H'
noncomputable def tGs (set:List D→DS→Option DS):TGs:=fun vs σ H Q=>∃ F S ds,StOk K F0 H0 F H σ S∧RepL K F ds vs∧match set ds S with
  | none=>False
  | some S'=>∀ σ' F' H',Ext F H F' H'→StOk K F0 H0 F' H' σ' S'→Q σ' H'
end
structure DI (X:Cx) (F0 H0:Hp) (xq:Addr→Hp→Prop) (tg it:Expr) (f:DS→M (List D)):Prop where
  mk ::
  h:PI X tg it (tI X.K F0 H0 xq f)
structure DG (X:Cx) (F0 H0:Hp) (tg:Expr) (set:D→DS→Option DS):Prop where
  mk ::
  h:PG X tg (tG X.K F0 H0 set)
structure DGs (X:Cx) (F0 H0:Hp) (ts:List Expr) (set:List D→DS→Option DS):Prop where
  mk ::
  h:PGs X ts (tGs X.K F0 H0 set)
section
variable {X:Cx} {F0 H0:Hp} {xq:Addr→Hp→Prop} {pos:Pos}
noncomputable def sName (i:Nat):D→DS→Option DS:=fun d S=>some (S.set i (some (.val d)))
theorem dg_name (i:Nat) {x:Str} (hN:X.N.Nodup) (hi:X.N[i]?=some x:=by rfl) (hx:Loc X.env.scope x:=by first | exact Or.inl rfl | exact Or.inr rfl)
    (hf:X.fn x=true∨X.env.scope.names.lookup x=some .local:=by first | exact .inl rfl | exact .inr rfl | assumption):DG X F0 H0 (.Name x pos) (sName i):=.mk fun pins s σ H v u Q I r h=>by
  refine pg_name hN hi hx hf pins s σ H v u Q I r ?_
  obtain ⟨F,S,d,sk,q,o⟩:=h
  exact o _ F H (Ext.refl sk.ext.fh) (sk.setVal q i)
noncomputable def sNil:List D→DS→Option DS:=fun ds S=>match ds with
  | []=>some S
  | _ :: _=>none
noncomputable def sCons (s:D→DS→Option DS) (r:List D→DS→Option DS):List D→DS→Option DS:=fun ds S=>match ds with
  | []=>none
  | d :: ds=>match s d S with
    | none=>none
    | some S'=>r ds S'
theorem dgs_nil:DGs X F0 H0 [] sNil:=.mk fun pins s σ H vs us Q I r h=>by
  refine pgs_nil pins s σ H vs us Q I r ?_
  obtain ⟨F,S,ds,sk,q,o⟩:=h
  cases ds with
  | nil=>exact ⟨q,o σ F H (Ext.refl sk.ext.fh) sk⟩
  | cons d ds=>exact False.elim o
theorem dgs_cons (i:Nat) {x:Str} {p:Pos} {es:List Expr} {sr:List D→DS→Option DS} (hN:X.N.Nodup) (h2:DGs X F0 H0 es sr) (hi:X.N[i]?=some x:=by rfl) (hx:Loc X.env.scope x:=by first | exact Or.inl rfl | exact Or.inr rfl)
    (hf:X.fn x=true∨X.env.scope.names.lookup x=some .local:=by first | exact .inl rfl | exact .inr rfl | assumption)
    (hs:(assignEach (.Name x p :: es) X.env).map (·.2)=assign (.Name x p) X.env :: (assignEach es X.env).map (·.2):=by rfl):DGs X F0 H0 (.Name x p :: es) (sCons (sName i) sr):=.mk fun pins s σ H vs us Q I r h=>by
  refine pgs_cons (pg_name hN hi hx hf) h2.h hs pins s σ H vs us Q I r ?_
  obtain ⟨F,S,ds,sk,q,o⟩:=h
  cases ds with
  | nil=>exact False.elim o
  | cons d ds=>
    obtain ⟨v,t,rfl,q1,q2⟩:=q
    exact ⟨v,t,rfl,F,_,ds,sk.setVal q1 i,q2,o⟩
noncomputable def sTup (n:Nat) (s:List D→DS→Option DS):D→DS→Option DS:=fun d S=>match d with
  | .tup l=>if l.length=n then s l S else none
  | _=>none
theorem dg_tup {es:List Expr} {k n:Nat} {sr:List D→DS→Option DS} (hc:X.calm=true) (h:DGs X F0 H0 es sr) (hn:(assignEach es X.env).length=n:=by rfl) (hst:(assignEach es X.env).findIdx? (·.1)=none:=by rfl) :
    DG X F0 H0 (.Tuple es k pos) (sTup n sr):=.mk fun pins s σ H v u Q I r q=>by
  refine pg_tup hc h.h hn hst pins s σ H v u Q I r ?_
  obtain ⟨F,S,d,sk,q,o⟩:=q
  cases d with
  | non=>exact False.elim o
  | bl _=>exact False.elim o
  | int _=>exact False.elim o
  | str _=>exact False.elim o
  | lst _=>exact False.elim o
  | scr _=>exact False.elim o
  | dic _ _=>exact False.elim o
  | tup l=>
    obtain ⟨a,vs,rfl,ht,rl⟩:=q
    have o':(match (if l.length=n then sr l S else none) with | none=>False | some S'=>∀ σ' F' H',Ext F H F' H'→StOk X.K F0 H0 F' H' σ' S'→Q σ' H'):=o
    by_cases hl:l.length=n
    · rw [if_pos hl] at o'
      exact ⟨a,vs,rfl,SqT.same sk.ext.fh ht,by rw [← rl.length]; exact hl,F,S,l,sk,rl,o'⟩
    · rw [if_neg hl] at o'; exact False.elim o'
noncomputable def iSeq (K:PySem.W.Frag) (tl:TE):TI:=fun σ H R=>tl σ H fun x H1=>∃ a,x=.ref a∧(((∃ xs,SqL K H1 a xs)∧R (Itl K a) H1)∨((∃ xs,SqT K H1 a xs)∧R (Itt K a) H1))
theorem pi_seq {l tg:Expr} {tl:TE} (hl:PE X l tl):PI X tg l (iSeq X.K tl):=by
  intro pins s σ H R I h
  refine thn (hl pins s σ H _ I h) fun v s1 ⟨x,H1,I1,r1,q1⟩=>?_
  obtain ⟨a,e,q1⟩:=q1
  subst e
  cases r1
  rcases q1 with ⟨⟨xs,hq⟩,q⟩ | ⟨⟨xs,hq⟩,q⟩
  · obtain ⟨its,rv,p,hz⟩:=I1.list hq
    refine wpAny_pyIter_list p.isList ?_
    refine ⟨s1.heap.objs.size,[s1.heap.objs.size],_,_,H1,rfl,I1.kept (t':=s1.toks) fun b o e=>Heap.get?_push_of_some _ e,turn_list a _,⟨_,Heap.get?_push_size _ rfl,rfl,rfl⟩,fun b hb=>?_,q⟩
    have e:b=s1.heap.objs.size:=by simpa using hb
    subst e
    exact I1.fpOk (Nat.le_refl _) (I1.hok.fresh (Nat.le_refl _))
  · obtain ⟨its,rv,p,hz⟩:=I1.tuple hq
    refine wpAny_pyIter_tuple (show s1.heap.IsTuple a its.toArray from p) ?_
    refine ⟨s1.heap.objs.size,[s1.heap.objs.size],_,_,H1,rfl,I1.kept (t':=s1.toks) fun b o e=>Heap.get?_push_of_some _ e,turn_tuple a _,⟨_,Heap.get?_push_size _ rfl,rfl,rfl⟩,fun b hb=>?_,q⟩
    have e:b=s1.heap.objs.size:=by simpa using hb
    subst e
    exact I1.fpOk (Nat.le_refl _) (I1.hok.fresh (Nat.le_refl _))
noncomputable def items:VR→Option (List D)
  | .ok (.tup l)=>some l
  | .ok (.lst l)=>some l
  | .ok (.scr l)=>some (l.map .int)
  | _=>none
noncomputable def dIter (f:DS→M VR):DS→M (List D):=fun S=>mb (f S) fun r=>match items r with
  | some l=>some (.ok l)
  | none=>none
theorem ItOk.ofL {K:PySem.W.Frag} {Fb:Hp} {a:Addr} {vs:List V} {ds:List D} (h:SqL K Fb a vs) (r:RepL K Fb ds vs):ItOk K (Itl K a) Fb ds where
  go:=fun i F H hi e1 e2=>⟨vs,vs[i]'(by rw [← r.length]; exact hi),(e1.trans e2).seq h,by simp [← r.length,hi]⟩
  yld:=fun i F H x H' e1 e2 y d hd=>by
    obtain ⟨e,y⟩:=y
    subst e
    obtain ⟨v,q1,q2⟩:=r.get hd
    have:=y vs ((e1.trans e2).seq h)
    rw [q1] at this; cases this
    exact ⟨F,Ext.refl e2,q2.mono e1⟩
  stop:=fun i F H hi e1 e2=>⟨vs,(e1.trans e2).seq h,by rw [← r.length]; exact hi⟩
theorem ItOk.ofT {K:PySem.W.Frag} {Fb:Hp} {a:Addr} {vs:List V} {ds:List D} (h:SqT K Fb a vs) (r:RepL K Fb ds vs):ItOk K (Itt K a) Fb ds where
  go:=fun i F H hi e1 e2=>⟨vs,vs[i]'(by rw [← r.length]; exact hi),SqT.same (e1.trans e2) h,by simp [← r.length,hi]⟩
  yld:=fun i F H x H' e1 e2 y d hd=>by
    obtain ⟨e,y⟩:=y
    subst e
    obtain ⟨v,q1,q2⟩:=r.get hd
    have:=y vs (SqT.same (e1.trans e2) h)
    rw [q1] at this; cases this
    exact ⟨F,Ext.refl e2,q2.mono e1⟩
  stop:=fun i F H hi e1 e2=>⟨vs,SqT.same (e1.trans e2) h,by rw [← r.length]; exact hi⟩
theorem repL_ints {K:PySem.W.Frag} {H:Hp}:∀ l:List Int,RepL K H (l.map D.int) (l.map V.int)
  | []=>rfl
  | i :: l=>⟨_,_,rfl,rfl,repL_ints l⟩
theorem di_seq {e tg:Expr} {f:DS→M VR} (h:DE X F0 H0 xq e f):DI X F0 H0 xq tg e (dIter f):=.mk fun pins s σ H R I q=>by
  refine pi_seq h.h pins s σ H R I ?_
  obtain ⟨F,S,sk,o⟩:=q
  refine ⟨F,S,sk,outE.bind (G:=fun F H z=>outI X.K xq F H R z) (fun {F H F' H' z} e h=>?_) (fun _ _ h=>h) (fun _ _ _ h=>h) o fun r v F1 H1 e1 q1 o1=>?_⟩
  · match z,h with
    | some (.error c),h=>exact fun H2 s=>h H2 (e.hh.trans s)
    | some (.ok r),h=>exact fun v F2 H2 e2 q=>h v F2 H2 (e.trans e2) q
  · cases r with
    | bor l=>exact False.elim o1
    | bod ks l=>exact False.elim o1
    | ok d=>
      cases d with
      | tup l=>
        obtain ⟨a,vs,rfl,ht,rl⟩:=q1
        exact ⟨a,rfl,.inr ⟨⟨vs,SqT.same e1.fh ht⟩,o1 _ F1 H1 (Ext.refl e1.fh) (ItOk.ofT ht rl)⟩⟩
      | lst l=>
        obtain ⟨a,vs,rfl,ht,rl⟩:=q1
        exact ⟨a,rfl,.inl ⟨⟨vs,SqL.of (e1.fh _ _ ht)⟩,o1 _ F1 H1 (Ext.refl e1.fh) (ItOk.ofL (SqL.of ht) rl)⟩⟩
      | scr l=>
        obtain ⟨a,rfl,ht⟩:=q1
        exact ⟨a,rfl,.inl ⟨⟨_,e1.fh.seq ht⟩,o1 _ F1 H1 (Ext.refl e1.fh) (ItOk.ofL ht (repL_ints l))⟩⟩
      | _=>exact False.elim o1
noncomputable def rangeD (lo hi:Int):List D:=(List.range (hi - lo).toNat).map fun k=>.int (lo + (k:Nat))
theorem ItOk.range {K:PySem.W.Frag} {Fb:Hp} (lo hi:Int):ItOk K (Itr lo (hi - lo).toNat) Fb (rangeD lo hi) where
  go:=fun i F H hi' e1 e2=>by
    show i < (hi - lo).toNat
    unfold rangeD at hi'
    rw [List.length_map,List.length_range] at hi'
    exact hi'
  yld:=fun i F H x H' e1 e2 y d hd=>by
    obtain ⟨e,y⟩:=y
    subst e y
    unfold rangeD at hd
    rw [List.getElem?_map] at hd
    cases z:(List.range (hi - lo).toNat)[i]? with
    | none=>rw [z] at hd; cases hd
    | some k=>
      rw [z] at hd
      have ek:i=k:=by
        have:=List.getElem?_eq_some_iff.mp z
        obtain ⟨h1,h2⟩:=this
        simpa using h2
      subst ek
      have hd':D.int (lo + (i:Nat))=d:=Option.some.inj hd
      subst hd'
      exact ⟨F,Ext.refl e2,rfl⟩
  stop:=fun i F H hi' e1 e2=>by
    show (hi - lo).toNat ≤ i
    unfold rangeD at hi'
    rw [List.length_map,List.length_range] at hi'
    exact hi'
noncomputable def rOk (j:Int):Bool:=decide (-1000000000 ≤ j) && decide (j ≤ 1000000000)
theorem rOk_iff {j:Int} (h:rOk j=true):-(2 ^ 62) ≤ j∧j < 2 ^ 62:=by
  unfold rOk at h
  rw [Bool.and_eq_true] at h
  have h1:=of_decide_eq_true h.1
  have h2:=of_decide_eq_true h.2
  (clear h; omega)
noncomputable def dRange1 (fs:DS→M (List VR)):DS→M (List D):=fun S=>mb (fs S) fun rs=>match rs with
  | [.ok (.int j)]=>if rOk j=true then some (.ok (rangeD 0 j)) else none
  | _=>none
noncomputable def dRange2 (fs:DS→M (List VR)):DS→M (List D):=fun S=>mb (fs S) fun rs=>match rs with
  | [.ok (.int i),.ok (.int j)]=>if rOk i=true∧rOk j=true then some (.ok (rangeD i j)) else none
  | _=>none
theorem outI.step {K:PySem.W.Frag} {F H F' H':Hp} {R:It→Hp→Prop} {z:M (List D)} (e:Ext F H F' H') (h:outI K xq F H R z):outI K xq F' H' R z:=by
  match z,h with
  | some (.error c),h=>exact fun H2 s=>h H2 (e.hh.trans s)
  | some (.ok r),h=>exact fun v F2 H2 e2 q=>h v F2 H2 (e.trans e2) q
theorem di_range1 {a tg:Expr} {p:Pos} {fs:DS→M (List VR)} (hg:Gl X "range") (hm:X.mg "range" = none) (h:DA X F0 H0 xq [a] fs) (hs:starEach [a] X.env=[(false,eval a X.env)]:=by rfl):DI X F0 H0 xq tg (.Call (.Name "range" p) [a] [] pos) (dRange1 fs):=.mk fun pins s σ H R I q=>by
  refine pi_range1 hg hm h.h hs pins s σ H R I ?_
  obtain ⟨F,S,sk,o⟩:=q
  refine ⟨F,S,sk,outA.bind (G:=fun F H z=>outI X.K xq F H R z) (fun e h=>h.step e) (fun _ _ h=>h) (fun _ _ _ h=>h) o fun rs vs F1 H1 e1 q1 o1=>?_⟩
  have key:∃ j,rs=[.ok (.int j)]:=by
    cases rs with
    | nil=>exact False.elim o1
    | cons r1 rs=>
      cases r1 with
      | bor l=>exact False.elim o1
      | bod ks l=>exact False.elim o1
      | ok d=>
        cases d with
        | int j=>
          cases rs with
          | nil=>exact ⟨j,rfl⟩
          | cons r2 rs=>exact False.elim o1
        | _=>exact False.elim o1
  · obtain ⟨j,rfl⟩:=key
    obtain ⟨v,t,rfl,q2,rfl⟩:=q1
    obtain rfl:v=.int j:=q2
    have o2:outI X.K xq F1 H1 R (if rOk j=true then some (.ok (rangeD 0 j)) else none):=o1
    by_cases hj:rOk j=true
    · rw [if_pos hj] at o2
      have b:=rOk_iff hj
      have:=o2 (Itr 0 (j - 0).toNat) F1 H1 (Ext.refl e1.fh) (ItOk.range 0 j)
      rw [Int.sub_zero] at this
      exact ⟨j,rfl,b.1,b.2,this⟩
    · rw [if_neg hj] at o2; exact False.elim o2
theorem di_range2 {a b tg:Expr} {p:Pos} {fs:DS→M (List VR)} (hg:Gl X "range") (hm:X.mg "range" = none) (h:DA X F0 H0 xq [a,b] fs) (hs:starEach [a,b] X.env=[(false,eval a X.env),(false,eval b X.env)]:=by rfl) (hs2:starEach [b] X.env=[(false,eval b X.env)]:=by rfl) :
    DI X F0 H0 xq tg (.Call (.Name "range" p) [a,b] [] pos) (dRange2 fs):=.mk fun pins s σ H R I q=>by
  refine pi_range2 hg hm h.h hs hs2 pins s σ H R I ?_
  obtain ⟨F,S,sk,o⟩:=q
  refine ⟨F,S,sk,outA.bind (G:=fun F H z=>outI X.K xq F H R z) (fun e h=>h.step e) (fun _ _ h=>h) (fun _ _ _ h=>h) o fun rs vs F1 H1 e1 q1 o1=>?_⟩
  have key:∃ i j,rs=[.ok (.int i),.ok (.int j)]:=by
    cases rs with
    | nil=>exact False.elim o1
    | cons r1 rs=>
      cases r1 with
      | bor l=>exact False.elim o1
      | bod ks l=>exact False.elim o1
      | ok d=>
        cases d with
        | int i=>
          cases rs with
          | nil=>exact False.elim o1
          | cons r2 rs=>
            cases r2 with
            | bor l=>exact False.elim o1
            | bod ks l=>exact False.elim o1
            | ok d2=>
              cases d2 with
              | int j=>
                cases rs with
                | nil=>exact ⟨i,j,rfl⟩
                | cons r3 rs=>exact False.elim o1
              | _=>exact False.elim o1
        | _=>exact False.elim o1
  · obtain ⟨i,j,rfl⟩:=key
    obtain ⟨v,t,rfl,q2,v',t',rfl,q3,rfl⟩:=q1
    obtain rfl:v=.int i:=q2
    obtain rfl:v'=.int j:=q3
    have o2:outI X.K xq F1 H1 R (if rOk i=true∧rOk j=true then some (.ok (rangeD i j)) else none):=o1
    by_cases hj:rOk i=true∧rOk j=true
    · rw [if_pos hj] at o2
      have b1:=rOk_iff hj.1
      have b2:=rOk_iff hj.2
      exact ⟨i,j,rfl,⟨b1.1,b1.2,b2.1,b2.2⟩,o2 (Itr i (j - i).toNat) F1 H1 (Ext.refl e1.fh) (ItOk.range i j)⟩
    · rw [if_neg hj] at o2; exact False.elim o2
end
noncomputable def loopD (set:D→DS→Option DS) (g:DS→Option Fl):List D→DS→Option Fl
  | [],S=>some (.next S)
  | d :: r,S=>match set d S with
    | none=>none
    | some S1=>match g S1 with
      | some (.next S2)=>loopD set g r S2
      | some (.cont S2)=>loopD set g r S2
      | some (.brk S2)=>some (.next S2)
      | x=>x
noncomputable def dFor (f:DS→M (List D)) (set:D→DS→Option DS) (g:DS→Option Fl):DS→Option Fl:=fun S=>match f S with
  | none=>none
  | some (.error c)=>some (.ex c)
  | some (.ok ds)=>loopD set g ds S
noncomputable def whileD (c:DS→M Bool) (g:DS→Option Fl):Nat→DS→Option Fl
  | 0,_=>none
  | n + 1,S=>match c S with
    | none=>none
    | some (.error e)=>some (.ex e)
    | some (.ok false)=>some (.next S)
    | some (.ok true)=>match g S with
      | some (.next S2)=>whileD c g n S2
      | some (.cont S2)=>whileD c g n S2
      | some (.brk S2)=>some (.next S2)
      | x=>x
section
variable {K:PySem.W.Frag} {F0 H0 F1 H1 F H:Hp} {σ:St} {S:DS} {xq:Addr→Hp→Prop} {Dn:Ends}
theorem StOk.base (s:StOk K F0 H0 F H σ S):StOk K F H0 F H σ S:=⟨⟨Same.refl _,s.ext.hh,s.ext.fh,fun _ _ _ e=>e⟩,s.len,s.val,s.own,s.sep,s.owd,s.sepd⟩
theorem Ext.rebase (e:Ext F0 H0 F1 H1) (s:Ext F1 H0 F H):Ext F0 H0 F H:=⟨e.ff.trans s.ff,s.hh,s.fh,fun a xs h f=>s.new a xs h (e.new a xs h f)⟩
theorem StOk.rebase (e:Ext F0 H0 F1 H1) (s:StOk K F1 H0 F H σ S):StOk K F0 H0 F H σ S:=⟨e.rebase s.ext,s.len,s.val,s.own,s.sep,s.owd,s.sepd⟩
theorem outS.rebase {x:Option Fl} (e:Ext F0 H0 F1 H1) (o:outS K F0 H0 xq Dn x):outS K F1 H0 xq Dn x:=by
  match x,o with
  | some (.next S),o=>exact fun σ F H s=>o σ F H (s.rebase e)
  | some (.brk S),o=>exact fun σ F H s=>o σ F H (s.rebase e)
  | some (.cont S),o=>exact fun σ F H s=>o σ F H (s.rebase e)
  | some (.ret d),o=>exact fun v F H s r=>o v F H (e.rebase s) r
  | some (.ex c),o=>exact o
end
section
variable {X:Cx} {F0 H0:Hp} {xq:Addr→Hp→Prop} {pos:Pos}
theorem ds_for {tg iter:Expr} {body:List Stmt} {f:DS→M (List D)} {set:D→DS→Option DS} {g:DS→Option Fl} (hp:PassesOwn (model X.prog X.w) X.A X.env X.xe) (hc:X.calm=true) (hi:DI X F0 H0 xq tg iter f)
    (hg:∀ F0,DG X F0 H0 tg set) (hb:∀ F0,DSs X F0 H0 xq body g) (hs:∀ x,foldedSetIterable iter X.env x=pure x:=by intro _; rfl):DS1 X F0 H0 xq (.For tg iter body [] pos) (dFor f set g):=.mk fun pins s σ H Dn I q=>by
  obtain ⟨F,S,sk,o⟩:=q
  have key:∀ F1,PS X (.For tg iter body [] pos) (tFor (tI X.K F0 H0 xq f) (tG X.K F1 H0 set) (tS X.K F1 H0 xq g)):=fun F1=>ps_for hp hc hi.h (hg F1).h (hb F1).h hs
  -- the base of the loop is the kept part at its start,which is known only behind the source: so the rule is taken at every base
  refine ps_for (g:=fun v σ H Q=>∃ F1,tG X.K F1 H0 set v σ H Q) (tb:=fun Dn σ H=>∃ F1,tS X.K F1 H0 xq g Dn σ H) hp hc hi.h (fun pins s σ H v u Q I r ⟨F1,h⟩=>(hg F1).h pins s σ H v u Q I r h) (fun pins s σ H Dn I ⟨F1,h⟩=>(hb F1).h pins s σ H Dn I h) hs pins s σ H Dn I ?_
  refine ⟨F,S,sk,?_⟩
  unfold dFor at o
  cases z:f S with
  | none=>rw [z] at o; exact False.elim o
  | some y=>
    rw [z] at o
    cases y with
    | error c=>exact fun H' s=>o H' (sk.ext.hh.trans s)
    | ok ds=>
      intro J F1 H1 e it
      have ex:=sk.ext.trans e
      have o1:outS X.K F1 H0 xq Dn (loopD set g ds S):=outS.rebase ex o
      refine ⟨fun i m σ' H'=>m=ds.length - i∧i ≤ ds.length∧∃ F' S',StOk X.K F1 H0 F' H' σ' S'∧outS X.K F1 H0 xq Dn (loopD set g (ds.drop i) S'),⟨ds.length,by simp,Nat.zero_le _,F1,S,(sk.step e).base,by simpa using o1⟩,?_⟩
      rintro i m σ' H' ⟨rfl,hi',F',S',sk',o'⟩
      by_cases hlt:i < ds.length
      · have hd:ds.drop i=ds[i] :: ds.drop (i + 1):=List.drop_eq_getElem_cons hlt
        rw [hd] at o'
        refine .inr ⟨it.go i F' H' hlt sk'.ext.ff sk'.ext.fh,fun σ2 H2=>∃ F2 S2,StOk X.K F1 H0 F2 H2 σ2 S2∧outS X.K F1 H0 xq Dn (loopD set g (ds.drop (i + 1)) S2),fun σ2 H2 n=>⟨ds.length - (i + 1),by (clear n hd o' sk' hi' o1 ex it e z o key sk I hs hb hg hi hc hp; omega),rfl,hlt,n⟩,fun x H2 y=>?_⟩
        obtain ⟨F2,e2,r2⟩:=it.yld i F' H' x H2 sk'.ext.ff sk'.ext.fh y ds[i] (List.getElem?_eq_getElem hlt)
        refine ⟨F1,F2,S',ds[i],sk'.step e2,r2,?_⟩
        unfold loopD at o'
        cases z1:set ds[i] S' with
        | none=>rw [z1] at o'; exact o'
        | some S1=>
          rw [z1] at o'
          intro σ3 F3 H3 _ sk3
          refine ⟨F1,F3,S1,sk3,?_⟩
          simp only at o'
          cases z2:g S1 with
          | none=>rw [z2] at o'; exact o'
          | some fl=>
            rw [z2] at o'
            cases fl with
            | next S2=>exact fun σ4 F4 H4 sk4=>⟨F4,S2,sk4,o'⟩
            | cont S2=>exact fun σ4 F4 H4 sk4=>⟨F4,S2,sk4,o'⟩
            | brk S2=>exact fun σ4 F4 H4 sk4=>o' σ4 F4 H4 sk4
            | ret d=>exact o'
            | ex c=>exact o'
      · have ei:i=ds.length:=by (clear o' sk' o1 ex it e z o key sk I hs hb hg hi hc hp; omega)
        subst ei
        rw [List.drop_length] at o'
        exact .inl ⟨it.stop _ F' H' (Nat.le_refl _) sk'.ext.ff sk'.ext.fh,o' σ' F' H' sk'⟩
theorem ds_while (n:Nat) {c:Expr} {body:List Stmt} {t:DS→M Bool} {g:DS→Option Fl} (hp:PassesOwn (model X.prog X.w) X.A X.env X.xe) (hc:DT X F0 H0 xq c t) (hb:DSs X F0 H0 xq body g):DS1 X F0 H0 xq (.While c body [] pos) (whileD t g n):=.mk fun pins s σ H Dn I q=>by
  obtain ⟨F,S,sk,o⟩:=q
  refine ps_while hp hc.h hb.h pins s σ H Dn I ?_
  refine ⟨fun m σ' H'=>∃ F' S',StOk X.K F0 H0 F' H' σ' S'∧outS X.K F0 H0 xq Dn (whileD t g m S'),⟨n,F,S,sk,o⟩,?_⟩
  rintro m σ1 H1 ⟨F1,S1,sk1,o1⟩
  cases m with
  | zero=>exact False.elim o1
  | succ m=>
    refine ⟨F1,S1,sk1,?_⟩
    unfold whileD at o1
    cases z:t S1 with
    | none=>rw [z] at o1; exact False.elim o1
    | some y=>
      rw [z] at o1
      cases y with
      | error c=>exact fun H' s=>o1 H' (sk1.ext.hh.trans s)
      | ok b=>
        intro F2 H2 e2
        cases b with
        | false=>rw [if_neg Bool.false_ne_true]; exact o1 _ F2 H2 (sk1.step e2)
        | true=>
          rw [if_pos rfl]
          refine ⟨fun σ' H'=>∃ F' S',StOk X.K F0 H0 F' H' σ' S'∧outS X.K F0 H0 xq Dn (whileD t g m S'),fun σ' H' w=>⟨m,Nat.lt_succ_self _,w⟩,F2,S1,sk1.step e2,?_⟩
          simp only at o1
          cases z2:g S1 with
          | none=>rw [z2] at o1; exact o1
          | some fl=>
            rw [z2] at o1
            cases fl with
            | next S2=>exact fun σ4 F4 H4 sk4=>⟨F4,S2,sk4,o1⟩
            | cont S2=>exact fun σ4 F4 H4 sk4=>⟨F4,S2,sk4,o1⟩
            | brk S2=>exact fun σ4 F4 H4 sk4=>o1 σ4 F4 H4 sk4
            | ret d=>exact o1
            | ex c=>exact o1
end
noncomputable def startD (N:List Str) (ds:List D):DS:=ds.map (fun d=>some (Slot.val d)) ++ List.replicate (N.length - ds.length) none
noncomputable def fin:Option Fl→M D
  | some (.next _)=>some (.ok .non)
  | some (.ret d)=>some (.ok d)
  | some (.ex c)=>some (.error c)
  | _=>none
theorem start_ok {K:PySem.W.Frag} {F H:Hp} {N:List Str} {ds:List D} {vs:List V} (fh:Same F H) (r:RepL K F ds vs):StOk K F H F H (L2.start N vs) (startD N ds):=by
  have hl:=r.length
  have cut:∀ (i:Nat) (sl:Slot),(startD N ds)[i]?=some (some sl)→∃ d,ds[i]?=some d∧sl=.val d:=fun i sl h=>by
    unfold startD at h
    by_cases hi:i < ds.length
    · rw [List.getElem?_append_left (by simpa using hi),List.getElem?_map] at h
      cases z:ds[i]? with
      | none=>rw [z] at h; cases h
      | some d=>
        rw [z] at h
        have:some (Slot.val d)=some sl:=Option.some.inj h
        exact ⟨d,rfl,(Option.some.inj this).symm⟩
    · rw [List.getElem?_append_right (by simpa using hi),List.getElem?_replicate] at h
      split at h <;> cases h
  refine ⟨Ext.refl fh,?_,fun i d h=>?_,fun i l h=>?_,fun i j l l' a ne h1 h2 h3 h4=>?_,fun i ks l h=>?_,fun i j ks ks' l l' a ne h1 h2 h3 h4=>?_⟩
  · unfold startD L2.start
    rw [List.length_append,List.length_append,List.length_map,List.length_map,List.length_replicate,List.length_replicate,hl]
  · obtain ⟨d',e,q⟩:=cut i _ h
    injection q with q; subst q
    obtain ⟨v,e2,r2⟩:=r.get e
    refine ⟨v,?_,r2⟩
    unfold L2.start
    have hi:i < vs.length:=by
      rcases Nat.lt_or_ge i vs.length with h1 | h1
      · exact h1
      · rw [List.getElem?_eq_none h1] at e2; cases e2
    rw [List.getElem?_append_left (by simpa using hi),List.getElem?_map,e2]
    rfl
  · obtain ⟨d',e,q⟩:=cut i _ h
    cases q
  · obtain ⟨d',e,q⟩:=cut i _ h1
    cases q
  · obtain ⟨d',e,q⟩:=cut i _ h
    cases q
  · obtain ⟨d',e,q⟩:=cut i _ h1
    cases q
theorem spM_len {K:PySem.W.Frag} {n:Nat} {m:List D→M D} {vs:List V} {H:Hp} {Q:VK} {E:XK} (h:spM K n m vs H Q E):vs.length=n:=by
  obtain ⟨F,ds,_,r,l,_⟩:=h
  rw [← r.length]; exact l
noncomputable abbrev noX:Addr→Hp→Prop:=fun _ _=>False
theorem Fun.d {P:Program} {w:World} {K:PySem.W.Frag} {mg:Str→Option Value} {base:Heap} {x qual:Str} {st:Stmt} {f:Addr} {fd:FuncData} {N ps:List Str} {k:Nat} {m:List D→M D} {g:DS→Option Fl} (F:Fun K x qual st f fd) (Sc:FnScope N ps (defScope st))
    (hb:∀ (cdv:Value) (A:Around) (outer:List Env) (s:Shared) (H:Hp) (E:XK),Room k (A.deeper (envOfC qual (defScope st) s.heap.objs.size f cdv))→∀ F0 H0:Hp,DSs (cxOf CX0 P w K mg base N qual (defScope st) f cdv A outer s H E).nox F0 H0 noX (defBody st) g)
    (hg:∀ ds r,ds.length=ps.length→m ds=some r→∃ d,r=.ok d∧fin (g (startD N ds))=some (.ok d)):FnOk P w K mg base CX0 (k + 1) f fd ps (spM K ps.length m):=by
  refine F.ok Sc (fun vs H Q E h=>spM_len h) fun cdv A outer s H vs Q E hr h=>?_
  obtain ⟨F1,ds,fh,r,l,o⟩:=h
  refine ⟨_,(hb cdv A outer s H E hr F1 H).h,F1,startD N ds,start_ok fh r,?_⟩
  cases z:m ds with
  | none=>rw [z] at o; exact False.elim o
  | some y=>
    rw [z] at o
    obtain ⟨d,rfl,e⟩:=hg ds y l z
    cases q:g (startD N ds) with
    | none=>rw [q] at e; cases e
    | some fl=>
      rw [q] at e
      cases fl with
      | next S=>
        have ed:D.non=d:=by injection e with e; injection e
        subst ed
        exact fun σ' F' H' sk=>o .non F' H' sk.ext rfl
      | ret d'=>
        have ed:d'=d:=by injection e with e; injection e
        subst ed
        exact fun v F' H' ex rp=>o v F' H' ex rp
      | brk S=>cases e
      | cont S=>cases e
      | ex c=>injection e with e; cases e
theorem Fun.fnd {P:Program} {w:World} {K:PySem.W.Frag} {mg:Str→Option Value} {base:Heap} {CX:CXT} {k:Nat} {x:Str} {f:Addr} {fd:FuncData} {ps:List Str} {m:List D→M D} (hm:mg x=some (.ref f)) (hk:PySem.W.keepIn K (.ref f)=true) (hb:Binds K fd ps []) (G:FnOk P w K mg base CX k f fd ps (spM K ps.length m)) :
    FnD P w K mg base CX k x ps.length m:=⟨f,fd,ps,hm,hk,hb,rfl,G⟩
theorem FnD.mono {P:Program} {w:World} {K:PySem.W.Frag} {mg:Str→Option Value} {base:Heap} {CX:CXT} {j k n:Nat} {x:Str} {m:List D→M D} (h:FnD P w K mg base CX j x n m) (le:j ≤ k):FnD P w K mg base CX k x n m:=
  let ⟨f,fd,ps,h1,h2,h3,h4,h5⟩:=h.ex; ⟨f,fd,ps,h1,h2,h3,h4,h5.mono le⟩
end PF
set_option Elab.async false
set_option linter.all false
set_option maxRecDepth 100000
set_option maxHeartbeats 4000000
namespace PF
open PySem PySem.Spec L2
open PyProof.Rows hiding St
noncomputable def cloOf (cells:List (Str × Addr)):List (Str × NameKind)→List (Str × Addr)→List (Str × Addr)
  | [],acc=>acc
  | (n,k) :: r,acc=>if (k == NameKind.free)=true then (match cells.lookup n with
    | some c=>cloOf cells r ((n,c) :: acc)
    | none=>cloOf cells r acc) else cloOf cells r acc
theorem cloOf_mem (cells:List (Str × Addr)):∀ (ns:List (Str × NameKind)) (acc:List (Str × Addr)),(∀ p ∈ acc,cells.lookup p.1=some p.2)→∀ p ∈ cloOf cells ns acc,cells.lookup p.1=some p.2
  | [],acc,h=>h
  | (n,k) :: r,acc,h=>by
    unfold cloOf
    split
    · split
      · rename_i c e
        exact cloOf_mem cells r _ fun p hp=>by
          rcases List.mem_cons.mp hp with rfl | hp
          · exact e
          · exact h p hp
      · exact cloOf_mem cells r acc h
    · exact cloOf_mem cells r acc h
theorem cloOf_acc (cells:List (Str × Addr)):∀ (ns:List (Str × NameKind)) (acc:List (Str × Addr)) (p:Str × Addr),p ∈ acc→p ∈ cloOf cells ns acc
  | [],acc,p,h=>h
  | (n,k) :: r,acc,p,h=>by
    unfold cloOf
    split
    · split
      · exact cloOf_acc cells r _ p (List.mem_cons_of_mem _ h)
      · exact cloOf_acc cells r acc p h
    · exact cloOf_acc cells r acc p h
theorem cloOf_has (cells:List (Str × Addr)):∀ (ns:List (Str × NameKind)) (acc:List (Str × Addr)) (x:Str) (c:Addr),(x,NameKind.free) ∈ ns→cells.lookup x=some c→(x,c) ∈ cloOf cells ns acc
  | [],_,_,_,h,_=>by simp at h
  | (n,k) :: r,acc,x,c,h,e=>by
    unfold cloOf
    rcases List.mem_cons.mp h with q | q
    · cases q
      rw [if_pos (by decide),e]
      exact cloOf_acc cells r _ _ List.mem_cons_self
    · split
      · split
        · exact cloOf_has cells r _ x c q e
        · exact cloOf_has cells r _ x c q e
      · exact cloOf_has cells r _ x c q e
theorem closureFor_eq {scope:Scope} {env:Env} (h:∀ x ∈ scope.names,x.2=.free→∃ c,env.cells.lookup x.1=some c):closureFor scope env=pure (cloOf env.cells scope.names []):=by
  have go:∀ (ns:List (Str × NameKind)) (acc:List (Str × Addr)),(∀ x ∈ ns,x.2=.free→∃ c,env.cells.lookup x.1=some c)→
      (forIn ns acc (fun (x:Str × NameKind) (r:List (Str × Addr))=>(do
        if (x.2 == NameKind.free)=true then
          let c ← cellOf env x.1
          pure (ForInStep.yield ((x.1,c) :: r))
        else pure (ForInStep.yield r):Sem (ForInStep (List (Str × Addr))))))=(pure (cloOf env.cells ns acc):Sem (List (Str × Addr))):=by
    intro ns
    induction ns with
    | nil=>intro acc _; rfl
    | cons x r ih=>
      intro acc hx
      obtain ⟨n,k⟩:=x
      rw [List.forIn_cons]
      unfold cloOf
      by_cases hk:(k == NameKind.free)=true
      · obtain ⟨c,e⟩:=hx (n,k) List.mem_cons_self (by simpa using hk)
        have e':env.cells.lookup n=some c:=e
        simp only [hk,if_true,e',cellOf,pure_bind]
        exact ih _ fun y hy=>hx y (List.mem_cons_of_mem _ hy)
      · simp only [hk,if_false,pure_bind]
        exact ih _ fun y hy=>hx y (List.mem_cons_of_mem _ hy)
  have:=go scope.names [] h
  unfold closureFor
  simp only [bind_pure]
  exact this
theorem lookup_of_mem {cells l:List (Str × Addr)} (h:∀ p ∈ l,cells.lookup p.1=some p.2):∀ {x:Str} {c:Addr},(x,c) ∈ l→l.lookup x=some c:=by
  induction l with
  | nil=>intro x c q; simp at q
  | cons p l ih=>
    intro x c q
    obtain ⟨n,d⟩:=p
    rw [List.lookup_cons]
    by_cases e:(x == n)=true
    · rw [e]
      have en:x=n:=by simpa using e
      subst en
      have h1:cells.lookup x=some d:=h (x,d) List.mem_cons_self
      have h2:=h (x,c) q
      rw [h1] at h2
      exact h2
    · have e':(x == n)=false:=by simpa using e
      rw [e']
      rcases List.mem_cons.mp q with z | z
      · injection z with z1 z2
        exact absurd (by simp [z1]) e
      · exact ih (fun p hp=>h p (List.mem_cons_of_mem _ hp)) z
noncomputable def CapsOk (X:Cx) (scope:Scope):List Nat→List Str→Prop
  | [],[]=>True
  | j :: js,x :: xs=>X.N[j]?=some x∧(X.env.kindOf x=some .cell∨X.env.kindOf x=some .free)∧(x,NameKind.free) ∈ scope.names∧((relabel scope X.env).names.lookup x=some .cell∨(relabel scope X.env).names.lookup x=some .free)∧CapsOk X scope js xs
  | _,_=>False
noncomputable def compX (X:Cx) (N':List Str) (scope:Scope) (C:Addr) (s:Shared) (H:Hp) (ex:List Addr):Cx:=
  { X with N:=N',s₀:=s,H₀:=H,env:=compEnvC scope (cloOf X.env.cells scope.names []) C X.env,outer:=X.stack,stack:=X.stack,ex:=ex,fn:=fun _=>false,pn:=[],xe:=fun _ _=>False }
section
variable {prog:Program} {w:World} {A:Around} {R:Result→Shared→Prop} {s:Shared}
theorem compLoop_go {elt target iter:Expr} {ifs:List Expr} {scope:Scope} {pos:Pos} {it acc:Value} {env:Env} (I:Nat→Shared→Prop)
    (turn:∀ n s,I n s→wpAny (model prog w) A (pyNext it) (fun r s₁=>match r with
      | none=>R (.ok .next) s₁
      | some v=>wpAny (model prog w) A (letOwnedTupleGo target it v) (fun _ s₁'=>wpAny (model prog w) A (assign target env v) (fun _ s₂=>
          wpAny (model prog w) A (forIn ifs true fun c r=>if r=true then do let ok ← isTrue c env (eval c env); pure (ForInStep.yield ok) else pure (ForInStep.yield r)) (fun ok s₃=>
            if ok=true then wpAny (model prog w) A (eval elt env) (fun x s₄=>
              wpAny (model prog w) A (call (.builtin "list.append") [acc,x]) (fun _ s₅=>∃ m,m < n∧I m s₅) (fun _ _=>False) s₄) (fun _ _=>False) s₃
            else ∃ m,m < n∧I m s₃) (fun _ _=>False) s₂) (fun _ _=>False) s₁') (fun _ _=>False) s₁) (fun _ _=>False) s)
    (n:Nat) (h:I n s):codeAny (model prog w) A (.compLoop (.ListComp elt [⟨target,iter,ifs,0⟩] scope pos) 0 it acc env) R s:=by
  refine codeAny_loop rfl I (fun n s hI=>?_) n h
  show wpAny _ A ((compTurn (.ListComp elt [⟨target,iter,ifs,0⟩] scope pos) 0 it acc env).onRaise (fun x=>do noteFrame x env; theTreesLotGoes x)) _ _ s
  refine wpAny_noted ?_
  rw [compTurn_list]
  refine wpAny_bind (wpAny_standAt (wpAny_bind (wpAny_mono (turn n s hI) (fun r s₁ h₁=>?_) fun _ _ h'=>h'.elim)))
  cases r with
  | none=>exact wpAny_pure h₁
  | some v=>
    refine wpAny_bind (wpAny_mono h₁ (fun _ s₁' h₁'=>wpAny_bind (wpAny_mono h₁' (fun _ s₂ h₂=>wpAny_bind (wpAny_mono h₂ (fun ok s₃ h₃=>?_) fun _ _ h'=>h'.elim)) fun _ _ h'=>h'.elim)) fun _ _ h'=>h'.elim)
    cases ok with
    | false=>exact wpAny_pure ⟨rfl,h₃⟩
    | true=>
      exact wpAny_bind (wpAny_bind (wpAny_mono h₃ (fun x s₄ h₄=>wpAny_bind (wpAny_mono h₄ (fun _ s₅ h₅=>wpAny_pure (wpAny_pure ⟨rfl,h₅⟩)) fun _ _ h'=>h'.elim)) fun _ _ h'=>h'.elim))
end
noncomputable def cap {α:Type} (nt:Nat) (caps:List Nat) (l:List (Option α)):List (Option α):=List.replicate nt none ++ caps.map fun j=>(l[j]?).join
theorem cap_get {α:Type} {nt:Nat} {caps:List Nat} {l:List (Option α)} {i:Nat} {v:α} (h:(cap nt caps l)[i]?=some (some v)):∃ k j,i=nt + k∧caps[k]?=some j∧l[j]?=some (some v):=by
  unfold cap at h
  by_cases hi:i < nt
  · rw [List.getElem?_append_left (by simpa using hi),List.getElem?_replicate] at h
    split at h <;> cases h
  · rw [List.getElem?_append_right (by simpa using hi),List.length_replicate,List.getElem?_map] at h
    cases z:caps[i - nt]? with
    | none=>rw [z] at h; cases h
    | some j=>
      rw [z] at h
      have h':(l[j]?).join=some v:=Option.some.inj h
      refine ⟨i - nt,j,by (clear h' z h; omega),z,?_⟩
      cases y:l[j]? with
      | none=>rw [y] at h'; cases h'
      | some o=>rw [y] at h'; cases o with
        | none=>cases h'
        | some u=>
          have:u=v:=Option.some.inj h'
          rw [this]
theorem CapsOk.get {X:Cx} {scope:Scope}:∀ {caps:List Nat} {cn:List Str} {k j:Nat},CapsOk X scope caps cn→caps[k]?=some j→
    ∃ x,cn[k]?=some x∧X.N[j]?=some x∧(X.env.kindOf x=some .cell∨X.env.kindOf x=some .free)∧(x,NameKind.free) ∈ scope.names∧((relabel scope X.env).names.lookup x=some .cell∨(relabel scope X.env).names.lookup x=some .free)
  | [],[],_,_,_,e=>by simp at e
  | [],_ :: _,_,_,h,_=>h.elim
  | _ :: _,[],_,_,h,_=>h.elim
  | j :: js,x :: xs,0,i,h,e=>by
    obtain ⟨h1,h2,h3,h4,_⟩:=h
    simp at e; subst e
    exact ⟨x,rfl,h1,h2,h3,h4⟩
  | j :: js,x :: xs,k + 1,i,h,e=>by
    obtain ⟨_,_,_,_,h⟩:=h
    obtain ⟨y,q⟩:=CapsOk.get h (k:=k) (by simpa using e)
    exact ⟨y,by simpa using q.1,q.2⟩
theorem CapsOk.length {X:Cx} {scope:Scope}:∀ {caps:List Nat} {cn:List Str},CapsOk X scope caps cn→caps.length=cn.length
  | [],[],_=>rfl
  | [],_ :: _,h=>h.elim
  | _ :: _,[],h=>h.elim
  | j :: js,x :: xs,h=>by simp [CapsOk.length h.2.2.2.2]
section
variable {X:Cx} {pins:List (Addr × Obj)} {σ:St} {H:Hp} {s:Shared} {scope:Scope} {N':List Str} {ex:List Addr}
theorem clo_cells {x:Str} {c:Addr} (h:(cloOf X.env.cells scope.names []).lookup x=some c):X.env.cells.lookup x=some c:=
  cloOf_mem X.env.cells scope.names [] (fun p hp=>by simp at hp) (x,c) (PySem.mem_of_lookup h)
theorem clo_has {x:Str} {c:Addr} (h:(x,NameKind.free) ∈ scope.names) (e:X.env.cells.lookup x=some c):(cloOf X.env.cells scope.names []).lookup x=some c:=
  lookup_of_mem (cells:=X.env.cells) (cloOf_mem X.env.cells scope.names [] (fun p hp=>by simp at hp)) (cloOf_has X.env.cells scope.names [] x c h e)
theorem compOk (I:Inv X pins σ H s) (hk:scope.kind=.function) (hcell:∀ y ∈ scope.names,y.2 ≠ .cell) (hfree:∀ y ∈ scope.names,y.2=.free→X.env.kindOf y.1=some .cell∨X.env.kindOf y.1=some .free)
    (hfp:∀ b ∈ ex,FpOk X pins H b) (hob:∀ b ∈ ex,∃ o,s.heap.get? b=some o):(compX X N' scope s.heap.objs.size s H ex).Ok where
  mod:=I.ok.mod
  kind:=hk
  glob:=I.ok.glob
  blt:=I.ok.blt
  above:=Nat.le_refl _
  inj:=fun x y c h1 h2=>I.ok.inj x y c (clo_cells h1) (clo_cells h2)
  has:=fun x hx=>by
    have hx':(relabel scope X.env).names.lookup x=some .cell∨(relabel scope X.env).names.lookup x=some .free:=hx
    have key:(x,NameKind.free) ∈ scope.names:=by
      have back:∀ k',(k'=NameKind.cell∨k'=NameKind.free)→(relabel scope X.env).names.lookup x=some k'→(x,NameKind.free) ∈ scope.names:=fun k' hk' e=>by
        have m:=PySem.mem_of_lookup e
        unfold relabel at m
        obtain ⟨⟨n,k⟩,hm,e2⟩:=List.mem_map.mp m
        by_cases c:(k == NameKind.free && X.env.scope.kind == .function && X.env.kindOf n == some .cell)=true
        · simp only [c,if_true] at e2
          injection e2 with e3 e4
          subst e3
          rw [Bool.and_eq_true,Bool.and_eq_true] at c
          have:k=NameKind.free:=by simpa using c.1.1
          rw [← this]; exact hm
        · simp only [c,if_false] at e2
          injection e2 with e3 e4
          subst e3 e4
          rcases hk' with z | z
          · exact absurd z (hcell _ hm)
          · rw [← z]; exact hm
      rcases hx' with e | e
      · exact back _ (.inl rfl) e
      · exact back _ (.inr rfl) e
    obtain ⟨c,e⟩:=I.ok.has x (hfree _ key rfl)
    exact ⟨c,clo_has key e⟩
  cab:=fun x c h=>by cases (show false=true from h)
  hd:=I.ok.hd
  frames:=I.ok.frames
  stk:=.inl rfl
  exf:=fun b hb=>by
    obtain ⟨o,e⟩:=hob b hb
    exact ⟨Nat.ne_of_lt (Heap.lt_size e),fun x c h=>(hfp b hb).2.2.2.2.1 x c (clo_cells h)⟩
  bs:=I.bs
  bsz:=Nat.le_trans I.ok.bsz I.sz
  noex:=fun b o e hb=>by
    rcases (hfp b hb).2.2.2.1 with z | z
    · exact I.ok.noex b o e z
    · exact absurd (Nat.lt_of_lt_of_le (Heap.lt_size (I.ok.bs b o e).1) z) (Nat.lt_irrefl _)
  exfs:=fun b hb z=>by
    rcases List.mem_cons.mp (I.stkSub b z) with e | e
    · exact (hfp b hb).2.1 e
    · exact (hfp b hb).2.2.1 e
  funs:=I.stack
  frf:=I.stkFree
theorem compInv {nt:Nat} {caps:List Nat} {tn cn:List Str} {h':Heap} {m:Str→Option Value} {tk:Nat} (I:Inv X pins σ H s) (hk:scope.kind=.function) (hcell:∀ y ∈ scope.names,y.2 ≠ .cell)
    (hfree:∀ y ∈ scope.names,y.2=.free→X.env.kindOf y.1=some .cell∨X.env.kindOf y.1=some .free) (hfp:∀ b ∈ ex,FpOk X pins H b) (hob:∀ b ∈ ex,∃ o,s.heap.get? b=some o) (htn:tn.length=nt) (hcap:CapsOk X scope caps cn)
    (hn:h'.Ns s.heap.objs.size m) (k:∀ b o,s.heap.get? b=some o→h'.get? b=some o) :
    Inv (compX X (tn ++ cn) scope s.heap.objs.size s H ex) [] (cap nt caps σ) H { s with heap:=h',toks:=tk }:=by
  refine ⟨compOk I hk hcell hfree hfp hob,rfl,I.bare,Un.kept k,⟨m,hn,fun i x v h1 h2 h3=>?_⟩,fun x c h=>?_,I.hok.fresh (Nat.le_refl _),fun x c h=>I.freeC x c (clo_cells h),fun p hp=>absurd (show p ∈ ([]:List (Addr × Obj)) from hp) (by simp),I.hok.kept k,?_⟩
  · obtain ⟨j,i',e,hc,hv⟩:=cap_get h2
    obtain ⟨y,q1,q2,q3,q4,q5⟩:=hcap.get hc
    have ex':y=x:=by
      have h1':(tn ++ cn)[i]?=some x:=h1
      rw [List.getElem?_append_right (by (clear h1' q5 q4 q3 q2 q1 hv hc h3 h2 h1 k hn hcap hob hfp hfree hcell hk I; omega)),e,htn,Nat.add_sub_cancel_left,q1] at h1'
      exact Option.some.inj h1'
    subst ex'
    obtain ⟨m0,_,hl⟩:=I.loc
    have vis:Vis X.env.scope y:=by
      rcases q3 with z | z
      · exact .inr (.inl z)
      · exact .inr (.inr z)
    obtain ⟨u,r,l⟩:=hl i' y v q2 hv vis
    refine ⟨u,r,.inr ⟨q5,?_⟩⟩
    rcases l with ⟨z,_⟩ | ⟨_,c,e1,o,e2,e3⟩
    · rcases q3 with y1 | y1
      · rw [z] at y1; cases y1
      · rw [z] at y1; cases y1
    · exact ⟨c,clo_has q4 e1,o,k _ _ e2,e3⟩
  · obtain ⟨v,o,e1,e2⟩:=I.cell x c (clo_cells h)
    exact ⟨v,o,k _ _ e1,e2⟩
  · show (cap nt caps σ).length=(tn ++ cn).length
    unfold cap
    rw [List.length_append,List.length_append,List.length_replicate,List.length_map,htn,hcap.length]
end
noncomputable def compD (set:D→DS→Option DS) (fc:DS→M Bool) (fe:DS→M VR):List D→DS→Option (List D)
  | [],_=>some []
  | d :: r,S=>match set d S with
    | none=>none
    | some S1=>match fc S1 with
      | some (.ok true)=>match fe S1 with
        | some (.ok (.ok d'))=>(compD set fc fe r S1).map (d' :: ·)
        | _=>none
      | some (.ok false)=>compD set fc fe r S1
      | _=>none
noncomputable def dComp (nt:Nat) (caps:List Nat) (fi:DS→M (List D)) (set:D→DS→Option DS) (fc:DS→M Bool) (fe:DS→M VR):DS→M (List D):=fun S=>mb (fi S) fun ds=>if ds.length ≤ big then (match compD set fc fe ds (cap nt caps S) with
  | some l=>some (.ok l)
  | none=>none) else none
structure DIfs (X:Cx) (F0 H0:Hp) (ifs:List Expr) (fc:DS→M Bool):Prop where
  mk ::
  h:∀ (pins:List (Addr × Obj)) (s:Shared) (σ:St) (H:Hp) (Q:Bool→Hp→Prop),Inv X pins σ H s→tT X.K F0 H0 noX fc σ H Q→
    wpAny (model X.prog X.w) X.A (forIn ifs true fun c r=>if r=true then do let ok ← isTrue c X.env (eval c X.env); pure (ForInStep.yield ok) else pure (ForInStep.yield r)) (TP X pins σ Q) X.xe s
theorem difs_nil {X:Cx} {F0 H0:Hp}:DIfs X F0 H0 [] (fun _=>some (.ok true)):=.mk fun pins s σ H Q I ⟨F,S,sk,o⟩=>wpAny_tests_nil ⟨H,I,o F H (Ext.refl sk.ext.fh)⟩
theorem difs_one {X:Cx} {F0 H0:Hp} {c:Expr} {fc:DS→M Bool} (h:DT X F0 H0 noX c fc):DIfs X F0 H0 [c] fc:=.mk fun pins s σ H Q I q=>wpAny_tests_one (h.h pins s σ H Q I q)
theorem capSt {K:PySem.W.Frag} {F0 H0 F H:Hp} {σ:St} {S:DS} {nt:Nat} {caps:List Nat} (hnd:caps.Nodup) (s:StOk K F0 H0 F H σ S):StOk K F0 H0 F H (cap nt caps σ) (cap nt caps S):=by
  have up:∀ {k j:Nat} {v:V},caps[k]?=some j→σ[j]?=some (some v)→(cap nt caps σ)[nt + k]?=some (some v):=fun {k j v} h1 h2=>by
    unfold cap
    rw [List.getElem?_append_right (by simp),List.length_replicate,Nat.add_sub_cancel_left,List.getElem?_map,h1]
    show some ((σ[j]?).join)=_
    rw [h2]; rfl
  refine ⟨s.ext,?_,fun i d h=>?_,fun i l h=>?_,fun i i' l l' a ne h1 h2 h3 h4=>?_,fun i ks l h=>?_,fun i i' ks ks' l l' a ne h1 h2 h3 h4=>?_⟩
  · unfold cap
    rw [List.length_append,List.length_append,List.length_map,List.length_map,List.length_replicate,List.length_replicate]
  · obtain ⟨k,j,rfl,hc,hv⟩:=cap_get h
    obtain ⟨v,e,r⟩:=s.val j d hv
    exact ⟨v,up hc e,r⟩
  · obtain ⟨k,j,rfl,hc,hv⟩:=cap_get h
    obtain ⟨a,vs,e,r⟩:=s.own j l hv
    exact ⟨a,vs,up hc e,r⟩
  · obtain ⟨k,j,rfl,hc,hv⟩:=cap_get h1
    obtain ⟨k',j',rfl,hc',hv'⟩:=cap_get h2
    obtain ⟨k2,j2,e2,hc2,hv2⟩:=cap_get h3
    obtain ⟨k3,j3,e3,hc3,hv3⟩:=cap_get h4
    have:k2=k:=by (clear hv3 hc3 e3 hv2 hc2 hv' hc' ne h4 h2 hv hc h3 h1 up s hnd; omega)
    subst this
    have:k3=k':=by (clear e2 ne hc h3 h1 hv3 hc3 hv2 hc2 hv' hc' h4 h2 hv up s hnd; omega)
    subst this
    rw [hc] at hc2; cases hc2
    rw [hc'] at hc3; cases hc3
    have nj:j ≠ j':=fun e=>by
      subst e
      obtain ⟨p1,p2⟩:=List.getElem?_eq_some_iff.mp hc
      obtain ⟨p3,p4⟩:=List.getElem?_eq_some_iff.mp hc'
      exact ne (by rw [(List.getElem_inj hnd).mp (p2.trans p4.symm)])
    exact s.sep j j' l l' a nj hv hv' hv2 hv3
  · obtain ⟨k,j,rfl,hc,hv⟩:=cap_get h
    obtain ⟨a,vs,e,r⟩:=s.owd j ks l hv
    exact ⟨a,vs,up hc e,r⟩
  · obtain ⟨k,j,rfl,hc,hv⟩:=cap_get h1
    obtain ⟨k',j',rfl,hc',hv'⟩:=cap_get h2
    obtain ⟨k2,j2,e2,hc2,hv2⟩:=cap_get h3
    obtain ⟨k3,j3,e3,hc3,hv3⟩:=cap_get h4
    have:k2=k:=by (clear hv3 hc3 e3 hv2 hc2 hv' hc' ne h4 h2 hv hc h3 h1 up s hnd; omega)
    subst this
    have:k3=k':=by (clear e2 ne hc h3 h1 hv3 hc3 hv2 hc2 hv' hc' h4 h2 hv up s hnd; omega)
    subst this
    rw [hc] at hc2; cases hc2
    rw [hc'] at hc3; cases hc3
    have nj:j ≠ j':=fun e=>by
      subst e
      obtain ⟨p1,p2⟩:=List.getElem?_eq_some_iff.mp hc
      obtain ⟨p3,p4⟩:=List.getElem?_eq_some_iff.mp hc'
      exact ne (by rw [(List.getElem_inj hnd).mp (p2.trans p4.symm)])
    exact s.sepd j j' ks ks' l l' a nj hv hv' hv2 hv3
theorem comp_core (use:Option (Value→Sem Unit)) (RQ:Value→Shared→Prop) (G:Hp→Hp→M (List D)→Prop) (nt:Nat) (caps:List Nat) (tn cn:List Str) {X:Cx} {F0 H0:Hp} {xq:Addr→Hp→Prop} {elt tg iter:Expr} {ifs:List Expr} {scope:Scope} {pos npos:Pos} {fi:DS→M (List D)} {set:D→DS→Option DS} {fc:DS→M Bool} {fe:DS→M VR}
    (gs:∀ {F H F' H':Hp} {z:M (List D)},Ext F H F' H'→G F H z→G F' H' z) (gn:∀ F H,G F H none→False) (ge:∀ F H c,G F H (some (.error c))→∀ H',Same H H'→xq c H')
    (hcalm:X.calm=true) (hkind:scope.kind=.function) (hcell:∀ y ∈ scope.names,y.2 ≠ .cell) (hnames:∀ x ∈ scope.names,x.2=.local→scope.names.lookup x.1=some .local)
    (hfree:∀ y ∈ scope.names,y.2=.free→X.env.kindOf y.1=some .cell∨X.env.kindOf y.1=some .free) (htn:tn.length=nt) (hcap:CapsOk X scope caps cn) (hnd:caps.Nodup)
    (hi:DI X F0 H0 xq tg iter fi) (hg:∀ C s H ex F0 H0,DG (compX X (tn ++ cn) scope C s H ex) F0 H0 tg set) (hc:∀ C s H ex F0 H0,DIfs (compX X (tn ++ cn) scope C s H ex) F0 H0 ifs fc) (he:∀ C s H ex F0 H0,DE (compX X (tn ++ cn) scope C s H ex) F0 H0 noX elt fe)
    (hs:∀ x,foldedSetIterable iter X.env x=pure x) {pins:List (Addr × Obj)} {s:Shared} {σ:St} {H F:Hp} {S:DS} (I:Inv X pins σ H s) (sk:StOk X.K F0 H0 F H σ S) (o:G F H (dComp nt caps fi set fc fe S))
    (hfin:∀ (C Dd:Addr) (vs:List V) (F2 H2 F' H':Hp) (s5:Shared) (m5:Str→Option Value) (res:List D) (r:Flow),Ext F H F2 H2→Ext F2 H2 F' H'→H2 Dd=none→F' Dd=none→H' Dd=some (.lst vs)→RepL X.K F' res vs→G F2 H2 (some (.ok res))→Inv X pins σ H' s5→s5.heap.Ns C m5→
      H' C=none→C ≠ X.env.locals→C ∉ X.fs→X.s₀.heap.objs.size ≤ C→(∀ y c,X.env.cells.lookup y=some c→c ≠ C)→(∀ p ∈ X.pn ++ pins,p.1 ≠ C)→compPost (model X.prog X.w) X.A X.xe use RQ (.ref Dd) C (.ok r) s5) :
    wpAny (model X.prog X.w) X.A (comprehension (.ListComp elt [⟨tg,iter,ifs,0⟩] scope pos) scope X.env npos (newList []) false (eval iter X.env) use) RQ X.xe s:=by
  have hclos:closureFor scope X.env=pure (cloOf X.env.cells scope.names []):=closureFor_eq fun x hx e=>I.ok.has x.1 (hfree x hx e)
  refine wpAny_comprehension_free (use:=use) rfl hs hclos hkind hnames ?_
  -- the source
  refine thn (hi.h pins s σ H (fun J H1=>∃ F1 ds,Ext F H F1 H1∧ItOk X.K J F1 ds∧G F1 H1 (if ds.length ≤ big then (match compD set fc fe ds (cap nt caps S) with | some l=>some (.ok l) | none=>none) else none)) I ?_) fun v s1 h1=>thn h1 fun itv s2 h2=>Classical.byContradiction fun hN=>?_
  · refine ⟨F,S,sk,?_⟩
    unfold dComp at o
    cases z:fi S with
    | none=>rw [z] at o; exact False.elim (gn _ _ o)
    | some y=>
      rw [z] at o
      cases y with
      | error c=>exact ge _ _ _ o
      | ok ds=>exact fun J F1 H1 e it=>⟨F1,ds,e,it,gs e o⟩
  obtain ⟨it,fp,tn',J,H2,rfl,I2,T,st2,f2,F2,ds,e2,itk,o2⟩:=h2
  refine hN ?_
  clear hN
  by_cases hz:ds.length ≤ big
  · rw [if_pos hz] at o2
    cases cd:compD set fc fe ds (cap nt caps S) with
    | none=>rw [cd] at o2; exact False.elim (gn _ _ o2)
    | some res=>
      rw [cd] at o2
      have o3:G F2 H2 (some (.ok res)):=o2
      -- the list
      refine wpAny_newObj_type ?_ (by show (0:Nat) ≤ sizeLine; exact Nat.zero_le _)
      have hD:H2 s2.heap.objs.size=none:=I2.fresh
      have I3:=I2.lnew (ys:=[]) (its:=[]) (t':=s2.toks) .nil (Nat.zero_le _)
      generalize hD':s2.heap.objs.size=Dd at *
      generalize hs3:({ s2 with heap:=s2.heap.push { cls:=.type "list",data:=.seq ([]:List Value).toArray },toks:=s2.toks }:Shared)=s3 at *
      have k23:∀ b u,s2.heap.get? b=some u→s3.heap.get? b=some u:=fun b u z=>by rw [← hs3]; exact Heap.get?_push_of_some _ z
      have fpo:∀ b ∈ fp,∃ o,s2.heap.get? b=some o∧∀ v,o.data ≠ .cell v:=T.obj _ _ st2
      have nD:∀ b ∈ fp,b ≠ Dd:=fun b hb z=>by
        obtain ⟨o,e,_⟩:=fpo b hb
        have h1:b < s2.heap.objs.size:=Heap.lt_size e
        rw [hD',z] at h1
        exact Nat.lt_irrefl _ h1
      have f3:∀ b ∈ fp,FpOk X pins (upd H2 Dd (.lst [])) b:=fun b hb=>⟨by rw [upd_ne (nD b hb)]; exact (f2 b hb).1,(f2 b hb).2⟩
      have ob3:∀ b ∈ fp,∃ o,s3.heap.get? b=some o:=fun b hb=>let ⟨o,e,_⟩:=fpo b hb; ⟨o,k23 b o e⟩
      have st3:tn' 0 s3.heap:=T.keep _ _ _ st2 fun b hb o e=>k23 b o e
      -- the block
      refine wpAny_newFunctionEnv hcell (by intro y hy; simp at hy) (fun h4 hns hsb=>?_) hkind
      have k34:∀ b u,s3.heap.get? b=some u→h4.get? b=some u:=fun b u z=>hsb.extBut b u (Nat.ne_of_lt (Heap.lt_size z)) (Heap.get?_push_of_some _ z)
      have sk2:=(sk.step e2).base
      -- own lists are elder than the new one
      have elder:∀ (i:Nat) (l:List D) (a:Addr),(cap nt caps S)[i]?=some (some (Slot.own l))→(cap nt caps σ)[i]?=some (some (V.ref a))→a ≠ Dd:=fun i l a h1 h2 z=>by
        obtain ⟨a',vs,q1,_,_,q4,_⟩:=(capSt (nt:=nt) hnd sk2).own i l h1
        rw [h2] at q1
        have:a=a':=by simpa using q1
        rw [← this,z,hD] at q4; cases q4
      have elderd:∀ (i:Nat) (ks:List Key) (l:List D) (a:Addr),(cap nt caps S)[i]?=some (some (Slot.owd ks l))→(cap nt caps σ)[i]?=some (some (V.ref a))→a ≠ Dd:=fun i ks l a h1 h2 z=>by
        obtain ⟨a',vs,q1,_,_,q4,_⟩:=(capSt (nt:=nt) hnd sk2).owd i ks l h1
        rw [h2] at q1
        have:a=a':=by simpa using q1
        rw [← this,z,hD] at q4; cases q4
      have lift:∀ {F' H':Hp} {σ':St} {S':DS} {vs:List V},StOk X.K F2 H0 F' H' σ' S'→H' Dd=some (.lst vs)→F2 Dd=none→F' Dd=none→(∀ (i:Nat) (l:List D) (a:Addr),S'[i]?=some (some (Slot.own l))→σ'[i]?=some (some (V.ref a))→a ≠ Dd)→(∀ (i:Nat) (ks:List Key) (l:List D) (a:Addr),S'[i]?=some (some (Slot.owd ks l))→σ'[i]?=some (some (V.ref a))→a ≠ Dd)→StOk X.K F2 (upd H0 Dd (.lst vs)) F' H' σ' S':=
        fun {F' H' σ' S' vs} k h1 h2 h3 h4 h5=>⟨⟨k.ext.ff,fun b u z=>by
            by_cases eb:b=Dd
            · subst eb; rw [upd_same] at z; rw [h1]; exact z
            · rw [upd_ne eb] at z; exact k.ext.hh b u z,k.ext.fh,fun b xs z fb=>by
            by_cases eb:b=Dd
            · rw [eb]; exact h3
            · rw [upd_ne eb] at z; exact k.ext.new b xs z fb⟩,k.len,k.val,fun i l z=>by
            obtain ⟨a,ws,q1,q2,q3⟩:=k.own i l z
            exact ⟨a,ws,q1,by rw [upd_ne (h4 i l a z q1)]; exact q2,q3⟩,k.sep,fun i ks l z=>by
            obtain ⟨a,ws,q1,q2,q3⟩:=k.owd i ks l z
            exact ⟨a,ws,q1,by rw [upd_ne (h5 i ks l a z q1)]; exact q2,q3⟩,k.sepd⟩
      have hF2:F2 Dd=none:=e2.fh.free hD
      have e3:Ext F2 H2 F2 (upd H2 Dd (.lst [])):=ext_own e2.fh hD
      have sk3:StOk X.K F2 (upd H0 Dd (.lst [])) F2 (upd H2 Dd (.lst [])) (cap nt caps σ) (cap nt caps S):=lift (capSt hnd (sk2.step e3)) upd_same hF2 hF2 elder elderd
      have statX:∀ {H':Hp},(∀ b ∈ fp,H' b=none)→∀ b ∈ fp,FpOk (compX X (tn ++ cn) scope s3.heap.objs.size s3 (upd H2 Dd (.lst [])) fp) [] H' b:=fun hn b hb=>by
        have ok:=compOk (N':=tn ++ cn) I3 hkind hcell hfree f3 ob3
        exact ⟨hn b hb,(ok.exf b hb).1,ok.exfs b hb,.inl hb,(ok.exf b hb).2,fun p hp=>absurd (show p ∈ ([]:List (Addr × Obj)) from hp) (by simp)⟩
      have hok':∀ {H':Hp} {h h':Heap},HOk X.prog X.w H' h→H' s3.heap.objs.size=none→Heap.SameBut s3.heap.objs.size h h'→HOk X.prog X.w H' h':=fun {H' h h'} x hn sb a u e=>
        (x a u e).stay (fun b v hb q=>sb.extBut b v (by
          rcases hb with z | z
          · rw [z]; exact ne_of_none e hn
          · exact ne_of_none z hn) q) (fun _ q=>q) fun _ _ q=>q
      -- the loop
      have loop:∀ s4:Shared,s4={ s3 with heap:=h4,toks:=s3.toks + ([]:List (Str × Value)).length }→
          codeAny (model X.prog X.w) X.A (.compLoop (.ListComp elt [⟨tg,iter,ifs,0⟩] scope pos) 0 (.ref it) (.ref Dd) (compEnvC scope (cloOf X.env.cells scope.names []) s3.heap.objs.size X.env))
            (compPost (model X.prog X.w) X.A X.xe use RQ (.ref Dd) s3.heap.objs.size) s4:=by
        rintro s4 rfl
        have I4:=compInv (nt:=nt) (tk:=s3.toks + ([]:List (Str × Value)).length) I3 hkind hcell hfree f3 ob3 htn hcap hns k34
        refine compLoop_go (fun n s'=>∃ i σ' H' F' S' acc vs r,Inv (compX X (tn ++ cn) scope s3.heap.objs.size s3 (upd H2 Dd (.lst [])) fp) [] σ' H' s'∧tn' i s'.heap∧(∀ b ∈ fp,H' b=none)∧n=ds.length - i∧i ≤ ds.length∧
          StOk X.K F2 (upd H0 Dd (.lst vs)) F' H' σ' S'∧Ext F2 H2 F' H'∧F' Dd=none∧H' Dd=some (.lst vs)∧RepL X.K F' acc vs∧acc.length ≤ i∧compD set fc fe (ds.drop i) S'=some r∧acc ++ r=res) ?_ ds.length
          ⟨0,_,_,F2,_,[],[],res,I4,T.keep _ _ _ st3 (fun b hb o e=>k34 b o e),fun b hb=>(f3 b hb).1,by simp,Nat.zero_le _,sk3,e3,hF2,upd_same,rfl,Nat.le_refl _,by simpa using cd,rfl⟩
        refine fun n s' hh=>Classical.byContradiction fun hN=>?_
        obtain ⟨i,σ',H',F',S',acc,vs,r,I',st',fr',rfl,hile,sk',ex',hFD,hHD,ra,hal,cd',hres⟩:=hh
        refine hN ?_
        clear hN
        by_cases hlt:i < ds.length
        · have hd:ds.drop i=ds[i] :: ds.drop (i + 1):=List.drop_eq_getElem_cons hlt
          rw [hd] at cd'
          refine thn (T.item (compX X (tn ++ cn) scope s3.heap.objs.size s3 (upd H2 Dd (.lst [])) fp) rfl rfl rfl hcalm i [] s' σ' H' (fun _ _=>False) I' (statX fr') st' (itk.go i F' H' hlt ex'.ff ex'.fh)) fun rr s5 ⟨u,hr,h5⟩=>?_
          subst hr
          refine thn h5 fun _ s6 ⟨x,H6,I6,r6,y6,st6,fr6⟩=>?_
          obtain ⟨F6,e6,rp6⟩:=itk.yld i F' H' x H6 ex'.ff ex'.fh y6 ds[i] (List.getElem?_eq_getElem hlt)
          have I6':=I6.pinned (statX fr6) (T.obj _ _ st6)
          unfold compD at cd'
          cases z1:set ds[i] S' with
          | none=>rw [z1] at cd'; cases cd'
          | some S1=>
            rw [z1] at cd'
            simp only at cd'
            have gset:tG X.K F2 (upd H0 Dd (.lst vs)) set x σ' H6 (fun σ7 H7=>∃ F7,Ext F6 H6 F7 H7∧StOk X.K F2 (upd H0 Dd (.lst vs)) F7 H7 σ7 S1):=by
              refine ⟨F6,S',ds[i],sk'.step e6,rp6,?_⟩
              rw [z1]
              exact fun σ7 F7 H7 e7 k7=>⟨F7,e7,k7⟩
            refine thn ((hg _ _ _ _ F2 (upd H0 Dd (.lst vs))).h _ s6 σ' H6 x u _ I6' r6 gset) fun _ s7 ⟨σ7,H7,I7,F7,e7,k7⟩=>?_
            cases z2:fc S1 with
            | none=>rw [z2] at cd'; cases cd'
            | some y2=>
              rw [z2] at cd'
              cases y2 with
              | error c=>cases cd'
              | ok b=>
                have tc:tT X.K F2 (upd H0 Dd (.lst vs)) noX fc σ7 H7 (fun b' H8=>b'=b∧∃ F8,Ext F7 H7 F8 H8):=⟨F7,S1,k7,by rw [z2]; exact fun F8 H8 e8=>⟨rfl,F8,e8⟩⟩
                refine thn ((hc _ _ _ _ F2 (upd H0 Dd (.lst vs))).h _ s7 σ7 H7 _ I7 tc) fun b' s8 ⟨H8,I8,hb,F8,e8⟩=>?_
                subst hb
                have e68:=(e6.trans e7).trans e8
                have back:∀ {σ9:St} {H9 F9:Hp} {s9:Shared} {acc9 r9:List D} {vs9:List V},Inv (compX X (tn ++ cn) scope s3.heap.objs.size s3 (upd H2 Dd (.lst [])) fp) ([] ++ pinsAt fp s6.heap) σ9 H9 s9→StOk X.K F2 (upd H0 Dd (.lst vs9)) F9 H9 σ9 S1→Ext F2 H2 F9 H9→F9 Dd=none→H9 Dd=some (.lst vs9)→RepL X.K F9 acc9 vs9→acc9.length ≤ i + 1→
                    compD set fc fe (ds.drop (i + 1)) S1=some r9→acc9 ++ r9=res→∃ m,m < ds.length - i∧∃ i σ' H' F' S' acc vs r,Inv (compX X (tn ++ cn) scope s3.heap.objs.size s3 (upd H2 Dd (.lst [])) fp) [] σ' H' s9∧tn' i s9.heap∧(∀ b ∈ fp,H' b=none)∧m=ds.length - i∧i ≤ ds.length∧
                      StOk X.K F2 (upd H0 Dd (.lst vs)) F' H' σ' S'∧Ext F2 H2 F' H'∧F' Dd=none∧H' Dd=some (.lst vs)∧RepL X.K F' acc vs∧acc.length ≤ i∧compD set fc fe (ds.drop i) S'=some r∧acc ++ r=res:=fun {σ9 H9 F9 s9 acc9 r9 vs9} I9 k9 x1 x2 x3 x4 x5 x6 x7=>
                  ⟨ds.length - (i + 1),by (clear x7 x6 x5 x4 x3 x2 x1 k9 I9 e68 tc z2 cd' e8 I8 k7 e7 I7 gset z1 I6' rp6 e6 fr6 st6 y6 r6 I6 h5 hd hres hal ra hHD hFD ex' sk' hile fr' st' I' I4 hok' statX sk3 e3 hF2 lift elderd elder sk2 k34 hsb hns st3 ob3 f3 nD fpo k23 I3 hs3 hD hD' o3 cd o2 hz itk e2 f2 st2 T I2 h1 hclos hfin o sk I hs he hc hg hi hnd hcap htn hfree hnames hcell hkind hcalm ge gn gs; omega),i + 1,σ9,H9,F9,S1,acc9,vs9,r9,I9.unpinned,T.keep _ _ _ st6 (fun b hb o e=>(I9.pin (b,o) (List.mem_append_right _ (List.mem_append_right _ (mem_pinsAt hb e)))).1),(fun b hb=>by
                    obtain ⟨o,e,_⟩:=T.obj _ _ st6 b hb
                    exact (I9.pin (b,o) (List.mem_append_right _ (List.mem_append_right _ (mem_pinsAt hb e)))).2.1),rfl,hlt,k9,x1,x2,x3,x4,x5,x6,x7⟩
                cases b' with
                | false=>
                  rw [if_neg Bool.false_ne_true]
                  exact back I8 (k7.step e8) (ex'.trans e68) (e68.new _ (.lst _) hHD hFD) (e68.hh _ _ hHD) (ra.mono e68.ff) (Nat.le_succ_of_le hal) cd' hres
                | true=>
                  rw [if_pos rfl]
                  simp only at cd'
                  cases z3:fe S1 with
                  | none=>rw [z3] at cd'; cases cd'
                  | some y3=>
                    rw [z3] at cd'
                    cases y3 with
                    | error c=>cases cd'
                    | ok vr3=>
                      cases vr3 with
                      | bor l=>cases cd'
                      | bod ks l=>cases cd'
                      | ok d'=>
                        simp only at cd'
                        cases z4:compD set fc fe (ds.drop (i + 1)) S1 with
                        | none=>rw [z4] at cd'; cases cd'
                        | some r'=>
                          rw [z4] at cd'
                          have er:d' :: r'=r:=Option.some.inj cd'
                          subst er
                          have te:tE X.K F2 (upd H0 Dd (.lst vs)) noX fe σ7 H8 (fun v9 H9=>∃ F9,Ext F8 H8 F9 H9∧Rep X.K F9 d' v9):=⟨F8,S1,k7.step e8,by rw [z3]; exact fun v9 F9 H9 e9 q9=>⟨F9,e9,q9⟩⟩
                          refine thn ((he _ _ _ _ F2 (upd H0 Dd (.lst vs))).h _ s8 σ7 H8 _ I8 te) fun u9 s9 ⟨v9,H9,I9,rv9,F9,e9,q9⟩=>?_
                          have e69:=e68.trans e9
                          have hH9:=e69.hh _ _ hHD
                          have hF9:=e69.new _ (.lst _) hHD hFD
                          have ra9:=ra.mono e69.ff
                          have ex9:=ex'.trans e69
                          have k9:=(k7.step e8).step e9
                          refine thn (mt_append _ s9 σ7 H9 (.ref Dd) [v9] (.ref Dd) [u9] (fun _ H10=>H10=upd H9 Dd (.lst (vs ++ [v9]))) I9 rfl (.cons rv9 .nil) ⟨Dd,vs,v9,rfl,rfl,hH9,?_,rfl⟩) fun _ s10 ⟨x10,H10,I10,_,hH10⟩=>?_
                          · have:=ra.length
                            exact Nat.lt_of_lt_of_le (Nat.lt_of_le_of_lt (by rw [← this]; exact hal) hlt) (big_le hz)
                          · subst hH10
                            have kk:StOk X.K F2 (upd H0 Dd (.lst (vs ++ [v9]))) F9 (upd H9 Dd (.lst (vs ++ [v9]))) σ7 S1:=
                              ⟨⟨k9.ext.ff,fun b u z=>by
                                  by_cases eb:b=Dd
                                  · subst eb; rw [upd_same] at z ⊢; exact z
                                  · rw [upd_ne eb] at z ⊢; exact k9.ext.hh b u (by rw [upd_ne eb]; exact z),fun b u z=>by
                                  rw [upd_ne (ne_of_none z hF9)]; exact k9.ext.fh b u z,fun b xs z fb=>by
                                  by_cases eb:b=Dd
                                  · rw [eb]; exact hF9
                                  · rw [upd_ne eb] at z; exact k9.ext.new b xs (by rw [upd_ne eb]; exact z) fb⟩,k9.len,k9.val,fun j l z=>by
                                  obtain ⟨a,ws,q1,q2,q3,q4,q5⟩:=k9.own j l z
                                  have na:a ≠ Dd:=by rintro rfl; rw [upd_same] at q2; cases q2
                                  exact ⟨a,ws,q1,by rw [upd_ne na] at q2 ⊢; exact q2,q3,by rw [upd_ne na]; exact q4,q5⟩,k9.sep,fun j ks l z=>by
                                  obtain ⟨a,ws,q1,q2,q3,q4,q5⟩:=k9.owd j ks l z
                                  have na:a ≠ Dd:=by rintro rfl; rw [upd_same] at q2; cases q2
                                  exact ⟨a,ws,q1,by rw [upd_ne na] at q2 ⊢; exact q2,q3,by rw [upd_ne na]; exact q4,q5⟩,k9.sepd⟩
                            refine back I10 kk ⟨ex9.ff,fun b u z=>?_,fun b u z=>?_,ex9.new⟩ hF9 upd_same (ra9.append (.one q9)) (by rw [List.length_append,List.length_singleton]; (clear kk I10 k9 ex9 ra9 hF9 hH9 e69 q9 e9 rv9 I9 te cd' hres z4 z3 tc z2 back e68 e8 I8 k7 e7 I7 gset z1 I6' rp6 e6 fr6 st6 y6 r6 I6 h5 hd hlt ra hHD hFD ex' sk' hile fr' st' I' I4 hok' statX sk3 e3 hF2 lift elderd elder sk2 k34 hsb hns st3 ob3 f3 nD fpo k23 I3 hs3 hD hD' o3 cd o2 hz itk e2 f2 st2 T I2 h1 hclos hfin o sk I hs he hc hg hi hnd hcap htn hfree hnames hcell hkind hcalm ge gn gs; omega)) z4 (by rw [List.append_assoc]; exact hres)
                            · rw [upd_ne (ne_of_none z hD)]; exact ex9.hh b u z
                            · rw [upd_ne (ne_of_none z hF9)]; exact ex9.fh b u z
        · have ei:i=ds.length:=by (clear hres cd' hal ra hHD hFD ex' sk' fr' st' I' I4 hok' statX sk3 e3 hF2 lift elderd elder sk2 k34 hsb hns st3 ob3 f3 nD fpo k23 I3 hs3 hD hD' o3 cd o2 hz itk e2 f2 st2 T I2 h1 hclos hfin o sk I hs he hc hg hi hnd hcap htn hfree hnames hcell hkind hcalm ge gn gs; omega)
          subst ei
          rw [List.drop_length] at cd'
          have er:[]=r:=Option.some.inj cd'
          subst er
          rw [List.append_nil] at hres
          subst hres
          refine thn (T.done (compX X (tn ++ cn) scope s3.heap.objs.size s3 (upd H2 Dd (.lst [])) fp) rfl rfl rfl hcalm _ [] s' σ' H' (fun _ _=>False) I' (statX fr') st' (itk.stop _ F' H' (Nat.le_refl _) ex'.ff ex'.fh)) fun rr s5 ⟨hr,I5⟩=>?_
          subst hr
          obtain ⟨m5,hn5,_⟩:=I5.loc
          have U:=(Un.laid (fs:=frs X.stack) (ex:=fp) (o:=HO.lst []) k23 (Nat.le_of_eq hD') hD).trans I5.base
          have J:Inv X pins σ H' s5:=I2.call' (s':=s5) (ch:=fp) (by rw [I5.os]; show s3.os=s2.os; rw [← hs3]) ⟨U.keep,U.slot,U.free,U.there,U.tups,U.frzs,U.tbls⟩ I5.hok I5.bare fun b hb=>⟨(f2 b hb).2.2.2.1,(f2 b hb).2.1,(f2 b hb).2.2.2.2.1,(f2 b hb).2.2.2.2.2⟩
          have hC0:H' s3.heap.objs.size=none:=I5.free
          have szC:s2.heap.objs.size ≤ s3.heap.objs.size:=by
            rw [← hs3]
            show s2.heap.objs.size ≤ (s2.heap.push _).objs.size
            rw [Heap.size_push]; exact Nat.le_succ _
          have gtC:∀ b ob,s2.heap.get? b=some ob→b ≠ s3.heap.objs.size:=fun b ob e=>Nat.ne_of_lt (Nat.lt_of_lt_of_le (Heap.lt_size e) szC)
          have locC:s3.heap.objs.size ≠ X.env.locals:=fun z=>by
            have:=I2.lt
            rw [← z] at this
            exact absurd (Nat.lt_of_lt_of_le this szC) (Nat.lt_irrefl _)
          have fsC:s3.heap.objs.size ∉ X.fs:=I2.nofs szC
          have s0C:X.s₀.heap.objs.size ≤ s3.heap.objs.size:=Nat.le_trans I2.sz szC
          have cellC:∀ y c,X.env.cells.lookup y=some c→c ≠ s3.heap.objs.size:=fun y c e=>by
            obtain ⟨v,ob,hob,_⟩:=I2.cell y c e
            exact gtC c ob hob
          have pinC:∀ p ∈ X.pn ++ pins,p.1 ≠ s3.heap.objs.size:=fun p hp=>gtC p.1 p.2 (I2.pin p hp).1
          exact hfin s3.heap.objs.size Dd vs F2 H2 F' H' s5 m5 acc _ e2 ex' hD hFD hHD ra o3 J hn5 hC0 locC fsC s0C cellC pinC
      exact codeAny_compStart_list (loop _ rfl) (T.self _ 0 _ _ _ (T.keep _ _ _ st3 fun b hb o e=>k34 b o e) (loop _ rfl))
  · rw [if_neg hz] at o2; exact False.elim (gn _ _ o2)
theorem df_comp (nt:Nat) (caps:List Nat) (tn cn:List Str) {X:Cx} {F0 H0:Hp} {xq:Addr→Hp→Prop} {elt tg iter:Expr} {ifs:List Expr} {scope:Scope} {pos:Pos} {fi:DS→M (List D)} {set:D→DS→Option DS} {fc:DS→M Bool} {fe:DS→M VR}
    (hcalm:X.calm=true) (hkind:scope.kind=.function) (hcell:∀ y ∈ scope.names,y.2 ≠ .cell) (hnames:∀ x ∈ scope.names,x.2=.local→scope.names.lookup x.1=some .local)
    (hfree:∀ y ∈ scope.names,y.2=.free→X.env.kindOf y.1=some .cell∨X.env.kindOf y.1=some .free) (htn:tn.length=nt) (hcap:CapsOk X scope caps cn) (hnd:caps.Nodup)
    (hi:DI X F0 H0 xq tg iter fi) (hg:∀ C s H ex F0 H0,DG (compX X (tn ++ cn) scope C s H ex) F0 H0 tg set) (hc:∀ C s H ex F0 H0,DIfs (compX X (tn ++ cn) scope C s H ex) F0 H0 ifs fc) (he:∀ C s H ex F0 H0,DE (compX X (tn ++ cn) scope C s H ex) F0 H0 noX elt fe)
    (hs:∀ x,foldedSetIterable iter X.env x=pure x:=by intro _; rfl):DF X F0 H0 xq (.ListComp elt [⟨tg,iter,ifs,0⟩] scope pos) (dComp nt caps fi set fc fe):=.mk fun pins s σ H Q I q=>by
  obtain ⟨F,S,sk,o⟩:=q
  rw [eval_ListComp]
  refine comp_core none (EP X pins σ Q) (fun F H z=>outF X.K xq F H Q z) nt caps tn cn (fun e h=>h.step e) (fun _ _ h=>h) (fun _ _ _ h=>h) hcalm hkind hcell hnames hfree htn hcap hnd hi hg hc he hs I sk o ?_
  intro C Dd vs F2 H2 F' H' s5 m5 res r _ ex' hD hFD hHD ra o3 J hn hC0 locC fsC s0C cellC pinC
  exact ⟨m5,hn,fun h6 sb=>⟨.ref Dd,H',J.turned (t':=s5.toks) (it:=C) (fun b ob nb e=>sb.extBut b ob nb e) hC0 locC (.inr s0C) cellC pinC,rfl,o3 Dd vs F' H' ex' hD hFD hHD ra⟩⟩
end PF
set_option Elab.async false
set_option linter.all false
set_option maxRecDepth 100000
set_option maxHeartbeats 4000000
namespace PF
open PySem PySem.Spec PyProof.Rows
open AutoSeq1 (wpAny_loadPart')
theorem noFill_tuple_mul:fillsNumberSlot (.type "tuple") "mul" = pure false:=
  PySem.fillsNumberSlot_seq (id := "tuple.__mul__") (r:=some (.builtin "tuple.__rmul__")) PySem.F.slot_tuple_mul.lookup (by decide +kernel) PySem.F.slot_tuple_rmul.lookup (by decide +kernel)
theorem repeat_tuple:seqRepeat? (.type "tuple")=pure (some (.builtin "tuple.__mul__")):=by
  unfold seqRepeat?
  rw [PySem.seqSlot_of (T := "tuple") (name := "__mul__") (id := "tuple.__mul__") PySem.F.slot_tuple_mul.lookup (by decide +kernel),PySem.seqSlot_of (T := "tuple") (name := "__rmul__") (id := "tuple.__rmul__") PySem.F.slot_tuple_rmul.lookup (by decide +kernel)]
  rfl
theorem int_rmul_tuple (a:Int) (t:Tok) (l:Addr) (items:Array Value) (n:Nat) (dd:Option Addr) (sl:Array (Option Value)) :
    Meets (Builtin.«int.__rmul__» ⟨[.int a t,.ref l],[]⟩) (fun _ R s=>s.heap.get? l=some { cls:=.type "tuple",dict:=dd,data:=.seq items n,slots:=sl }∧R (.ok (.ret Value.notImplemented)) s):=
  .of_wp fun prog w A R s h=>by obtain ⟨hp,g,d,tk,os⟩:=s; obtain ⟨hl,h⟩:=h; wp_walk using wpAny_loadPart' hl; exact ⟨_,rfl,h⟩
theorem tuple_mul_same (l:Addr) (items:Array Value) (n:Nat) (dd:Option Addr) (sl:Array (Option Value)) (x:Int) (u:Tok) (hc0:(decide (x < -(2 ^ 63)) || decide (x ≥ 2 ^ 63))=false) (hc1:(items.isEmpty || x == 1)=true) :
    Meets (Builtin.«tuple.__mul__» ⟨[.ref l,.int x u],[]⟩) (fun _ R s=>s.heap.get? l=some { cls:=.type "tuple",dict:=dd,data:=.seq items n,slots:=sl }∧R (.ok (.ret (.ref l))) s):=
  .of_wp fun prog w A R s h=>by
    obtain ⟨hp,g,d,tk,os⟩:=s; obtain ⟨hl,h⟩:=h
    have f1:=AutoSeq1.idx_int
    wp_walk using wpAny_loadPart' hl
    refine wpAny_ite_false (by rw [hc0]; rfl) ?_
    wp_walk using wpAny_loadPart' hl
    exact ⟨_,rfl,h⟩
theorem tuple_mul_none (l:Addr) (items:Array Value) (n:Nat) (dd:Option Addr) (sl:Array (Option Value)) (x:Int) (u:Tok) (hc0:(decide (x < -(2 ^ 63)) || decide (x ≥ 2 ^ 63))=false) (hc1:¬ (items.isEmpty || x == 1)=true) (hc2:(decide (x ≤ 0) || items.isEmpty)=true) :
    Meets (Builtin.«tuple.__mul__» ⟨[.ref l,.int x u],[]⟩) (fun _ R s=>s.heap.get? l=some { cls:=.type "tuple",dict:=dd,data:=.seq items n,slots:=sl }∧R (.ok (.ret (.ref s.heap.objs.size))) { s with heap:=s.heap.push { cls:=Value.type "tuple",data:=Data.seq #[] } }):=
  .of_wp fun prog w A R s h=>by
    obtain ⟨hp,g,d,tk,os⟩:=s; obtain ⟨hl,h⟩:=h
    have f1:=AutoSeq1.idx_int
    wp_walk using wpAny_loadPart' hl
    refine wpAny_ite_false (by rw [hc0]; rfl) ?_
    wp_walk using wpAny_loadPart' hl
    exact ⟨_,rfl,h⟩
theorem tuple_mul_new (l:Addr) (items:Array Value) (n:Nat) (dd:Option Addr) (sl:Array (Option Value)) (x:Int) (u:Tok) (hc0:(decide (x < -(2 ^ 63)) || decide (x ≥ 2 ^ 63))=false) (hc1:¬ (items.isEmpty || x == 1)=true) (hc2:¬ (decide (x ≤ 0) || items.isEmpty)=true)
    (hc3:¬ (items.size * x > (2 ^ 63 - 1) / 8)) (hc4:¬ Builtin.Tuple.tupleTooMany (items.size * x)=true) (hsz:(List.foldl (fun x1 x2=>x1 ++ x2) #[] (List.replicate x.toNat items)).size ≤ sizeLine) :
    Meets (Builtin.«tuple.__mul__» ⟨[.ref l,.int x u],[]⟩) (fun _ R s=>s.heap.get? l=some { cls:=.type "tuple",dict:=dd,data:=.seq items n,slots:=sl }∧R (.ok (.ret (.ref s.heap.objs.size))) { s with heap:=s.heap.push { cls:=Value.type "tuple",data:=Data.seq (List.foldl (fun x1 x2=>x1 ++ x2) #[] (List.replicate x.toNat items)) } }):=
  .of_wp fun prog w A R s h=>by
    obtain ⟨hp,g,d,tk,os⟩:=s; obtain ⟨hl,h⟩:=h
    have f1:=AutoSeq1.idx_int
    wp_walk using wpAny_loadPart' hl
    refine wpAny_ite_false (by rw [hc0]; rfl) ?_
    wp_walk using wpAny_loadPart' hl
    refine wpAny_ite_false (decide_eq_false hc3) ?_
    wp_walk
    exact ⟨_,rfl,h⟩
section
variable {prog:Program} {w:World} {A:Around} {E:Value→Shared→Prop} {s:Shared}
theorem foldl_rep' (its:List Value):∀ (k:Nat) (acc:List Value),List.foldl (fun x1 x2=>x1 ++ x2) acc.toArray (List.replicate k its.toArray)=(acc ++ (List.replicate k its).flatten).toArray
  | 0,acc=>by simp
  | k + 1,acc=>by
    have e:acc.toArray ++ its.toArray=(acc ++ its).toArray:=by simp
    have e2:(acc ++ its) ++ (List.replicate k its).flatten=acc ++ (List.replicate (k + 1) its).flatten:=by
      rw [List.replicate_succ,List.flatten_cons,List.append_assoc]
    rw [← e2,← foldl_rep' its k (acc ++ its),← e,List.replicate_succ,List.foldl_cons]
theorem flatten_len {α:Type} (xs:List α) (k:Nat):(List.replicate k xs).flatten.length=k * xs.length:=by
  induction k with
  | zero=>simp
  | succ k ih=>rw [List.replicate_succ,List.flatten_cons,List.length_append,ih,Nat.succ_mul,Nat.add_comm]
theorem mul_tup {t:Addr} {vs:List Value} {k:Int} {u:Tok} {Q:Value→Shared→Prop} (ht:IsTup s.heap t vs.toArray) (h1:-(2 ^ 63) ≤ k) (h2:k < 2 ^ 63) (hz:vs.length * k.toNat ≤ sizeLine)
    (hs:(vs=[]∨k=1)→Q (.ref t) s) (hn:Q (.ref s.heap.objs.size) { s with heap:=s.heap.push { cls:=.type "tuple",data:=.seq (List.replicate k.toNat vs).flatten.toArray } }) :
    wpAny (model prog w) A (binaryOp .Mult (.ref t) (.int k u)) Q E s:=by
  obtain ⟨⟨cls,dd,data,sl⟩,ho,hc,n,hd⟩:=id ht
  simp only at hc hd
  subst hc hd
  have hc0:(decide (k < -(2 ^ 63)) || decide (k ≥ 2 ^ 63))=false:=by
    rw [decide_eq_false (by (clear ho hn hs hz h2 ht; omega)),decide_eq_false (by (clear ho hn hs hz h1 ht; omega))]; rfl
  refine wpAny_binaryOp_repeat_ref (T := "tuple") (U := "int") (by decide) ⟨_,ho,rfl⟩ (fun s'=>typeIs_int s' k u) noFill_tuple_mul F.fills_int_mul F.slot_int_rmul repeat_tuple F.slot_int_index.lookup
    (call_meets F.slot_int_rmul (typeIs_int s k u) F.entry_int_rmul (F.args_int_rmul_2 _ _) (int_rmul_tuple k u t vs.toArray n dd sl) ⟨ho,rfl,⟨_,ho,rfl⟩,?_⟩)
  by_cases hs1:(vs.toArray.isEmpty || k == 1)=true
  · refine call_meets F.slot_tuple_mul ⟨_,ho,rfl⟩ F.entry_tuple_mul (F.args_tuple_mul_2 _ _) (tuple_mul_same t vs.toArray n dd sl k u hc0 hs1) ⟨ho,hs ?_⟩
    rw [Bool.or_eq_true] at hs1
    rcases hs1 with e | e
    · exact .inl (by simpa using e)
    · exact .inr (by simpa using e)
  · by_cases hs2:(decide (k ≤ 0) || vs.toArray.isEmpty)=true
    · refine call_meets F.slot_tuple_mul ⟨_,ho,rfl⟩ F.entry_tuple_mul (F.args_tuple_mul_2 _ _) (tuple_mul_none t vs.toArray n dd sl k u hc0 hs1 hs2) ⟨ho,?_⟩
      have k0:k.toNat=0:=by
        rw [Bool.or_eq_true] at hs1 hs2
        rcases hs2 with e | e
        · have:=of_decide_eq_true e; (clear e hs1 hc0 ho hn hs hz h2 h1 ht; omega)
        · exact absurd (.inl e) hs1
      rw [k0] at hn
      exact hn
    · have hk:0 < k:=by
        rw [Bool.or_eq_true] at hs2
        exact Int.not_le.mp fun e=>hs2 (.inl (decide_eq_true e))
      have em:((vs.toArray.size:Nat):Int) * k=((vs.length * k.toNat:Nat):Int):=by
        rw [List.size_toArray,Int.natCast_mul,Int.toNat_of_nonneg (by (clear hs2 hs1 hc0 ho hn hs hz h2 h1 ht; omega))]
      have hcap:(sizeLine:Nat) ≤ (2 ^ 63 - 1) / 8:=by rw [sizeLine_eq]; decide
      have hf:List.foldl (fun x1 x2=>x1 ++ x2) #[] (List.replicate k.toNat vs.toArray)=(List.replicate k.toNat vs).flatten.toArray:=by
        have:=foldl_rep' vs k.toNat []
        rw [List.nil_append] at this
        exact this
      refine call_meets F.slot_tuple_mul ⟨_,ho,rfl⟩ F.entry_tuple_mul (F.args_tuple_mul_2 _ _) (tuple_mul_new t vs.toArray n dd sl k u hc0 hs1 hs2 ?_ ?_ ?_) ⟨ho,?_⟩
      · rw [em]; intro z; (clear hf em hk hs2 hs1 hc0 ho hn hs h2 h1 ht; omega)
      · rw [em]; unfold Builtin.Tuple.tupleTooMany; rw [decide_eq_false (by (clear hf hcap em hk hs2 hs1 hc0 ho hn hs h2 h1 ht; omega))]; simp
      · rw [hf,List.size_toArray,flatten_len,Nat.mul_comm]; exact hz
      · rw [hf]; exact hn
theorem tupIsExact_ {t:Addr} {items:Array Value} {Q:Bool→Shared→Prop} (ht:IsTup s.heap t items) (h:Q true s):wpAny (model prog w) A (Builtin.Tuple.tupleIsExact (.ref t)) Q E s:=by
  unfold Builtin.Tuple.tupleIsExact
  exact wpAny_bind (wpAny_typeOf ht.typeIs (wpAny_pure h))
theorem getItem_tuple_by {t sl:Addr} {items:Array Value} {lo step:Int} {n:Nat} {vl vu vc:Value} {Q:Value→Shared→Prop} (ht:IsTup s.heap t items) (hs:s.heap.IsSliceOf sl vl vu vc)
    (ha:∀ (A':Around) (Q':Int × Int × Nat→Shared→Prop) (E':Value→Shared→Prop),Q' (lo,step,n) s→wpAny (model prog w) A' (Builtin.Slice.sliceApplied (.ref sl) (pure (items.size:Int))) Q' E' s)
    (hsz:((List.range n).filterMap fun (k:Nat)=>items[(lo + (k:Int) * step).toNat]?).length ≤ sizeLine)
    (h1:(lo == 0 && step == 1 && n == items.size)=true→Q (.ref t) s)
    (h2:(lo == 0 && step == 1 && n == items.size)=false→Q (.ref s.heap.objs.size) { s with heap:=s.heap.push { cls:=.type "tuple",data:=.seq ((List.range n).filterMap fun (k:Nat)=>items[(lo + (k:Int) * step).toNat]?).toArray } }) :
    wpAny (model prog w) A (getItem (.ref t) (.ref sl)) Q E s:=by
  obtain ⟨os,hos,hcs,hds⟩:=id hs
  have hTs:s.TypeIs (.ref sl) "slice" := ⟨os,hos,hcs⟩
  have htake:sizeOk (.seq ((List.range n).filterMap fun (k:Nat)=>items[(lo + (k:Int) * step).toNat]?).toArray):=by
    show ((List.range n).filterMap fun (k:Nat)=>items[(lo + (k:Int) * step).toNat]?).toArray.size ≤ sizeLine
    rw [List.size_toArray]; exact hsz
  unfold getItem
  try with_reducible refine wpAny_holding ?_
  first | refine wpAny_bind (wpAny_pure ?_) | skip
  refine wpAny_bind (wpAny_sequenceKey ht.typeIs (by decide) ?_)
  refine wpAny_bind (wpAny_callSpecial?_slot (name:=Str.ofString "__getitem__") ht.typeIs PyProof.Rows.slot_tuple_getitem
    (wpAny_call_entry PyProof.Rows.slot_tuple_getitem ht.typeIs PyProof.Rows.entry_tuple_getitem ?_ (args_tuple_getitem _ _)))
  show wpAny _ _ (Builtin.Tuple.tupleItemsOf (.ref t) >>= _) _ _ s
  refine wpAny_bind (tupleItemsOf_ ht ?_)
  refine wpAny_bind (wpAny_typeOf hTs ?_)
  rw [if_pos (by decide)]
  refine wpAny_bind (ha _ _ _ ?_)
  cases hw:(lo == 0 && step == 1 && n == items.size) with
  | true=>
    show wpAny _ _ (if (lo == 0 && step == 1 && n == items.size)=true then _ else _) _ _ s
    rw [if_pos hw]
    refine wpAny_bind (tupIsExact_ ht ?_)
    rw [if_pos rfl]
    first
      | exact wpAny_bind (wpAny_rule (wpAny_pure ⟨_,rfl,wpAny_pure (h1 hw)⟩))
      | exact wpAny_bind (wpAny_rule (wpAny_bind (wpAny_pure (wpAny_pure ⟨_,rfl,wpAny_pure (h1 hw)⟩))))
      | (refine wpAny_bind (wpAny_rule ?_); trace_state; exact wpAny_pure ⟨_,rfl,h1 hw⟩)
  | false=>
    show wpAny _ _ (if (lo == 0 && step == 1 && n == items.size)=true then _ else _) _ _ s
    rw [if_neg (by rw [hw]; exact Bool.false_ne_true)]
    have h:=h2 hw
    first
      | exact wpAny_bind (m:=Builtin.Tuple.tupleExact _) (wpAny_newObj_type (wpAny_pure ⟨_,rfl,wpAny_pure h⟩) htake)
      | exact wpAny_bind (m:=Builtin.Tuple.tupleExact _) (wpAny_newObj_type (wpAny_bind (wpAny_pure (wpAny_pure ⟨_,rfl,wpAny_pure h⟩))) htake)
      | exact wpAny_bind (wpAny_bind (m:=Builtin.Tuple.tupleExact _) (wpAny_newObj_type (wpAny_pure (wpAny_pure ⟨_,rfl,wpAny_pure h⟩)) htake))
      | exact wpAny_bind (wpAny_bind (m:=Builtin.Tuple.tupleExact _) (wpAny_newObj_type (wpAny_pure ⟨_,rfl,wpAny_pure h⟩) htake))
theorem fm_congr {α β:Type} {f g:α→Option β}:∀ {l:List α},(∀ x ∈ l,f x=g x)→l.filterMap f=l.filterMap g
  | [],_=>rfl
  | a :: l,h=>by
    rw [List.filterMap_cons,List.filterMap_cons,h a List.mem_cons_self,fm_congr fun x hx=>h x (List.mem_cons_of_mem _ hx)]
end
end PF
set_option Elab.async false
set_option linter.all false
set_option maxRecDepth 100000
set_option maxHeartbeats 400000
namespace PF
open PySem PySem.Spec L2
open PyProof.Rows hiding St
mutual
noncomputable def toPy:D→PyData
  | .non=>.none
  | .bl b=>.bool b
  | .int i=>.int i
  | .str x=>.str x
  | .tup l=>.tuple (toPys l)
  | .lst l=>.list (toPys l)
  | .scr l=>.list (l.map .int)
  | .dic _ _=>.none
noncomputable def toPys:List D→List PyData
  | []=>[]
  | d :: l=>toPy d :: toPys l
end
mutual
noncomputable def deq:D→D→Bool
  | .non,.non=>true
  | .bl a,.bl b=>a == b
  | .bl a,.int j=>(if a then 1 else 0) == j
  | .int i,.bl b=>i == (if b then 1 else 0)
  | .int i,.int j=>i == j
  | .str x,.str y=>x == y
  | .tup l,.tup l'=>deqs l l'
  | .lst l,.lst l'=>deqs l l'
  | _,_=>false
noncomputable def deqs:List D→List D→Bool
  | [],[]=>true
  | d :: l,d' :: l'=>deq d d' && deqs l l'
  | _,_=>false
end
mutual
noncomputable def dep:D→Nat
  | .tup l=>deps l + 1
  | .lst l=>deps l + 1
  | .scr _=>1000
  | .dic _ _=>1000
  | .non=>0
  | .bl _=>0
  | .int _=>0
  | .str x=>if PyData.strOk x=true then 0 else 1000
noncomputable def deps:List D→Nat
  | []=>0
  | d :: l=>max (dep d) (deps l)
end
mutual
theorem lay_py:∀ d:D,dep d < 1000→(toPy d).canLay0=true
  | .non,_=>rfl
  | .bl _,_=>rfl
  | .int _,_=>rfl
  | .str x,h=>by
    have h':(if PyData.strOk x=true then 0 else 1000) < 1000:=h
    show PyData.strOk x=true
    split at h'
    · assumption
    · (clear h; omega)
  | .tup l,h=>by show PyData.canLayAll0 (toPys l)=true; exact lay_pys l (by have:deps l + 1 < 1000:=h; (clear h; omega))
  | .lst l,h=>by show PyData.canLayAll0 (toPys l)=true; exact lay_pys l (by have:deps l + 1 < 1000:=h; (clear h; omega))
  | .scr l,h=>absurd h (by show ¬ (1000 < 1000); (clear h; omega))
  | .dic _ _,h=>absurd h (by show ¬ (1000 < 1000); (clear h; omega))
theorem lay_pys:∀ l:List D,deps l < 1000→PyData.canLayAll0 (toPys l)=true
  | [],_=>rfl
  | d :: l,h=>by
    have h1:max (dep d) (deps l) < 1000:=h
    show (PyData.canLay0 (toPy d) && PyData.canLayAll0 (toPys l))=true
    rw [lay_py d (by (clear h; omega)),lay_pys l (by (clear h; omega))]; rfl
end
mutual
theorem depth_py:∀ d:D,(toPy d).depth ≤ dep d
  | .non=>Nat.le_refl _
  | .bl _=>Nat.le_refl _
  | .int _=>Nat.le_refl _
  | .str _=>Nat.zero_le _
  | .tup l=>by show PyData.depthAll (toPys l) + 1 ≤ deps l + 1; exact Nat.succ_le_succ (depth_pys l)
  | .lst l=>by show PyData.depthAll (toPys l) + 1 ≤ deps l + 1; exact Nat.succ_le_succ (depth_pys l)
  | .dic _ _=>Nat.zero_le _
  | .scr l=>by
    have h:PyData.depthAll (l.map .int)=0:=by
      induction l with
      | nil=>rfl
      | cons i l ih=>show max (PyData.depth (.int i)) (PyData.depthAll (l.map .int))=0; rw [ih]; rfl
    show PyData.depthAll (l.map .int) + 1 ≤ 1000
    rw [h]; (clear h; omega)
theorem depth_pys:∀ l:List D,PyData.depthAll (toPys l) ≤ deps l
  | []=>Nat.le_refl _
  | d :: l=>by
    show max (PyData.depth (toPy d)) (PyData.depthAll (toPys l)) ≤ max (dep d) (deps l)
    have h1:=depth_py d
    have h2:=depth_pys l
    omega
end
mutual
theorem eqv_py:∀ a b:D,dep a < 1000→dep b < 1000→PyData.eqv (toPy a) (toPy b)=deq a b
  | .tup l,.tup l',h,h'=>by show PyData.eqvAll (toPys l) (toPys l')=deqs l l'; exact eqv_pys l l' (by have:deps l + 1 < 1000:=h; (clear h' h; omega)) (by have:deps l' + 1 < 1000:=h'; (clear h' h; omega))
  | .lst l,.lst l',h,h'=>by show PyData.eqvAll (toPys l) (toPys l')=deqs l l'; exact eqv_pys l l' (by have:deps l + 1 < 1000:=h; (clear h' h; omega)) (by have:deps l' + 1 < 1000:=h'; (clear h' h; omega))
  | .scr l,_,h,_=>absurd h (by show ¬ (1000 < 1000); (clear h; omega))
  | _,.scr l,_,h=>absurd h (by show ¬ (1000 < 1000); (clear h; omega))
  | .dic _ _,_,h,_=>absurd h (by show ¬ (1000 < 1000); (clear h; omega))
  | _,.dic _ _,_,h=>absurd h (by show ¬ (1000 < 1000); (clear h; omega))
  | .non,.non,_,_=>rfl
  | .non,.bl _,_,_=>rfl
  | .non,.int _,_,_=>rfl
  | .non,.str _,_,_=>rfl
  | .non,.tup _,_,_=>rfl
  | .non,.lst _,_,_=>rfl
  | .bl _,.non,_,_=>rfl
  | .bl _,.bl _,_,_=>rfl
  | .bl _,.int _,_,_=>rfl
  | .bl _,.str _,_,_=>rfl
  | .bl _,.tup _,_,_=>rfl
  | .bl _,.lst _,_,_=>rfl
  | .int _,.non,_,_=>rfl
  | .int _,.bl _,_,_=>rfl
  | .int _,.int _,_,_=>rfl
  | .int _,.str _,_,_=>rfl
  | .int _,.tup _,_,_=>rfl
  | .int _,.lst _,_,_=>rfl
  | .str _,.non,_,_=>rfl
  | .str _,.bl _,_,_=>rfl
  | .str _,.int _,_,_=>rfl
  | .str _,.str _,_,_=>rfl
  | .str _,.tup _,_,_=>rfl
  | .str _,.lst _,_,_=>rfl
  | .tup _,.non,_,_=>rfl
  | .tup _,.bl _,_,_=>rfl
  | .tup _,.int _,_,_=>rfl
  | .tup _,.str _,_,_=>rfl
  | .tup _,.lst _,_,_=>rfl
  | .lst _,.non,_,_=>rfl
  | .lst _,.bl _,_,_=>rfl
  | .lst _,.int _,_,_=>rfl
  | .lst _,.str _,_,_=>rfl
  | .lst _,.tup _,_,_=>rfl
theorem eqv_pys:∀ l l':List D,deps l < 1000→deps l' < 1000→PyData.eqvAll (toPys l) (toPys l')=deqs l l'
  | [],[],_,_=>rfl
  | [],_ :: _,_,_=>rfl
  | _ :: _,[],_,_=>rfl
  | a :: l,b :: l',h,h'=>by
    have h1:max (dep a) (deps l) < 1000:=h
    have h2:max (dep b) (deps l') < 1000:=h'
    show (PyData.eqv (toPy a) (toPy b) && PyData.eqvAll (toPys l) (toPys l'))=(deq a b && deqs l l')
    rw [eqv_py a b (by (clear h2 h' h; omega)) (by (clear h1 h' h; omega)),eqv_pys l l' (by (clear h2 h' h; omega)) (by (clear h1 h' h; omega))]
end
section
variable {X:Cx} {pins:List (Addr × Obj)} {σ:St} {H:Hp} {s:Shared}
mutual
theorem reads_of (I:Inv X pins σ H s):∀ {d:D} {v:V} {u:Value},dep d < 1000→Rep X.K H d v→RelV v u→∃ as,Reads s.heap u (toPy d) as
  | .non,v,u,hd,h,r=>by
    obtain rfl:v=.non:=h
    obtain rfl:u=Value.none:=r
    exact ⟨_,.none⟩
  | .bl b,v,u,hd,h,r=>by
    obtain rfl:v=.bl b:=h
    obtain rfl:u=Value.bool b:=r
    exact ⟨_,.bool b⟩
  | .int i,v,u,hd,h,r=>by
    obtain rfl:v=.int i:=h
    obtain ⟨t,rfl⟩:=r
    exact ⟨_,.int i t⟩
  | .str x,v,u,hd,h,r=>by
    obtain rfl:v=.str x:=h
    obtain ⟨t,rfl⟩:=r
    exact ⟨_,.str x t⟩
  | .tup l,v,u,hd,h,r=>by
    obtain ⟨a,vs,rfl,ht,rl⟩:=h
    obtain rfl:u=Value.ref a:=r
    obtain ⟨its,rv,⟨o,e1,e2,n,e3⟩,_⟩:=I.tuple ht
    obtain ⟨as,q⟩:=reads_all I (by have:deps l + 1 < 1000:=hd; (clear e3 e2 e1 rv rl ht hd I; omega)) rl rv
    exact ⟨_,.tuple e1 e2 e3 (by simpa using q)⟩
  | .lst l,v,u,hd,h,r=>by
    obtain ⟨a,vs,rfl,ht,rl⟩:=h
    obtain rfl:u=Value.ref a:=r
    obtain ⟨its,rv,⟨o,n,e1,e2,_,e3⟩,_⟩:=I.list (SqL.of ht)
    obtain ⟨as,q⟩:=reads_all I (by have:deps l + 1 < 1000:=hd; (clear e3 e2 e1 rv rl ht hd I; omega)) rl rv
    exact ⟨_,.list e1 e2 e3 (by simpa using q)⟩
  | .scr l,v,u,hd,h,r=>by
    obtain ⟨a,rfl,ht⟩:=h
    obtain rfl:u=Value.ref a:=r
    obtain ⟨its,rv,⟨o,n,e1,e2,_,e3⟩,_⟩:=I.list ht
    have all:∀ (l:List Int) (us:List Value),Vals (l.map V.int) us→∃ as,ReadsAll s.heap us (l.map .int) as:=by
      intro l
      induction l with
      | nil=>intro us q; cases q; exact ⟨_,.nil⟩
      | cons i l ih=>
        intro us q
        cases q with
        | cons q1 q2=>
          obtain ⟨t,rfl⟩:=q1
          obtain ⟨as,z⟩:=ih _ q2
          exact ⟨_,.cons (.int i t) z⟩
    obtain ⟨as,q⟩:=all l its rv
    exact ⟨_,.list e1 e2 e3 (by simpa using q)⟩
  | .dic _ _,v,u,hd,h,r=>absurd hd (by show ¬ (1000 < 1000); (clear r h hd I; omega))
theorem reads_all (I:Inv X pins σ H s):∀ {l:List D} {vs:List V} {us:List Value},deps l < 1000→RepL X.K H l vs→Vals vs us→∃ as,ReadsAll s.heap us (toPys l) as
  | [],vs,us,hd,h,r=>by
    have e:vs=[]:=h
    subst e
    cases r
    exact ⟨_,.nil⟩
  | d :: l,vs,us,hd,h,r=>by
    have h1:max (dep d) (deps l) < 1000:=hd
    obtain ⟨v,t,rfl,q1,q2⟩:=h
    cases r with
    | cons r1 r2=>
      obtain ⟨as,z1⟩:=reads_of I (by (clear r2 r1 q2 q1 hd I; omega)) q1 r1
      obtain ⟨bs,z2⟩:=reads_all I (by (clear z1 r2 r1 q2 q1 hd I; omega)) q2 r2
      exact ⟨_,.cons z1 z2⟩
end
theorem RV.rep {K:PySem.W.Frag} {F H:Hp} {d:D} {v:V} (fh:Same F H) (h:RV K F H d v):Rep K H d v:=by
  cases d with
  | lst l=>
    obtain ⟨a,vs,e,q,r⟩:=h
    exact ⟨a,vs,e,q,r.mono fh⟩
  | dic ks l=>
    obtain ⟨a,vs,e,q,q2,r⟩:=h
    exact ⟨a,vs,e,q,q2,r.mono fh⟩
  | _=>exact Rep.mono fh h
noncomputable def rEqD (X:Cx) (neg:Bool):R2:=fun x y H Q=>∃ d1 d2,Rep X.K H d1 x∧Rep X.K H d2 y∧dep d1 < 1000∧dep d2 < 1000∧min (dep d1) (dep d2) ≤ 50∧Q (.bl (if neg then !(deq d1 d2) else deq d1 d2)) H
theorem op_eqD (hu:X.A.units + 64 < cLine):OpR X (compareOp .Eq) (rEqD X false):=by
  intro pins s σ H x y v u Q I rx ry h
  obtain ⟨d1,d2,r1,r2,z1,z2,hd,q⟩:=h
  obtain ⟨as,ra⟩:=reads_of I z1 r1 rx
  obtain ⟨bs,rb⟩:=reads_of I z2 r2 ry
  have h1:=depth_py d1
  have h2:=depth_py d2
  refine SeqAt.compareEq_reads ra rb (lay_py d1 z1) (lay_py d2 z2) (by (clear rb ra q z2 z1 r2 r1 ry rx I; omega)) ⟨.bl (deq d1 d2),H,I,?_,q⟩
  rw [eqv_py d1 d2 z1 z2]; rfl
theorem op_neD (hu:X.A.units + 64 < cLine):OpR X (compareOp .NotEq) (rEqD X true):=by
  intro pins s σ H x y v u Q I rx ry h
  obtain ⟨d1,d2,r1,r2,z1,z2,hd,q⟩:=h
  obtain ⟨as,ra⟩:=reads_of I z1 r1 rx
  obtain ⟨bs,rb⟩:=reads_of I z2 r2 ry
  have h1:=depth_py d1
  have h2:=depth_py d2
  refine SeqAt.compareNe_reads ra rb (lay_py d1 z1) (lay_py d2 z2) (by (clear rb ra q z2 z1 r2 r1 ry rx I; omega)) ⟨.bl (!(deq d1 d2)),H,I,?_,q⟩
  rw [eqv_py d1 d2 z1 z2]; rfl
noncomputable def cEq (d1 d2:D):Option D:=if dep d1 < 1000∧dep d2 < 1000∧min (dep d1) (dep d2) ≤ 50 then some (.bl (deq d1 d2)) else none
noncomputable def cNe (d1 d2:D):Option D:=if dep d1 < 1000∧dep d2 < 1000∧min (dep d1) (dep d2) ≤ 50 then some (.bl (!(deq d1 d2))) else none
theorem cEq_ok:OpD X.K (rEqD X false) cEq:=fun F H d1 d2 d v1 v2 Q fh r1 r2 e q=>by
  unfold cEq at e
  split at e
  · rename_i h
    have e':=Option.some.inj e
    subst e'
    exact ⟨d1,d2,r1.rep fh,r2.rep fh,h.1,h.2.1,h.2.2,q _ F H (Ext.refl fh) rfl⟩
  · cases e
theorem cNe_ok:OpD X.K (rEqD X true) cNe:=fun F H d1 d2 d v1 v2 Q fh r1 r2 e q=>by
  unfold cNe at e
  split at e
  · rename_i h
    have e':=Option.some.inj e
    subst e'
    exact ⟨d1,d2,r1.rep fh,r2.rep fh,h.1,h.2.1,h.2.2,q _ F H (Ext.refl fh) rfl⟩
  · cases e
end
noncomputable def cInt (p:Int→Int→Bool):D→D→Option D
  | .int i,.int j=>some (.bl (p i j))
  | _,_=>none
theorem cInt_ok {K:PySem.W.Frag} {p:Int→Int→Bool}:OpD K (rI0 fun i j=>.bl (p i j)) (cInt p):=fun F H d1 d2 d v1 v2 Q fh r1 r2 e q=>by
  cases d1 <;> cases d2 <;> first | (simp [cInt] at e; done) | skip
  rename_i i j
  have e':=Option.some.inj e
  subst e'
  exact ⟨i,j,r1,r2,q _ F H (Ext.refl fh) rfl⟩
section
variable {X:Cx}
noncomputable def rCatT2 (K:PySem.W.Frag):R2:=fun x y H Q=>∃ a b xs ys,x=.ref a∧y=.ref b∧SqT K H a xs∧SqT K H b ys∧xs.length + ys.length ≤ sizeLine∧
  (xs=[]→Q (.ref b) H)∧(ys=[]→Q (.ref a) H)∧∀ p,H p=none→Q (.ref p) (upd H p (.tup (xs ++ ys)))
theorem op_catT2:OpR X (binaryOp .Add) (rCatT2 X.K):=by
  intro pins s σ H x y v u Q I rx ry h
  obtain ⟨a,b,xs,ys,rfl,rfl,ha,hb,hz,q0,q1,q2⟩:=h
  by_cases hx:xs=[]
  · cases rx
    cases ry
    obtain ⟨its,r1,p1,_⟩:=I.tuple ha
    obtain ⟨its2,r2,p2,_⟩:=I.tuple hb
    obtain ⟨⟨cls,dd,data,sl⟩,ho,hc,n,hd⟩:=id p1
    obtain ⟨⟨cls2,dd2,data2,sl2⟩,ho2,hc2,n2,hd2⟩:=id p2
    simp only at hc hd hc2 hd2
    subst hc hd hc2 hd2
    have e:its=[]:=r1.nil_iff.mpr hx
    exact concat_meets ⟨_,ho,rfl⟩ ⟨_,ho2,rfl⟩ noFill_tuple_add seq_tuple_add PySem.F.slot_tuple_add PySem.F.entry_tuple_add (PySem.F.args_tuple_add_2 _ _)
      (tuple_addW0 a b its.toArray its2.toArray n n2 dd dd2 sl sl2 (by simp [e])) ⟨ho,ho2,⟨.ref b,H,I,rfl,q0 hx⟩⟩
  · exact op_catT pins s σ H (.ref a) (.ref b) v u Q I rx ry ⟨a,b,xs,ys,rfl,rfl,ha,hb,hx,hz,q1,fun _=>q2⟩
end
noncomputable def opI2 (f:Int→Int→Int):D→D→Option D
  | .int i,.int j=>some (.int (f i j))
  | _,_=>none
noncomputable def opC2 (c:Int→Int→Bool) (f:Int→Int→Int):D→D→Option D
  | .int i,.int j=>if c i j=true then some (.int (f i j)) else none
  | _,_=>none
theorem opI2_ok {K:PySem.W.Frag} {f:Int→Int→Int}:OpD K (rI0 fun i j=>.int (f i j)) (opI2 f):=fun F H d1 d2 d v1 v2 Q fh r1 r2 e q=>by
  cases d1 <;> cases d2 <;> first | (simp [opI2] at e; done) | skip
  rename_i i j
  have e':=Option.some.inj e
  subst e'
  exact ⟨i,j,r1,r2,q _ F H (Ext.refl fh) rfl⟩
theorem opC2_ok {K:PySem.W.Frag} {c:Int→Int→Bool} {C:Int→Int→Prop} {f:Int→Int→Int} (hc:∀ i j,c i j=true→C i j):OpD K (rI C fun i j=>.int (f i j)) (opC2 c f):=fun F H d1 d2 d v1 v2 Q fh r1 r2 e q=>by
  cases d1 <;> cases d2 <;> first | (simp [opC2] at e; done) | skip
  rename_i i j
  have e2:(if c i j=true then some (D.int (f i j)) else none)=some d:=e
  split at e2
  · rename_i h
    have e':=Option.some.inj e2
    subst e'
    exact ⟨i,j,r1,r2,hc i j h,q _ F H (Ext.refl fh) rfl⟩
  · cases e2
noncomputable def okMod (_ j:Int):Bool:=decide (0 < j)
noncomputable def okDiv (_ j:Int):Bool:=decide (0 < j) && decide (j < 1073741824)
noncomputable def okMul (i j:Int):Bool:=(decide (-18446744073709551616 < i) && decide (i < 18446744073709551616)) || (decide (-18446744073709551616 < j) && decide (j < 18446744073709551616))
theorem okDiv_ok (i j:Int) (h:okDiv i j=true):CDiv i j:=by
  unfold okDiv at h
  rw [Bool.and_eq_true] at h
  exact ⟨of_decide_eq_true h.1,of_decide_eq_true h.2⟩
theorem okMul_ok (i j:Int) (h:okMul i j=true):CMul i j:=by
  unfold okMul at h
  rw [Bool.or_eq_true,Bool.and_eq_true,Bool.and_eq_true] at h
  have e:(2:Int) ^ 64=18446744073709551616:=by decide
  rcases h with h | h
  · exact .inl ⟨by rw [e]; exact of_decide_eq_true h.1,by rw [e]; exact of_decide_eq_true h.2⟩
  · exact .inr ⟨by rw [e]; exact of_decide_eq_true h.1,by rw [e]; exact of_decide_eq_true h.2⟩
section
variable {X:Cx}
noncomputable def rAddA (K:PySem.W.Frag):R2:=fun x y H Q=>(rI0 (fun i j=>.int (i + j))) x y H Q∨(∃ i j,x=.str i∧y=.str j∧i.length + j.length ≤ sizeLine∧Q (.str (i ++ j)) H)∨rCatT2 K x y H Q∨rCat x y H Q
theorem op_addA:OpR X (binaryOp .Add) (rAddA X.K):=OpR.or op_add (OpR.or op_add_str (OpR.or op_catT2 op_cat))
noncomputable def opAdd:D→D→Option D
  | .int i,.int j=>some (.int (i + j))
  | .str i,.str j=>if i.length + j.length ≤ big then some (.str (i ++ j)) else none
  | .tup l,.tup l'=>if l.length + l'.length ≤ big then some (.tup (l ++ l')) else none
  | .lst l,.lst l'=>if l.length + l'.length ≤ big then some (.lst (l ++ l')) else none
  | _,_=>none
theorem opAdd_ok:OpD X.K (rAddA X.K) opAdd:=fun F H d1 d2 d v1 v2 Q fh r1 r2 e q=>by
  cases d1 <;> cases d2 <;> first | (simp [opAdd] at e; done) | skip
  · rename_i i j
    have e':=Option.some.inj e
    subst e'
    exact .inl ⟨i,j,r1,r2,q _ F H (Ext.refl fh) rfl⟩
  · rename_i i j
    have e2:(if i.length + j.length ≤ big then some (D.str (i ++ j)) else none)=some d:=e
    split at e2
    · rename_i hz
      have e':=Option.some.inj e2
      subst e'
      exact .inr (.inl ⟨i,j,r1,r2,big_le hz,q _ F H (Ext.refl fh) rfl⟩)
    · cases e2
  · rename_i l l'
    have e2:(if l.length + l'.length ≤ big then some (D.tup (l ++ l')) else none)=some d:=e
    split at e2
    · rename_i hz
      have e':=Option.some.inj e2
      subst e'
      obtain ⟨a,vs,rfl,ht,rl⟩:=r1
      obtain ⟨b,ws,rfl,ht',rl'⟩:=r2
      refine .inr (.inr (.inl ⟨a,b,vs,ws,rfl,rfl,SqT.same fh ht,SqT.same fh ht',by rw [← rl.length,← rl'.length]; exact big_le hz,fun z=>?_,fun z=>?_,fun p hp=>?_⟩))
      · have:l=[]:=List.length_eq_zero_iff.mp (by rw [rl.length,z]; rfl)
        subst this
        exact q _ F H (Ext.refl fh) ⟨b,ws,rfl,ht',rl'⟩
      · have:l'=[]:=List.length_eq_zero_iff.mp (by rw [rl'.length,z]; rfl)
        subst this
        rw [List.append_nil] at q
        exact q _ F H (Ext.refl fh) ⟨a,vs,rfl,ht,rl⟩
      · have hf:=fh.free hp
        exact q _ _ _ (ext_alloc fh hp) ⟨p,vs ++ ws,rfl,SqT.of upd_same,(rl.append rl').mono (same_upd hf)⟩
    · cases e2
  · rename_i l l'
    have e2:(if l.length + l'.length ≤ big then some (D.lst (l ++ l')) else none)=some d:=e
    split at e2
    · rename_i hz
      have e':=Option.some.inj e2
      subst e'
      obtain ⟨a,vs,rfl,ht,rl⟩:=r1
      obtain ⟨b,ws,rfl,ht',rl'⟩:=r2
      refine .inr (.inr (.inr ⟨a,b,vs,ws,rfl,rfl,ht,ht',by rw [← rl.length,← rl'.length]; exact big_le hz,fun p hp=>?_⟩))
      have hf:=fh.free hp
      exact q _ _ _ (ext_alloc fh hp) ⟨p,vs ++ ws,rfl,upd_same,(rl.append rl').mono (same_upd hf)⟩
    · cases e2
noncomputable def rRepT (K:PySem.W.Frag):R2:=fun x y H Q=>∃ l k xs,x=.ref l∧y=.int k∧SqT K H l xs∧-(2 ^ 63) ≤ k∧k < 2 ^ 63∧xs.length * k.toNat ≤ sizeLine∧((xs=[]∨k=1)→Q (.ref l) H)∧
  ∀ p,H p=none→Q (.ref p) (upd H p (.tup (List.replicate k.toNat xs).flatten))
theorem op_repT:OpR X (binaryOp .Mult) (rRepT X.K):=by
  intro pins s σ H x y v u Q I rx ry h
  obtain ⟨l,k,xs,rfl,rfl,hH,h1,h2,hz,q1,q2⟩:=h
  cases rx
  obtain ⟨t,rfl⟩:=ry
  obtain ⟨its,r,p,_⟩:=I.tuple hH
  have hlen:=r.length
  refine mul_tup p h1 h2 (by rw [← hlen]; exact hz) (fun z=>⟨.ref l,H,I,rfl,q1 ?_⟩) ?_
  · rcases z with z | z
    · exact .inl (r.nil_iff.mp z)
    · exact .inr z
  · refine ⟨.ref s.heap.objs.size,_,I.laid (t':=s.toks) (o:=.tup (List.replicate k.toNat xs).flatten) (fun b ob q=>Heap.get?_push_of_some _ q) (Nat.le_refl _) ?_,rfl,q2 _ I.fresh⟩
    exact ⟨by rw [len_rep,Nat.mul_comm]; exact hz,_,r.rep k.toNat,IsTup.new _ _⟩
noncomputable def rMulA (K:PySem.W.Frag):R2:=fun x y H Q=>(rI CMul (fun i j=>.int (i * j))) x y H Q∨rRepT K x y H Q∨rRep x y H Q
theorem op_mulA:OpR X (binaryOp .Mult) (rMulA X.K):=OpR.or op_mul (OpR.or op_repT op_rep)
noncomputable def okRep (n:Nat) (k:Int):Bool:=decide (k ≤ 100000) && decide (-100000 ≤ k) && decide (n * k.toNat ≤ big)
noncomputable def opMul:D→D→Option D
  | .int i,.int j=>if okMul i j=true then some (.int (i * j)) else none
  | .tup l,.int k=>if okRep l.length k=true then some (.tup (List.replicate k.toNat l).flatten) else none
  | .lst l,.int k=>if okRep l.length k=true then some (.lst (List.replicate k.toNat l).flatten) else none
  | _,_=>none
theorem okRep_ok {n:Nat} {k:Int} (h:okRep n k=true):-(2 ^ 63) ≤ k∧k < 2 ^ 63∧n * k.toNat ≤ sizeLine:=by
  unfold okRep at h
  rw [Bool.and_eq_true,Bool.and_eq_true] at h
  have h1:=of_decide_eq_true h.1.1
  have h2:=of_decide_eq_true h.1.2
  exact ⟨by (clear h1 h; omega),by (clear h2 h; omega),big_le (of_decide_eq_true h.2)⟩
theorem opMul_ok:OpD X.K (rMulA X.K) opMul:=fun F H d1 d2 d v1 v2 Q fh r1 r2 e q=>by
  cases d1 <;> cases d2 <;> first | (simp [opMul] at e; done) | skip
  · rename_i i j
    have e2:(if okMul i j=true then some (D.int (i * j)) else none)=some d:=e
    split at e2
    · rename_i hz
      have e':=Option.some.inj e2
      subst e'
      exact .inl ⟨i,j,r1,r2,okMul_ok i j hz,q _ F H (Ext.refl fh) rfl⟩
    · cases e2
  · rename_i l k
    have e2:(if okRep l.length k=true then some (D.tup (List.replicate k.toNat l).flatten) else none)=some d:=e
    split at e2
    · rename_i hz
      have e':=Option.some.inj e2
      subst e'
      obtain ⟨a,vs,rfl,ht,rl⟩:=r1
      obtain ⟨b1,b2,b3⟩:=okRep_ok hz
      refine .inr (.inl ⟨a,k,vs,rfl,r2,SqT.same fh ht,b1,b2,by rw [← rl.length]; exact b3,fun z=>?_,fun p hp=>?_⟩)
      · have el:(List.replicate k.toNat l).flatten=l:=by
          rcases z with z | z
          · have:l=[]:=List.length_eq_zero_iff.mp (by rw [rl.length,z]; rfl)
            subst this
            exact List.length_eq_zero_iff.mp (by rw [len_rep]; simp)
          · subst z
            show (List.replicate 1 l).flatten=l
            simp
        rw [el] at q
        exact q _ F H (Ext.refl fh) ⟨a,vs,rfl,ht,rl⟩
      · have hf:=fh.free hp
        exact q _ _ _ (ext_alloc fh hp) ⟨p,_,rfl,SqT.of upd_same,(rl.rep k.toNat).mono (same_upd hf)⟩
    · cases e2
  · rename_i l k
    have e2:(if okRep l.length k=true then some (D.lst (List.replicate k.toNat l).flatten) else none)=some d:=e
    split at e2
    · rename_i hz
      have e':=Option.some.inj e2
      subst e'
      obtain ⟨a,vs,rfl,ht,rl⟩:=r1
      obtain ⟨b1,b2,b3⟩:=okRep_ok hz
      refine .inr (.inr ⟨a,k,vs,rfl,r2,ht,b1,b2,by rw [← rl.length]; exact b3,fun p hp=>?_⟩)
      have hf:=fh.free hp
      exact q _ _ _ (ext_alloc fh hp) ⟨p,_,rfl,upd_same,(rl.rep k.toNat).mono (same_upd hf)⟩
    · cases e2
noncomputable def uNeg:D→Option D
  | .int i=>some (.int (-i))
  | _=>none
theorem uNeg_ok:UnD X.K (rU fun i=>.int (-i)) uNeg:=fun F H d1 d v1 Q fh r1 e q=>by
  cases d1 <;> first | (simp [uNeg] at e; done) | skip
  rename_i i
  have e':=Option.some.inj e
  subst e'
  exact ⟨i,r1,q _ F H (Ext.refl fh) rfl⟩
end
section
variable {X:Cx} {F0 H0:Hp} {xq:Addr→Hp→Prop} {pos:Pos} {a b c:Expr} {fa fb fc:DS→M VR}
theorem de_add (ha:DE X F0 H0 xq a fa) (hb:DE X F0 H0 xq b fb):DE X F0 H0 xq (.BinOp a .Add b pos) (dBin opAdd fa fb):=de_bin op_addA opAdd_ok ha hb
theorem de_sub (ha:DE X F0 H0 xq a fa) (hb:DE X F0 H0 xq b fb):DE X F0 H0 xq (.BinOp a .Sub b pos) (dBin (opI2 fun i j=>i - j) fa fb):=de_bin op_sub opI2_ok ha hb
theorem de_mul (ha:DE X F0 H0 xq a fa) (hb:DE X F0 H0 xq b fb):DE X F0 H0 xq (.BinOp a .Mult b pos) (dBin opMul fa fb):=de_bin op_mulA opMul_ok ha hb
theorem de_div (ha:DE X F0 H0 xq a fa) (hb:DE X F0 H0 xq b fb):DE X F0 H0 xq (.BinOp a .FloorDiv b pos) (dBin (opC2 okDiv fun i j=>i / j) fa fb):=de_bin op_fdiv (opC2_ok okDiv_ok) ha hb
theorem de_mod (ha:DE X F0 H0 xq a fa) (hb:DE X F0 H0 xq b fb):DE X F0 H0 xq (.BinOp a .Mod b pos) (dBin (opC2 okMod fun i j=>i % j) fa fb):=de_bin op_mod (opC2_ok fun _ _ h=>of_decide_eq_true h) ha hb
theorem de_neg (ha:DE X F0 H0 xq a fa):DE X F0 H0 xq (.UnaryOp .USub a pos) (dUn uNeg fa):=de_un un_neg uNeg_ok ha
noncomputable abbrev cLt:=cInt fun i j=>decide (i < j)
noncomputable abbrev cLe:=cInt fun i j=>decide (i ≤ j)
noncomputable abbrev cGt:=cInt fun i j=>decide (j < i)
noncomputable abbrev cGe:=cInt fun i j=>decide (j ≤ i)
theorem de_lt (ha:DE X F0 H0 xq a fa) (hb:DE X F0 H0 xq b fb):DE X F0 H0 xq (.Compare a [.Lt] [b] pos) (dBin cLt fa fb):=de_cmp op_lt cInt_ok ha hb (nomark _)
theorem de_gt (ha:DE X F0 H0 xq a fa) (hb:DE X F0 H0 xq b fb):DE X F0 H0 xq (.Compare a [.Gt] [b] pos) (dBin cGt fa fb):=de_cmp op_gt cInt_ok ha hb (nomark _)
theorem de_eq (hu:X.A.units + 64 < cLine) (ha:DE X F0 H0 xq a fa) (hb:DE X F0 H0 xq b fb):DE X F0 H0 xq (.Compare a [.Eq] [b] pos) (dBin cEq fa fb):=de_cmp (op_eqD hu) cEq_ok ha hb (nomark _)
theorem de_ne (hu:X.A.units + 64 < cLine) (ha:DE X F0 H0 xq a fa) (hb:DE X F0 H0 xq b fb):DE X F0 H0 xq (.Compare a [.NotEq] [b] pos) (dBin cNe fa fb):=de_cmp (op_neD hu) cNe_ok ha hb (nomark _)
theorem dt_lt (ha:DE X F0 H0 xq a fa) (hb:DE X F0 H0 xq b fb):DT X F0 H0 xq (.Compare a [.Lt] [b] pos) (dtB (dBin cLt fa fb)):=dt_cmp op_lt cInt_ok ha hb (nomark _)
theorem dt_gt (ha:DE X F0 H0 xq a fa) (hb:DE X F0 H0 xq b fb):DT X F0 H0 xq (.Compare a [.Gt] [b] pos) (dtB (dBin cGt fa fb)):=dt_cmp op_gt cInt_ok ha hb (nomark _)
theorem dt_ge (ha:DE X F0 H0 xq a fa) (hb:DE X F0 H0 xq b fb):DT X F0 H0 xq (.Compare a [.GtE] [b] pos) (dtB (dBin cGe fa fb)):=dt_cmp op_ge cInt_ok ha hb (nomark _)
theorem dt_eq (hu:X.A.units + 64 < cLine) (ha:DE X F0 H0 xq a fa) (hb:DE X F0 H0 xq b fb):DT X F0 H0 xq (.Compare a [.Eq] [b] pos) (dtB (dBin cEq fa fb)):=dt_cmp (op_eqD hu) cEq_ok ha hb (nomark _)
theorem dt_ne (hu:X.A.units + 64 < cLine) (ha:DE X F0 H0 xq a fa) (hb:DE X F0 H0 xq b fb):DT X F0 H0 xq (.Compare a [.NotEq] [b] pos) (dtB (dBin cNe fa fb)):=dt_cmp (op_neD hu) cNe_ok ha hb (nomark _)
theorem de_lele (ha:DE X F0 H0 xq a fa) (hb:DE X F0 H0 xq b fb) (hc:DE X F0 H0 xq c fc) (hm:lastMarks [.LtE,.LtE] [b,c]=false:=by with_unfolding_all rfl):DE X F0 H0 xq (.Compare a [.LtE,.LtE] [b,c] pos) (dChain cLe cLe fa fb fc):=de_chain op_le op_le cInt_ok cInt_ok ha hb hc hm
noncomputable def uLen:D→Option D
  | .tup l=>some (.int l.length)
  | .lst l=>some (.int l.length)
  | .scr l=>some (.int l.length)
  | .str x=>if x.length ≤ big then some (.int x.length) else none
  | _=>none
noncomputable def rLen (K:PySem.W.Frag):List V→Hp→VK→Prop:=fun xs H Q=>(∃ p ys,xs=[.ref p]∧(SqL K H p ys∨SqT K H p ys)∧Q (.int ys.length) H)∨(∃ z,xs=[.str z]∧z.length ≤ sizeLine∧Q (.int z.length) H)
theorem uLen_ok:UnD X.K (fun x H Q=>rLen X.K [x] H Q) uLen:=fun F H d1 d v1 Q fh r1 e q=>by
  cases d1 <;> first | (simp [uLen] at e; done) | skip
  · rename_i z
    have e2:(if z.length ≤ big then some (D.int z.length) else none)=some d:=e
    split at e2
    · rename_i hz
      have e':=Option.some.inj e2
      subst e'
      obtain rfl:v1=.str z:=r1
      exact .inr ⟨z,rfl,big_le hz,q _ F H (Ext.refl fh) rfl⟩
    · cases e2
  · rename_i l
    have e':=Option.some.inj e
    subst e'
    obtain ⟨a,vs,rfl,ht,rl⟩:=r1
    refine .inl ⟨a,vs,rfl,.inr (SqT.same fh ht),?_⟩
    rw [← rl.length]
    exact q _ F H (Ext.refl fh) rfl
  · rename_i l
    have e':=Option.some.inj e
    subst e'
    obtain ⟨a,vs,rfl,ht,rl⟩:=r1
    refine .inl ⟨a,vs,rfl,.inl (SqL.of ht),?_⟩
    rw [← rl.length]
    exact q _ F H (Ext.refl fh) rfl
  · rename_i l
    have e':=Option.some.inj e
    subst e'
    obtain ⟨a,rfl,ht⟩:=r1
    refine .inl ⟨a,_,rfl,.inl (fh.seq ht),?_⟩
    rw [List.length_map]
    exact q _ F H (Ext.refl fh) rfl
theorem de_len {p:Pos} (hgl:Gl X "len") (hm:X.mg "len" = none) (ha:DE X F0 H0 xq a fa) (he:starEach [a] X.env=(false,eval a X.env) :: starEach [] X.env:=by rfl):DE X F0 H0 xq (.Call (.Name "len" p) [a] [] pos) (dUn uLen fa):=
  de_b1 (r:=rLen X.K) (CallR.or call_len_seq call_len_str) uLen_ok hgl hm PySem.boot_len ha (by decide) (by decide) he
noncomputable def uInt:D→Option D
  | .int i=>some (.int i)
  | .bl k=>some (.int (if k then 1 else 0))
  | _=>none
theorem uInt_ok:UnD X.K (fun x H Q=>(∃ i,[x]=[V.int i]∧Q (.int i) H)∨∃ k,[x]=[V.bl k]∧Q (.int (if k then 1 else 0)) H) uInt:=fun F H d1 d v1 Q fh r1 e q=>by
  cases d1 <;> first | (simp [uInt] at e; done) | skip
  · rename_i k
    have e':=Option.some.inj e
    subst e'
    obtain rfl:v1=.bl k:=r1
    exact .inr ⟨k,rfl,q _ F H (Ext.refl fh) rfl⟩
  · rename_i i
    have e':=Option.some.inj e
    subst e'
    obtain rfl:v1=.int i:=r1
    exact .inl ⟨i,rfl,q _ F H (Ext.refl fh) rfl⟩
theorem de_int1 {p:Pos} (hgl:Gl X "int") (hm:X.mg "int" = none) (ha:DE X F0 H0 xq a fa) (he:starEach [a] X.env=(false,eval a X.env) :: starEach [] X.env:=by rfl):DE X F0 H0 xq (.Call (.Name "int" p) [a] [] pos) (dUn uInt fa):=
  de_t1 call_int1 uInt_ok hgl hm (by rfl) ha (by decide) (by decide) he
noncomputable def uStr:D→Option D
  | .int i=>if (decide (-1000000000000 ≤ i) && decide (i ≤ 1000000000000))=true then some (.str (toString i)) else none
  | _=>none
noncomputable def uTup:D→Option D
  | .tup l=>some (.tup l)
  | .lst l=>some (.tup l)
  | _=>none
theorem uTup_ok:UnD X.K (fun x H Q=>∃ p ys,[x]=[V.ref p]∧((SqL X.K H p ys∧∀ l,H l=none→Q (.ref l) (upd H l (.tup ys)))∨(SqT X.K H p ys∧Q (.ref p) H))) uTup:=fun F H d1 d v1 Q fh r1 e q=>by
  cases d1 <;> first | (simp [uTup] at e; done) | skip
  · rename_i l
    have e':=Option.some.inj e
    subst e'
    obtain ⟨a,vs,rfl,ht,rl⟩:=r1
    exact ⟨a,vs,rfl,.inr ⟨SqT.same fh ht,q _ F H (Ext.refl fh) ⟨a,vs,rfl,ht,rl⟩⟩⟩
  · rename_i l
    have e':=Option.some.inj e
    subst e'
    obtain ⟨a,vs,rfl,ht,rl⟩:=r1
    exact ⟨a,vs,rfl,.inl ⟨SqL.of ht,fun p hp=>q _ _ _ (ext_alloc fh hp) ⟨p,vs,rfl,SqT.of upd_same,rl.mono (same_upd (fh.free hp))⟩⟩⟩
theorem de_tuple1 {p:Pos} (hgl:Gl X "tuple") (hm:X.mg "tuple" = none) (ha:DE X F0 H0 xq a fa) (he:starEach [a] X.env=(false,eval a X.env) :: starEach [] X.env:=by rfl):DE X F0 H0 xq (.Call (.Name "tuple" p) [a] [] pos) (dUn uTup fa):=
  de_t1 call_tuple_of uTup_ok hgl hm (by rfl) ha (by decide) (by decide) he
noncomputable def dList1 (f:DS→M VR):DS→M (List D):=fun S=>mb (f S) fun r=>match toD r with
  | .tup l=>some (.ok l)
  | .lst l=>some (.ok l)
  | .scr l=>some (.ok (l.map .int))
  | _=>none
theorem df_list1 {p:Pos} (hgl:Gl X "list") (hm:X.mg "list" = none) (ha:DE X F0 H0 xq a fa) (he:starEach [a] X.env=(false,eval a X.env) :: starEach [] X.env:=by rfl):DF X F0 H0 xq (.Call (.Name "list" p) [a] [] pos) (dList1 fa):=.mk fun pins s σ H Q I q=>by
  refine pe_callTy call_list_of hgl hm (by rfl) (pa_cons ha.h pa_nil he) (by decide) (by decide) he rfl pins s σ H Q I ?_
  obtain ⟨F,S,sk,o⟩:=q
  refine ⟨F,S,sk,outE.mbF o fun r v F1 H1 e1 q1 o1=>?_⟩
  have rv:=RR.rv e1.fh q1
  have fin:∀ (vs:List V) (l:List D),RepL X.K F1 l vs→outF X.K xq F1 H1 Q (some (.ok l))→∀ p,H1 p=none→Q (.ref p) (upd H1 p (.lst vs)):=fun vs l rl o2 p hp=>o2 p vs F1 _ (ext_own e1.fh hp) hp (e1.fh.free hp) upd_same rl
  generalize toD r=d at rv o1
  cases d <;> first | (exact False.elim o1) | skip
  · rename_i l
    obtain ⟨a',vs,rfl,ht,rl⟩:=rv
    exact ⟨a',vs,rfl,.inr (SqT.same e1.fh ht),fin vs l rl o1⟩
  · rename_i l
    obtain ⟨a',vs,rfl,ht,rl⟩:=rv
    exact ⟨a',vs,rfl,.inl (SqL.of ht),fin vs l rl o1⟩
  · rename_i l
    obtain ⟨a',rfl,ht⟩:=rv
    exact ⟨a',_,rfl,.inl (e1.fh.seq ht),fin _ _ (repL_ints l) o1⟩
noncomputable def tyN:D→String
  | .non => "NoneType"
  | .bl _ => "bool"
  | .int _ => "int"
  | .str _ => "str"
  | .tup _ => "tuple"
  | .lst _ => "list"
  | .scr _ => "list"
  | .dic _ _ => "dict"
noncomputable def isiB (t T:String):Bool:=t == T || (t == "bool" && T == "int")
end
end PF
set_option Elab.async false
set_option linter.all false
set_option maxRecDepth 100000
set_option maxHeartbeats 400000
namespace PF
open PySem PySem.Spec L2
open PyProof.Rows hiding St
section
variable {X:Cx} {F0 H0:Hp} {xq:Addr→Hp→Prop} {pos:Pos} {a b c:Expr} {fa fb fc:DS→M VR}
theorem isi_list {pins:List (Addr × Obj)} {σ:St} {H:Hp} {s:Shared} {A:Around} {E:Value→Shared→Prop} {Q:Value→Shared→Prop} {c:Value} {k:Bool} {a:Addr} {xs:List V} (I:Inv X pins σ H s) (h:SqL X.K H a xs) (e:PySem.W.kitOne X.K (.type "list") c=some k)
    (q:∀ tk,Q (.bool k) { s with toks:=tk }):wpAny (model X.prog X.w) A (call (.builtin "isinstance") [.ref a,c]) Q E s:=by
  obtain ⟨its,_,⟨o,n,e1,e2,_⟩,_⟩:=I.list h
  exact PySem.W.kia_one PySem.W.kitx_list I.kIn ⟨o,e1,e2⟩ e (fun z=>nomatch z) q
theorem isi_tuple {pins:List (Addr × Obj)} {σ:St} {H:Hp} {s:Shared} {A:Around} {E:Value→Shared→Prop} {Q:Value→Shared→Prop} {c:Value} {k:Bool} {a:Addr} {xs:List V} (I:Inv X pins σ H s) (h:SqT X.K H a xs) (e:PySem.W.kitOne X.K (.type "tuple") c=some k)
    (q:∀ tk,Q (.bool k) { s with toks:=tk }):wpAny (model X.prog X.w) A (call (.builtin "isinstance") [.ref a,c]) Q E s:=by
  obtain ⟨its,_,⟨o,e1,e2,_⟩,_⟩:=I.tuple h
  exact PySem.W.kia_one PySem.W.kitx_tuple I.kIn ⟨o,e1,e2⟩ e (fun z=>nomatch z) q
noncomputable def rIsi (K:PySem.W.Frag) (T:String):List V→Hp→VK→Prop:=fun xs H Q=>∃ x d,xs=[x,.ty T]∧Rep K H d x∧Q (.bl (isiB (tyN d) T)) H
theorem call_isi (T:String) (h:∀ K:PySem.W.Frag,∀ d:D,PySem.W.kitOne K (.type (tyN d)) (.type T)=some (isiB (tyN d) T)):CallR X (.builtin "isinstance") (rIsi X.K T):=by
  intro pins s σ H xs us Q I r q
  obtain ⟨x,d,rfl,rp,q⟩:=q
  obtain ⟨u,w',rfl,rx,rt⟩:=vals2 r
  cases rt
  have e:=h X.K d
  have fin:∀ tk,EP X pins σ Q (.bool (isiB (tyN d) T)) { s with toks:=tk }:=fun tk=>⟨.bl _,H,I.tok tk,rfl,q⟩
  cases d with
  | non=>obtain rfl:x=.non:=rp; exact isinst_ok I rx (TyOf.non) e fin
  | bl y=>obtain rfl:x=.bl y:=rp; exact isinst_ok I rx (TyOf.bl y) e fin
  | int y=>obtain rfl:x=.int y:=rp; exact isinst_ok I rx (TyOf.int y) e fin
  | str y=>obtain rfl:x=.str y:=rp; exact isinst_ok I rx (TyOf.str y) e fin
  | tup l=>obtain ⟨a,vs,rfl,ht,_⟩:=rp; cases rx; exact isi_tuple I ht e fin
  | lst l=>obtain ⟨a,vs,rfl,ht,_⟩:=rp; cases rx; exact isi_list I (SqL.of ht) e fin
  | scr l=>obtain ⟨a,rfl,ht⟩:=rp; cases rx; exact isi_list I ht e fin
  | dic ks l=>obtain ⟨a,kvs,rfl,ht,_⟩:=rp; exact isinst_ok I rx (TyOf.dK ht) e fin
noncomputable def uIsiT (T:String):D→Option D:=fun d=>some (.bl (isiB (tyN d) T))
theorem de_isi (T:String) (h:∀ K:PySem.W.Frag,∀ d:D,PySem.W.kitOne K (.type (tyN d)) (.type T)=some (isiB (tyN d) T)) {x:Str} {p p2:Pos} (hb:bootBuiltins x=some (.type T)) (hxn:x ≠ "__name__") (hxd:(x == ("__debug__" : Str))=false)
    (hgl:Gl X "isinstance") (hm:X.mg "isinstance" = none) (hgl2:Gl X x) (hm2:X.mg x=none) (ha:DE X F0 H0 xq a fa) (he:starEach [a,.Name x p2] X.env=(false,eval a X.env) :: starEach [.Name x p2] X.env) (he2:starEach [.Name x p2] X.env=(false,eval (.Name x p2) X.env) :: starEach [] X.env) (hpl:(backTo pos (starEach [.Name x p2] X.env)).any (·.1)=false) :
    DE X F0 H0 xq (.Call (.Name "isinstance" p) [a,.Name x p2] [] pos) (dUn (uIsiT T) fa):=.mk fun pins s σ H Q I q=>by
  refine pe_callB (call_isi T h) hgl hm (by decide +kernel) (pa_cons ha.h (pa_cons (pe_bltn (v:=.ty T) hgl2 hm2 hb rfl hxn hxd) pa_nil he2) he) (by decide) (by decide) he hpl pins s σ H Q I ?_
  obtain ⟨F,S,sk,o⟩:=q
  refine ⟨F,S,sk,outE.mb o fun r v F1 H1 e1 q1 o1=>?_⟩
  exact ⟨v,toD r,rfl,RR.rep e1.fh q1,o1 _ F1 H1 (Ext.refl e1.fh) rfl⟩
theorem kit_bool (K:PySem.W.Frag) (d:D):PySem.W.kitOne K (.type (tyN d)) (.type "bool")=some (isiB (tyN d) "bool"):=by cases d <;> rfl
theorem kit_int (K:PySem.W.Frag) (d:D):PySem.W.kitOne K (.type (tyN d)) (.type "int")=some (isiB (tyN d) "int"):=by cases d <;> rfl
theorem kit_tuple (K:PySem.W.Frag) (d:D):PySem.W.kitOne K (.type (tyN d)) (.type "tuple")=some (isiB (tyN d) "tuple"):=by cases d <;> rfl
theorem boot_b:bootBuiltins "bool" = some (.type "bool"):=by decide +kernel
theorem boot_i:bootBuiltins "int" = some (.type "int"):=by decide +kernel
theorem boot_t:bootBuiltins "tuple" = some (.type "tuple"):=by decide +kernel
variable {p p2:Pos}
theorem de_isi_bool (hgl:Gl X "isinstance") (hm:X.mg "isinstance" = none) (hgl2:Gl X "bool") (hm2:X.mg "bool" = none) (ha:DE X F0 H0 xq a fa) (he:starEach [a,.Name "bool" p2] X.env=(false,eval a X.env) :: starEach [.Name "bool" p2] X.env:=by rfl):DE X F0 H0 xq (.Call (.Name "isinstance" p) [a,.Name "bool" p2] [] pos) (dUn (uIsiT "bool") fa):=
  de_isi "bool" kit_bool boot_b (by decide) (by decide) hgl hm hgl2 hm2 ha he rfl rfl
theorem de_isi_int (hgl:Gl X "isinstance") (hm:X.mg "isinstance" = none) (hgl2:Gl X "int") (hm2:X.mg "int" = none) (ha:DE X F0 H0 xq a fa) (he:starEach [a,.Name "int" p2] X.env=(false,eval a X.env) :: starEach [.Name "int" p2] X.env:=by rfl):DE X F0 H0 xq (.Call (.Name "isinstance" p) [a,.Name "int" p2] [] pos) (dUn (uIsiT "int") fa):=
  de_isi "int" kit_int boot_i (by decide) (by decide) hgl hm hgl2 hm2 ha he rfl rfl
theorem de_isi_tuple (hgl:Gl X "isinstance") (hm:X.mg "isinstance" = none) (hgl2:Gl X "tuple") (hm2:X.mg "tuple" = none) (ha:DE X F0 H0 xq a fa) (he:starEach [a,.Name "tuple" p2] X.env=(false,eval a X.env) :: starEach [.Name "tuple" p2] X.env:=by rfl):DE X F0 H0 xq (.Call (.Name "isinstance" p) [a,.Name "tuple" p2] [] pos) (dUn (uIsiT "tuple") fa):=
  de_isi "tuple" kit_tuple boot_t (by decide) (by decide) hgl hm hgl2 hm2 ha he rfl rfl
noncomputable def bools:List D→Option (List Bool)
  | []=>some []
  | .bl b :: l=>(bools l).map (b :: ·)
  | _ :: _=>none
noncomputable def uAll:D→Option D
  | .lst l=>(bools l).map fun bs=>.bl (bs.all id)
  | _=>none
noncomputable def opIx:D→D→Option D
  | .tup l,.int i=>atI l i
  | .lst l,.int i=>atI l i
  | .scr l,.int i=>(atI l i).map .int
  | .str x,.int i=>if x.length ≤ big then (atI x.cps.toList i).map fun c=>.str ⟨#[c]⟩ else none
  | _,_=>none
theorem RepL.atI {K:PySem.W.Frag} {F:Hp} {l:List D} {vs:List V} {i:Int} {d:D} (r:RepL K F l vs) (h:L2.atI l i=some d):∃ v,L2.atI vs i=some v∧Rep K F d v:=by
  unfold L2.atI at h ⊢
  rw [← r.length]
  cases z:ixN l.length i with
  | none=>rw [z] at h; cases h
  | some j=>
    rw [z] at h
    exact r.get h
theorem atI_map {α β:Type} (f:α→β) (l:List α) (i:Int):L2.atI (l.map f) i=(L2.atI l i).map f:=by
  unfold L2.atI
  rw [List.length_map]
  cases ixN l.length i with
  | none=>rfl
  | some j=>simp
theorem opIx_ok:OpD X.K (rIx X.K) opIx:=fun F H d1 d2 d v1 v2 Q fh r1 r2 e q=>by
  cases d1 <;> cases d2 <;> first | (simp [opIx] at e; done) | skip
  · rename_i x i
    have e2:(if x.length ≤ big then (L2.atI x.cps.toList i).map fun c=>D.str ⟨#[c]⟩ else none)=some d:=e
    split at e2
    · rename_i hz
      cases z:L2.atI x.cps.toList i with
      | none=>rw [z] at e2; cases e2
      | some c=>
        rw [z] at e2
        have e':=Option.some.inj e2
        subst e'
        exact .inr (.inr ⟨x,i,c,r1,r2,big_le hz,z,q _ F H (Ext.refl fh) rfl⟩)
    · cases e2
  · rename_i l i
    obtain ⟨a,vs,rfl,ht,rl⟩:=r1
    obtain ⟨v,h1,h2⟩:=rl.atI e
    exact .inr (.inl ⟨a,vs,i,v,rfl,r2,SqT.same fh ht,h1,q v F H (Ext.refl fh) h2⟩)
  · rename_i l i
    obtain ⟨a,vs,rfl,ht,rl⟩:=r1
    obtain ⟨v,h1,h2⟩:=rl.atI e
    exact .inl ⟨a,vs,i,v,rfl,r2,SqL.of ht,h1,q v F H (Ext.refl fh) h2⟩
  · rename_i l i
    obtain ⟨a,rfl,ht⟩:=r1
    have e2:(L2.atI l i).map D.int=some d:=e
    cases z:L2.atI l i with
    | none=>rw [z] at e2; cases e2
    | some n=>
      rw [z] at e2
      have e':=Option.some.inj e2
      subst e'
      exact .inl ⟨a,l.map V.int,i,.int n,rfl,r2,fh.seq ht,by rw [atI_map,z]; rfl,q _ F H (Ext.refl fh) rfl⟩
theorem de_ix (ha:DE X F0 H0 xq a fa) (hb:DE X F0 H0 xq b fb) (hs:PlainIx b):DE X F0 H0 xq (.Subscript a b pos) (dBin opIx fa fb):=.mk fun pins s σ H Q I h=>pe_ix ix_seq ha.h hb.h hs pins s σ H Q I (tOp_of opIx_ok h)
noncomputable def dBinF (g:D→D→Option D) (fa fb:DS→M VR):DS→M (List D):=fun S=>mb (fa S) fun r1=>mb (fb S) fun r2=>match g (toD r1) (toD r2) with
  | some (.lst l)=>some (.ok l)
  | _=>none
theorem df_mul (ha:DE X F0 H0 xq a fa) (hb:DE X F0 H0 xq b fb):DF X F0 H0 xq (.BinOp a .Mult b pos) (dBinF opMul fa fb):=.mk fun pins s σ H Q I h=>by
  refine pe_op op_rep ha.h hb.h pins s σ H Q I ?_
  obtain ⟨F,S,st,o⟩:=h
  refine ⟨F,S,st,outE.mbF o fun r1 v1 F1 H1 e1 q1 o1=>?_⟩
  refine ⟨F1,S,st.step e1,outE.mbF o1 fun r2 v2 F2 H2 e2 q2 o2=>?_⟩
  have rv1:=RR.rv e2.fh (RR.step e2 q1)
  have rv2:=RR.rv e2.fh q2
  generalize toD r1=d1 at rv1 o2
  generalize toD r2=d2 at rv2 o2
  have key:∃ l k,d1=.lst l∧d2=.int k∧okRep l.length k=true:=by
    cases d1 <;> cases d2 <;> first | (exact False.elim o2) | skip
    · rename_i i j
      by_cases hz:okMul i j=true
      · simp only [opMul,if_pos hz] at o2; exact False.elim o2
      · simp only [opMul,if_neg hz] at o2; exact False.elim o2
    · rename_i i j
      by_cases hz:okRep i.length j=true
      · simp only [opMul,if_pos hz] at o2; exact False.elim o2
      · simp only [opMul,if_neg hz] at o2; exact False.elim o2
    · rename_i i j
      by_cases hz:okRep i.length j=true
      · exact ⟨i,j,rfl,rfl,hz⟩
      · simp only [opMul,if_neg hz] at o2; exact False.elim o2
  obtain ⟨l,k,rfl,rfl,hz⟩:=key
  simp only [opMul,if_pos hz] at o2
  obtain ⟨x,vs,rfl,ht,rl⟩:=rv1
  obtain ⟨b1,b2,b3⟩:=okRep_ok hz
  exact ⟨x,k,vs,rfl,rv2,ht,b1,b2,by rw [← rl.length]; exact b3,fun p hp=>o2 p _ F2 _ (ext_own e2.fh hp) hp (e2.fh.free hp) upd_same (rl.rep k.toNat)⟩
noncomputable def outO (xq:Addr→Hp→Prop) (F H:Hp) (Q:Option Int→Hp→Prop):M (Option Int)→Prop
  | none=>False
  | some (.error c)=>∀ H',Same H H'→xq c H'
  | some (.ok o)=>∀ F' H',Ext F H F' H'→Q o H'
noncomputable def tO (K:PySem.W.Frag) (F0 H0:Hp) (xq:Addr→Hp→Prop) (f:DS→M (Option Int)):TO:=fun σ H Q=>∃ F S,StOk K F0 H0 F H σ S∧outO xq F H Q (f S)
structure DO (X:Cx) (F0 H0:Hp) (xq:Addr→Hp→Prop) (e:Option Expr) (f:DS→M (Option Int)):Prop where
  mk ::
  h:PO X e (tO X.K F0 H0 xq f)
noncomputable def dNoPart:DS→M (Option Int):=fun _=>some (.ok none)
noncomputable def dPart (f:DS→M VR):DS→M (Option Int):=fun S=>mb (f S) fun r=>match r with
  | .ok (.int i)=>some (.ok (some i))
  | _=>none
theorem do_none:DO X F0 H0 xq none dNoPart:=.mk fun pins s σ H Q I ⟨F,S,sk,o⟩=>po_none pins s σ H Q I (o F H (Ext.refl sk.ext.fh))
theorem outO.step {F H F' H':Hp} {Q:Option Int→Hp→Prop} {x:M (Option Int)} (e:Ext F H F' H') (h:outO xq F H Q x):outO xq F' H' Q x:=by
  match x,h with
  | some (.error c),h=>exact fun H2 s=>h H2 (e.hh.trans s)
  | some (.ok b),h=>exact fun F2 H2 e2=>h F2 H2 (e.trans e2)
theorem do_some (h:DE X F0 H0 xq a fa):DO X F0 H0 xq (some a) (dPart fa):=.mk fun pins s σ H Q I q=>by
  refine po_some h.h pins s σ H Q I ?_
  obtain ⟨F,S,sk,o⟩:=q
  refine ⟨F,S,sk,outE.bind (G:=fun F H z=>outO xq F H Q z) (fun e h=>outO.step e h) (fun _ _ h=>h) (fun _ _ _ h=>h) o fun r v F1 H1 e1 q1 o1=>?_⟩
  cases r with
  | bor l=>exact False.elim o1
  | bod ks l=>exact False.elim o1
  | ok d=>
    cases d with
    | int i=>exact ⟨i,q1,o1 F1 H1 (Ext.refl e1.fh)⟩
    | _=>exact False.elim o1
noncomputable def rSlT2 (K:PySem.W.Frag):V→Option Int→Option Int→Hp→VK→Prop:=fun x lo hi H Q=>∃ a xs,x=.ref a∧SqT K H a xs∧(cutV xs lo hi=xs→Q (.ref a) H)∧∀ p,H p=none→Q (.ref p) (upd H p (.tup (cutV xs lo hi)))
theorem sl_tup2:SlR X (rSlT2 X.K):=by
  intro pins s σ H x v vl vu lo hi sl Q I rx hs pl pu h
  obtain ⟨a,xs,rfl,hx,q1,q2⟩:=h
  by_cases hw:HT.sIx xs.length 0 lo=0∧HT.sIx xs.length xs.length hi=xs.length
  · cases rx
    obtain ⟨its,r,ht,hz⟩:=I.tuple hx
    have hlen:its.toArray.size=xs.length:=by rw [List.size_toArray]; exact r.length.symm
    refine ⟨"tuple",_,PyProof.Rows.slot_tuple_getitem.lookup,ht.typeIs,?_⟩
    have ecut:cutV xs lo hi=xs:=by
      unfold cutV
      rw [hw.1,hw.2,List.drop_zero,Nat.sub_zero,List.take_length]
    refine getItem_tuple_by (lo:=((HT.sIx xs.length 0 lo:Nat):Int)) (step:=1) (n:=HT.sIx xs.length xs.length hi - HT.sIx xs.length 0 lo) ht hs (fun A' Q' E' h=>?_) ?_ (fun _=>⟨.ref a,H,I,rfl,q1 ecut⟩) (fun h=>?_)
    · rw [hlen]
      exact HT.sliceApplied_gen hs pl pu h
    · refine Nat.le_trans (List.length_filterMap_le _ _) ?_
      rw [List.length_range]
      have:=HT.sIx_le xs.length xs.length (Nat.le_refl _) hi
      omega
    · rw [hw.1,hw.2,hlen] at h
      simp at h
  · exact sl_tup pins s σ H (.ref a) v vl vu lo hi sl Q I rx hs pl pu ⟨a,xs,rfl,hx,hw,q2⟩
noncomputable def cutD {α:Type} (xs:List α) (lo hi:Option Int):List α:=(xs.drop (HT.sIx xs.length 0 lo)).take (HT.sIx xs.length xs.length hi - HT.sIx xs.length 0 lo)
noncomputable def sliceD (d:D) (lo hi:Option Int):Option D:=match d with
  | .tup l=>some (.tup (cutD l lo hi))
  | .lst l=>some (.lst (cutD l lo hi))
  | _=>none
noncomputable def dSlice (f:DS→M VR) (fl fh:DS→M (Option Int)):DS→M VR:=fun S=>mb (f S) fun r=>mb (fl S) fun lo=>mb (fh S) fun hi=>vr (sliceD (toD r) lo hi)
theorem RepL.cut {K:PySem.W.Frag} {F:Hp} {l:List D} {vs:List V} (r:RepL K F l vs) (lo hi:Option Int):RepL K F (cutD l lo hi) (cutV vs lo hi):=by
  unfold cutD cutV
  rw [r.length]
  exact (r.drop _).take _
theorem outO.bind {x:M (Option Int)} {F H:Hp} {Q1:Option Int→Hp→Prop} {β:Type} {k:Option Int→M β} {G:Hp→Hp→M β→Prop} (gs:∀ {F H F' H':Hp} {z:M β},Ext F H F' H'→G F H z→G F' H' z) (gn:∀ F H,G F H none→False) (ge:∀ F H c,G F H (some (.error c))→∀ H',Same H H'→xq c H')
    (h:G F H (mb x k)) (hq:∀ b F1 H1,Ext F H F1 H1→G F1 H1 (k b)→Q1 b H1):outO xq F H Q1 x:=by
  match x,h with
  | none,h=>exact gn _ _ h
  | some (.error c),h=>exact ge _ _ c h
  | some (.ok b),h=>exact fun F1 H1 e=>hq b F1 H1 e (gs e h)
theorem de_slice {lo hi:Option Expr} {fl fh:DS→M (Option Int)} (ha:DE X F0 H0 xq a fa) (hl:DO X F0 H0 xq lo fl) (hh:DO X F0 H0 xq hi fh):DE X F0 H0 xq (.Subscript a (.Slice lo hi none p2) pos) (dSlice fa fl fh):=.mk fun pins s σ H Q I q=>by
  refine pe_slice (SlR.or sl_tup2 sl_list) ha.h hl.h hh.h pins s σ H Q I ?_
  obtain ⟨F,S,sk,o⟩:=q
  refine ⟨F,S,sk,outE.mb o fun r v F1 H1 e1 q1 o1=>?_⟩
  refine ⟨F1,S,sk.step e1,outO.bind (G:=fun F H z=>outE X.K H0 xq F H Q z) (fun e h=>h.step e) (fun _ _ h=>h) (fun _ _ _ h=>h) o1 fun lo F2 H2 e2 o2=>?_⟩
  refine ⟨F2,S,(sk.step e1).step e2,outO.bind (G:=fun F H z=>outE X.K H0 xq F H Q z) (fun e h=>h.step e) (fun _ _ h=>h) (fun _ _ _ h=>h) o2 fun hi F3 H3 e3 o3=>?_⟩
  have rv:=RR.rv e3.fh (RR.step e3 (RR.step e2 q1))
  generalize toD r=d at rv o3
  cases d <;> first | (exact False.elim o3) | skip
  · rename_i l
    obtain ⟨x,vs,rfl,ht,rl⟩:=rv
    have o4:outE X.K H0 xq F3 H3 Q (some (.ok (.ok (.tup (cutD l lo hi))))):=o3
    refine .inl ⟨x,vs,rfl,SqT.same e3.fh ht,fun z=>?_,fun p hp=>?_⟩
    · have rc:=rl.cut lo hi
      rw [z] at rc
      exact o4 _ F3 H3 (Ext.refl e3.fh) ⟨x,vs,rfl,ht,rc⟩
    · exact o4 _ _ _ (ext_alloc e3.fh hp) ⟨p,_,rfl,SqT.of upd_same,(rl.cut lo hi).mono (same_upd (e3.fh.free hp))⟩
  · rename_i l
    obtain ⟨x,vs,rfl,ht,rl⟩:=rv
    have o4:outE X.K H0 xq F3 H3 Q (some (.ok (.ok (.lst (cutD l lo hi))))):=o3
    exact .inr ⟨x,vs,rfl,SqL.of ht,fun p hp=>o4 _ _ _ (ext_alloc e3.fh hp) ⟨p,_,rfl,upd_same,(rl.cut lo hi).mono (same_upd (e3.fh.free hp))⟩⟩
noncomputable def uRev:D→Option D
  | .tup l=>some (.tup l.reverse)
  | _=>none
end
end PF
set_option Elab.async false
set_option linter.all false
set_option maxRecDepth 100000
set_option maxHeartbeats 4000000
namespace PF
open PySem PySem.Spec L2
open PyProof.Rows hiding St
section
variable {prog:Program} {w:World} {A:Around} {E:Value→Shared→Prop} {s:Shared}
theorem nextOf_tup {it t:Addr} {i:Nat} {its:Array Value} {x:Value} {Q:Value→Shared→Prop} (I:s.heap.IsTupleIter it t i) (T:s.heap.IsTuple t its) (hx:its[i]?=some x)
    (q:∀ h',h'.IsTupleIter it t (i + 1)→Heap.SameBut it s.heap h'→Q x { s with heap:=h' }):wpAny (model prog w) A (Builtin.SmallTypes.nextOf (.ref it)) Q E s:=by
  obtain ⟨oi,hoi,ci,di⟩:=id I
  obtain ⟨ot,hot,_,nt,dt⟩:=T
  unfold Builtin.SmallTypes.nextOf
  refine wpAny_bind (wpAny_callSpecial?_slot (name:=Str.ofString "__next__") I.typeIs F.slot_tuple_iterator_next (wpAny_call_entry F.slot_tuple_iterator_next I.typeIs F.entry_tuple_iterator_next ?_ (F.args_tuple_iterator_next_1 _)))
  show wpAny _ _ (field (.ref it) 0 >>= _) _ _ s; refine wpAny_bind (wpAny_field hoi di (x:=.ref t) rfl ?_)
  show wpAny _ _ (if (Value.ref t == Value.none)=true then _ else _) _ _ s; rw [if_neg (show ¬ ((Value.ref t == Value.none)=true) from Bool.false_ne_true)]
  show wpAny _ _ (field (.ref it) 1 >>= _) _ _ s; refine wpAny_bind (wpAny_field hoi di (x:=.int i 0) rfl ?_)
  show wpAny _ _ (seqItems? (.ref t) >>= _) _ _ s; refine wpAny_bind (wpAny_seqItems hot dt ?_)
  simp only [hx,Int.toNat_natCast]
  refine wpAny_bind (wpAny_setField hoi di (by simp) (wpAny_pure ⟨x,rfl,wpAny_pure (q _ ⟨_,Heap.get?_update_self _ hoi (Obj.isFreed_of_fields (Obj.data_mapFields di _)),(Obj.cls_mapFields ..).trans ci,?_⟩ (Heap.SameBut.update ..))⟩))
  rw [Obj.data_mapFields di]; simp [rawInt]
theorem nextOf_tup_end {it t:Addr} {i:Nat} {its:Array Value} {Q:Value→Shared→Prop} (hh:A.handled=none) (I:s.heap.IsTupleIter it t i) (T:s.heap.IsTuple t its) (hx:its[i]?=none)
    (q:∀ h' e,Heap.ExtBut it s.heap h'→(∃ o,h'.get? e=some o∧o.cls=.type "StopIteration")→E (.ref e) { s with heap:=h' }):wpAny (model prog w) A (Builtin.SmallTypes.nextOf (.ref it)) Q E s:=by
  obtain ⟨oi,hoi,ci,di⟩:=id I
  obtain ⟨ot,hot,_,nt,dt⟩:=T
  unfold Builtin.SmallTypes.nextOf
  refine wpAny_bind (wpAny_callSpecial?_slot (name:=Str.ofString "__next__") I.typeIs F.slot_tuple_iterator_next (wpAny_call_entry F.slot_tuple_iterator_next I.typeIs F.entry_tuple_iterator_next ?_ (F.args_tuple_iterator_next_1 _)))
  show wpAny _ _ (field (.ref it) 0 >>= _) _ _ s; refine wpAny_bind (wpAny_field hoi di (x:=.ref t) rfl ?_)
  show wpAny _ _ (if (Value.ref t == Value.none)=true then _ else _) _ _ s; rw [if_neg (show ¬ ((Value.ref t == Value.none)=true) from Bool.false_ne_true)]
  show wpAny _ _ (field (.ref it) 1 >>= _) _ _ s; refine wpAny_bind (wpAny_field hoi di (x:=.int i 0) rfl ?_)
  show wpAny _ _ (seqItems? (.ref t) >>= _) _ _ s; refine wpAny_bind (wpAny_seqItems hot dt ?_)
  simp only [hx,Int.toNat_natCast]
  refine wpAny_bind (wpAny_rule (wpAny_bind (wpAny_setField hoi di (by simp) ?_)))
  (show wpAny _ _ (newExc (.type "StopIteration") [] >>= _) _ _ _); refine wpAny_bind ?_; simp only [newExc,newTuple]; refine wpAny_bind (wpAny_newObj_type ?_ (by size_fits))
  refine wpAny_bind (m:=firstArgMember _ _) (wpAny_of_eq (a:=Value.none) (by first | rfl | (simp only [firstArgMember]; rfl)) ?_); refine wpAny_newObj_type ?_ (by size_fits)
  simp only [raiseNew]; refine wpAny_bind (wpAny_handled ?_); first | rw [show A.in1.handled=none from hh] | rw [hh]
  exact wpAny_bind (wpAny_pure (wpAny_throw (q _ _ (((Heap.SameBut.update ..).extBut.push _).push _) ⟨_,Heap.get?_push_size _ rfl,rfl⟩)))
theorem enum_step {e it:Addr} {i:Nat} {x old:Value} {Q:Value→Shared→Prop} (X:Heap→Prop) (he:IsEnum s.heap e it i old) (hne:e ≠ it)
    (nx:∀ Q':Value→Shared→Prop,(∀ h',X h'→Heap.SameBut it s.heap h'→Q' x { s with heap:=h' })→wpAny (model prog w) A (Builtin.SmallTypes.nextOf (.ref it)) Q' E s)
    (stay:∀ h h',X h→(∀ o,h.get? it=some o→h'.get? it=some o)→X h')
    (q:∀ h',IsEnumOut h' e it ((i:Int) + 1) x s.heap.objs.size→X h'→h'.get? s.heap.objs.size=some { cls:=.type "tuple",data:=.seq #[.int i s.toks,x] }→h'.objs.size=s.heap.objs.size + 1→
      (∀ b o,b ≠ e→b ≠ it→s.heap.get? b=some o→h'.get? b=some o)→Q (.ref s.heap.objs.size) { s with heap:=h',toks:=s.toks + 1 }) :
    wpAny (model prog w) A (Builtin.«enumerate.__next__» ⟨[.ref e],[]⟩) (fun fin s'=>∃ v,fin=.done (.ret v)∧Q v s') E s:=by
  obtain ⟨hp,gg,dd,tk,oo⟩:=s
  show wpAny _ _ (field (.ref e) 2 >>= _) _ _ _; refine wpAny_bind (wpAny_field he rfl (x:=.ref it) rfl (wpAny_bind (nx _ fun h1 x1 b1=>?_)))
  replace b1:Heap.SameBut it hp h1:=b1
  have e1:IsEnum h1 e it i old:=(b1.2 e hne).trans he
  show wpAny _ _ (field (.ref e) 3 >>= _) _ _ ⟨h1,gg,dd,tk,oo⟩; refine wpAny_bind (wpAny_field e1 rfl (x:=rawInt i) rfl ?_)
  show wpAny _ _ (field (.ref e) 4 >>= _) _ _ ⟨h1,gg,dd,tk,oo⟩; refine wpAny_bind (wpAny_field e1 rfl (x:=.none) rfl ?_)
  show wpAny _ _ (mkInt i >>= _) _ _ ⟨h1,gg,dd,tk,oo⟩; refine wpAny_bind (wpAny_mkInt ?_)
  show wpAny _ _ (setField (.ref e) 3 (rawInt ((i:Int) + 1)) >>= _) _ _ ⟨h1,gg,dd,tk + 1,oo⟩
  refine wpAny_bind (wpAny_setField_rec e1 (by simp) fun h2 e2 b2=>?_)
  replace b2:Heap.SameBut e h1 h2:=b2
  replace e2:IsEnum h2 e it ((i:Int) + 1) old:=e2
  show wpAny _ _ (setField (.ref e) 4 .none >>= _) _ _ ⟨h2,gg,dd,tk + 1,oo⟩
  refine wpAny_bind (wpAny_setField_rec e2 (by simp) fun h3 e3 b3=>?_)
  replace b3:Heap.SameBut e h2 h3:=b3
  replace e3:IsEnum h3 e it ((i:Int) + 1) old:=e3
  show wpAny _ _ (newTuple [.int i tk,x] >>= _) _ _ ⟨h3,gg,dd,tk + 1,oo⟩; refine wpAny_bind (wpAny_newTuple ?_)
  have e4:IsEnum (h3.push { cls:=.type "tuple",data:=.seq #[.int i tk,x] }) e it ((i:Int) + 1) old:=Heap.get?_push_of_some _ e3
  generalize hw4:h3.push { cls:=.type "tuple",data:=.seq #[.int i tk,x] }=h4 at e4
  have sz:h3.objs.size=hp.objs.size:=by rw [b3.1,b2.1,b1.1]
  have el:e < hp.objs.size:=Heap.lt_size he
  have t4:h4.get? hp.objs.size=some { cls:=.type "tuple",data:=.seq #[.int i tk,x] }:=by
    rw [← hw4,← sz]
    exact Heap.get?_push_size _ rfl
  have z4:h4.objs.size=hp.objs.size + 1:=by rw [← hw4,Heap.size_push,sz]
  have k4:∀ b o,b ≠ e→b ≠ it→hp.get? b=some o→h4.get? b=some o:=fun b o n1 n2 hb=>by
    rw [← hw4]
    exact Heap.get?_push_of_some _ (b3.extBut b o n1 (b2.extBut b o n1 (b1.extBut b o n2 hb)))
  have x4:X h4:=by
    rw [← hw4]
    exact stay h1 _ x1 fun o ho=>Heap.get?_push_of_some _ (b3.extBut it o (Ne.symm hne) (b2.extBut it o (Ne.symm hne) ho))
  (show wpAny _ _ (Builtin.SmallTypes.ownedTupleIsFree (.ref e) >>= _) _ _ ⟨h4,gg,dd,tk + 1,oo⟩); rw [sz]
  clear hw4 e3 b3 e2 b2 e1 b1 x1 sz
  refine wpAny_bind ?_
  unfold Builtin.SmallTypes.ownedTupleIsFree
  refine wpAny_bind (wpAny_field e4 rfl (x:=.none) rfl (wpAny_pure ?_))
  simp only [if_true]
  refine wpAny_bind (wpAny_rule (wpAny_bind (wpAny_field e4 rfl (x:=old) rfl (wpAny_bind (wpAny_setField_rec e4 (by simp) fun h5 e5 b5=>?_)))))
  replace b5:Heap.SameBut e h4 h5:=b5
  replace e5:IsEnum h5 e it ((i:Int) + 1) x:=e5
  show wpAny _ _ (Builtin.SmallTypes.ownedTupleHandOut (.ref e) (.ref hp.objs.size) >>= _) _ _ ⟨h5,gg,dd,tk + 1,oo⟩
  refine wpAny_bind ?_
  unfold Builtin.SmallTypes.ownedTupleHandOut
  refine wpAny_bind (wpAny_setField_rec e5 (by simp) fun h6 e6 b6=>?_)
  replace b6:Heap.SameBut e h5 h6:=b6
  replace e6:IsEnumOut h6 e it ((i:Int) + 1) x hp.objs.size:=e6
  refine wpAny_setField_rec e6 (by simp) fun h7 e7 b7=>?_
  replace b7:Heap.SameBut e h6 h7:=b7
  replace e7:IsEnumOut h7 e it ((i:Int) + 1) x hp.objs.size:=e7
  have up:∀ b o,b ≠ e→h4.get? b=some o→h7.get? b=some o:=fun b o n hb=>b7.extBut b o n (b6.extBut b o n (b5.extBut b o n hb))
  exact wpAny_bind (wpAny_letGo (wpAny_pure ⟨_,rfl,q h7 e7 (stay h4 h7 x4 fun o ho=>up it o (Ne.symm hne) ho) (up _ _ (Nat.ne_of_gt el) t4) (by rw [b7.1,b6.1,b5.1,z4]) fun b o n1 n2 hb=>up b o n1 (k4 b o n1 n2 hb)⟩))
theorem enum_next {e it:Addr} {i:Nat} {x old:Value} {Q:Option Value→Shared→Prop} (X:Heap→Prop) (he:IsEnum s.heap e it i old) (hne:e ≠ it)
    (nx:∀ Q' E,(∀ h',X h'→Heap.SameBut it s.heap h'→Q' x { s with heap:=h' })→wpAny (model prog w) A.in1 (Builtin.SmallTypes.nextOf (.ref it)) Q' E s)
    (stay:∀ h h',X h→(∀ o,h.get? it=some o→h'.get? it=some o)→X h')
    (q:∀ h',IsEnumOut h' e it ((i:Int) + 1) x s.heap.objs.size→X h'→h'.get? s.heap.objs.size=some { cls:=.type "tuple",data:=.seq #[.int i s.toks,x] }→h'.objs.size=s.heap.objs.size + 1→
      (∀ b o,b ≠ e→b ≠ it→s.heap.get? b=some o→h'.get? b=some o)→Q (some (.ref s.heap.objs.size)) { s with heap:=h',toks:=s.toks + 1 }):wpAny (model prog w) A (pyNext (.ref e)) Q E s:=by
  have hT:s.TypeIs (.ref e) "enumerate" := ⟨_,he,rfl⟩
  unfold pyNext
  exact wpAny_bind (wpAny_attempt (wpAny_callSpecial?_slot (name:=Str.ofString "__next__") hT F.slot_enumerate_next (wpAny_call_entry F.slot_enumerate_next hT F.entry_enumerate_next (enum_step X he hne (fun Q' h=>nx Q' _ h) stay fun h' a b c d k=>wpAny_pure (q h' a b c d k)) (F.args_enumerate_next_1 _))))
theorem enum_stop {e it:Addr} {i:Nat} {old:Value} {Q:Option Value→Shared→Prop} (he:IsEnum s.heap e it i old)
    (nx:∀ Q' E,(∀ h' u,Heap.ExtBut it s.heap h'→(∃ o,h'.get? u=some o∧o.cls=.type "StopIteration")→E (.ref u) { s with heap:=h' })→wpAny (model prog w) A.in1 (Builtin.SmallTypes.nextOf (.ref it)) Q' E s)
    (q:∀ h',Heap.ExtBut it s.heap h'→Q none { s with heap:=h' }):wpAny (model prog w) A (pyNext (.ref e)) Q E s:=by
  have hT:s.TypeIs (.ref e) "enumerate" := ⟨_,he,rfl⟩
  unfold pyNext
  refine wpAny_bind (wpAny_attempt (wpAny_callSpecial?_slot (name:=Str.ofString "__next__") hT F.slot_enumerate_next (wpAny_call_entry F.slot_enumerate_next hT F.entry_enumerate_next ?_ (F.args_enumerate_next_1 _))))
  show wpAny _ _ (field (.ref e) 2 >>= _) _ _ _; refine wpAny_bind (wpAny_field he rfl (x:=.ref it) rfl (wpAny_bind (nx _ _ fun h' u b ⟨o,ho,hc⟩=>?_)))
  exact wpAny_bind (wpAny_isInstance (T := "StopIteration") (b:=true) ⟨o,ho,hc⟩ isSubtype_stop (wpAny_pure (q _ b)))
end
theorem turned_laid {X:Cx} {pins:List (Addr × Obj)} {σ:St} {H:Hp} {s:Shared} {h':Heap} {t':Nat} {e it T:Addr} {o:HO} (I:Inv X pins σ H s) (k:∀ b u,b ≠ e→b ≠ it→s.heap.get? b=some u→h'.get? b=some u)
    (fe:FpOk X pins H e) (fi:FpOk X pins H it) (hT:s.heap.objs.size ≤ T) (new:ObjOk X.prog X.w (upd H T o) h' T o):Inv X pins σ (upd H T o) { s with heap:=h',toks:=t' }:=by
  obtain ⟨a0,a1,a2,a3,a4,a5⟩:=fe
  obtain ⟨b0,b1,b2,b3,b4,b5⟩:=fi
  have hn:H T=none:=I.hok.fresh hT
  have nT:∀ b u,s.heap.get? b=some u→b ≠ T:=fun b u q z=>absurd (Nat.lt_of_lt_of_le (Heap.lt_size q) (z ▸ hT)) (Nat.lt_irrefl _)
  have nch:∀ b,b ∉ [e,it]→b ≠ e∧b ≠ it:=fun b hb=>⟨fun z=>hb (by simp [z]),fun z=>hb (by simp [z])⟩
  have nit:∀ b u,H b=some u→b ≠ e∧b ≠ it:=fun b u q=>⟨fun z=>(by rw [z,a0] at q; cases q),fun z=>(by rw [z,b0] at q; cases q)⟩
  have kk:∀ b u,b ∉ [e,it]→s.heap.get? b=some u→h'.get? b=some u:=fun b u hb q=>k b u (nch b hb).1 (nch b hb).2 q
  have up:∀ b u,H b=some u→upd H T o b=some u:=fun b u q=>by rw [upd_ne (ne_of_none q hn)]; exact q
  refine I.step (g':=s.gens) (d':=s.drawn) (ch:=[e,it]) (fun b hb=>?_) (fun b u _ _ hc q _=>kk b u hc q) (fun b u _ _ hc q _=>⟨u.slots,kk b u hc q⟩) (fun b u _ q n=>by rw [upd_ne (nT b u q)]; exact n)
    (fun b u hc q=>⟨u,kk b u hc q⟩) (fun b xs q=>up b _ q) (fun b u v q=>up b _ q) (fun b ps q=>⟨#[],by rw [up b _ q]; simp⟩) (fun m hm=>?_) (fun b u q=>?_) I.bare
  · have z:b=e∨b=it:=by simpa using hb
    rcases z with z | z
    · subst z; exact ⟨a3,a1,a4,a5⟩
    · subst z; exact ⟨b3,b1,b4,b5⟩
  · obtain ⟨ob,es,ep,ho,r⟩:=hm
    exact ⟨ob,es,ep,k _ ob (Ne.symm a1) (Ne.symm b1) ho,r⟩
  · by_cases hb:b=T
    · subst hb; rw [upd_same] at q; cases q; exact new
    · rw [upd_ne hb] at q
      refine (I.hok b u q).stay (fun c v hc z=>?_) (fun c z=>up c _ z) fun c xs z=>up c _ z
      rcases hc with hc | hc
      · subst hc; exact k _ v (nit _ u q).1 (nit _ u q).2 z
      · exact k c v (nit c _ hc).1 (nit c _ hc).2 z
theorem turned_two {X:Cx} {pins:List (Addr × Obj)} {σ:St} {H:Hp} {s:Shared} {h':Heap} {t':Nat} {e it:Addr} (I:Inv X pins σ H s) (k:∀ b u,b ≠ e→b ≠ it→s.heap.get? b=some u→h'.get? b=some u)
    (fe:FpOk X pins H e) (fi:FpOk X pins H it):Inv X pins σ H { s with heap:=h',toks:=t' }:=by
  obtain ⟨a0,a1,a2,a3,a4,a5⟩:=fe
  obtain ⟨b0,b1,b2,b3,b4,b5⟩:=fi
  have nch:∀ b,b ∉ [e,it]→b ≠ e∧b ≠ it:=fun b hb=>⟨fun z=>hb (by simp [z]),fun z=>hb (by simp [z])⟩
  have nit:∀ b u,H b=some u→b ≠ e∧b ≠ it:=fun b u q=>⟨fun z=>(by rw [z,a0] at q; cases q),fun z=>(by rw [z,b0] at q; cases q)⟩
  have kk:∀ b u,b ∉ [e,it]→s.heap.get? b=some u→h'.get? b=some u:=fun b u hb q=>k b u (nch b hb).1 (nch b hb).2 q
  refine I.step (g':=s.gens) (d':=s.drawn) (ch:=[e,it]) (fun b hb=>?_) (fun b u _ _ hc q _=>kk b u hc q) (fun b u _ _ hc q _=>⟨u.slots,kk b u hc q⟩) (fun b u _ q n=>n)
    (fun b u hc q=>⟨u,kk b u hc q⟩) (fun b xs q=>q) (fun b u v q=>q) (fun b ps q=>⟨#[],by rw [q]; simp⟩) (fun m hm=>?_) (fun b u q=>?_) I.bare
  · have z:b=e∨b=it:=by simpa using hb
    rcases z with z | z
    · subst z; exact ⟨a3,a1,a4,a5⟩
    · subst z; exact ⟨b3,b1,b4,b5⟩
  · obtain ⟨ob,es,ep,ho,r⟩:=hm
    exact ⟨ob,es,ep,k _ ob (Ne.symm a1) (Ne.symm b1) ho,r⟩
  · refine (I.hok b u q).stay (fun c v hc z=>?_) (fun c z=>z) fun c xs z=>z
    rcases hc with hc | hc
    · subst hc; exact k _ v (nit _ u q).1 (nit _ u q).2 z
    · exact k c v (nit c _ hc).1 (nit c _ hc).2 z
noncomputable def Ite (SQ:Hp→List V→Prop):It:=
  ⟨fun i H=>∃ xs x,SQ H xs∧xs[i]?=some x,fun i H x H'=>∃ T v,x=.ref T∧H T=none∧H'=upd H T (.tup [.int i,v])∧∀ xs,SQ H xs→xs[i]?=some v,fun i H=>∃ xs,SQ H xs∧xs.length ≤ i⟩
theorem turn_enum {P:Program} {w:World} {K:PySem.W.Frag} {elts:List Expr} {kt:Nat} {pt:Pos} {SQ:Hp→List V→Prop} {IT:Nat→Heap→Prop} (e it:Addr) (hne:e ≠ it)
    (obj:∀ i h,IT i h→∃ o,h.get? it=some o∧∀ v,o.data ≠ .cell v) (stay:∀ i h h',IT i h→(∀ o,h.get? it=some o→h'.get? it=some o)→IT i h')
    (item:∀ (X:Cx),X.prog=P→X.w=w→X.K=K→∀ (i:Nat) (pins:List (Addr × Obj)) (s:Shared) (σ:St) (H:Hp) (xs:List V) (x:V),Inv X pins σ H s→SQ H xs→xs[i]?=some x→IT i s.heap→
      (∀ ys,SQ H ys→ys=xs)∧∃ u,RelV x u∧∀ (A:Around) (Q:Value→Shared→Prop) (E:Value→Shared→Prop),(∀ h',IT (i + 1) h'→Heap.SameBut it s.heap h'→Q u { s with heap:=h' })→wpAny (model P w) A (Builtin.SmallTypes.nextOf (.ref it)) Q E s)
    (done:∀ (X:Cx),X.prog=P→X.w=w→X.K=K→∀ (i:Nat) (pins:List (Addr × Obj)) (s:Shared) (σ:St) (H:Hp) (xs:List V),Inv X pins σ H s→SQ H xs→xs.length ≤ i→IT i s.heap→
      ∀ (A:Around) (Q:Value→Shared→Prop) (E:Value→Shared→Prop),A.handled=none→(∀ h' u,Heap.ExtBut it s.heap h'→(∃ o,h'.get? u=some o∧o.cls=.type "StopIteration")→E (.ref u) { s with heap:=h' })→wpAny (model P w) A (Builtin.SmallTypes.nextOf (.ref it)) Q E s) :
    Turn P w K (.Tuple elts kt pt) (Ite SQ) [e,it] e (fun i h=>(∃ old,IsEnum h e it i old)∧IT i h) where
  mem:=by simp
  obj:=fun i h st b hb=>by
    obtain ⟨⟨old,he⟩,hi⟩:=st
    have z:b=e∨b=it:=by simpa using hb
    rcases z with z | z
    · subst z
      exact ⟨_,he,fun v z=>by cases z⟩
    · subst z
      exact obj i h hi
  keep:=fun i h h' st k=>by
    obtain ⟨⟨old,he⟩,hi⟩:=st
    exact ⟨⟨old,k e (by simp) _ he⟩,stay i h h' hi fun o q=>k it (by simp) o q⟩
  item:=by
    intro X hP hw hK hc i pins s σ H E I hf st hg
    obtain ⟨⟨old,he⟩,hi⟩:=st
    obtain ⟨xs,x,hq,hx⟩:=hg
    obtain ⟨inj,u,ru,nx⟩:=item X hP hw hK i pins s σ H xs x I hq hx hi
    have fe:=hf e (by simp)
    have fi:=hf it (by simp)
    have hn:H s.heap.objs.size=none:=I.hok.fresh (Nat.le_refl _)
    refine enum_next (fun h=>IT (i + 1) h) he hne (fun Q' E'=>nx _ Q' E') (stay (i + 1)) fun h' ho hi' hT hsz k=>⟨_,rfl,?_⟩
    refine wpAny_letOwnedTupleGo_enum ho fun h2 he2 b2=>?_
    replace b2:Heap.SameBut e h' h2:=b2
    have helt:e < s.heap.objs.size:=Heap.lt_size he
    have hT2:=(b2.2 s.heap.objs.size (Nat.ne_of_gt helt)).trans hT
    have I2:Inv X pins σ (upd H s.heap.objs.size (.tup [.int i,x])) { s with heap:=h2,toks:=s.toks + 1 }:=by
      refine turned_laid I (fun b v n1 n2 q=>(b2.2 b n1).trans (k b v n1 n2 q)) fe fi (Nat.le_refl _) ?_
      exact ⟨by show 2 ≤ sizeLine; decide,[.int i s.toks,u],.cons ⟨_,rfl⟩ (.cons ru .nil),_,hT2,rfl,_,rfl⟩
    refine ⟨.ref s.heap.objs.size,_,I2,rfl,⟨_,x,rfl,hn,rfl,fun ys hy=>by rw [inj ys hy]; exact hx⟩,⟨⟨u,by simpa using he2⟩,stay (i + 1) h' h2 hi' fun o q=>(b2.2 it (Ne.symm hne)).trans q⟩,fun b hb=>?_⟩
    have nb:b ≠ s.heap.objs.size:=by
      have z:b=e∨b=it:=by simpa using hb
      rcases z with z | z
      · subst z; exact Nat.ne_of_lt helt
      · subst z
        obtain ⟨o,q,_⟩:=obj i _ hi
        exact Nat.ne_of_lt (Heap.lt_size q)
    rw [upd_ne nb]
    exact (hf b hb).1
  done:=by
    intro X hP hw hK hc i pins s σ H E I hf st hg
    obtain ⟨⟨old,he⟩,hi⟩:=st
    obtain ⟨xs,hq,hx⟩:=hg
    subst hP hw
    refine enum_stop he (fun Q' E' h=>done X rfl rfl hK i pins s σ H xs I hq hx hi _ Q' E' ?_ h) fun h' b=>⟨rfl,turned_two (t':=s.toks) I (fun c v _ n q=>b c v n q) (hf e (by simp)) (hf it (by simp))⟩
    exact I.ok.hd hc
  self:=fun _ _ _ _ _ st h=>by
    obtain ⟨⟨old,he⟩,_⟩:=st
    exact wpAny_pyIter_enum he h
theorem meets_enum_tup (l:Addr) (its:Array Value) (n:Nat) (dct:Option Addr) (sl:Array (Option Value)) :
    Meets (Builtin.«enumerate.__new__» ⟨[.type "enumerate",.ref l],[]⟩) (fun _ R s=>s.heap.get? l=some { cls:=.type "tuple",dict:=dct,data:=.seq its n,slots:=sl }∧
      R (.ok (.ret (.ref (s.heap.push { cls:=.type "tuple_iterator",data:=.fields #[.ref l,.int 0 0] }).objs.size)))
        { s with heap:=(s.heap.push { cls:=.type "tuple_iterator",data:=.fields #[.ref l,.int 0 0] }).push { cls:=.type "enumerate",data:=.fields #[.none,.bool false,.ref s.heap.objs.size,rawInt 0,.none,.none] } }):=
  .of_wp fun prog w A R s h=>by
    obtain ⟨hp,gg,dd,tk,oo⟩:=s
    obtain ⟨hl,h⟩:=h
    have sub:=sub_enumerate
    have hL:Heap.IsTuple (Shared.heap ⟨hp,gg,dd,tk,oo⟩) l its:=⟨_,hl,rfl,n,rfl⟩
    wp_walk using AutoSeq1.wpAny_loadPart' hl
    refine wpAny_stack_any fun st=>wpAny_pure ?_
    split
    · rename_i c _ _ _ _ _
      cases (c == Value.type "enumerate") <;> (wp_walk using AutoSeq1.wpAny_loadPart' hl,wpAny_pyIter_tuple hL; exact ⟨_,rfl,h⟩)
    · wp_walk using AutoSeq1.wpAny_loadPart' hl,wpAny_pyIter_tuple hL; exact ⟨_,rfl,h⟩
theorem call_enum_tup {prog:Program} {w:World} {A:Around} {E:Value→Shared→Prop} {s:Shared} {l:Addr} {its:Array Value} {Q:Value→Shared→Prop} (hL:s.heap.IsTuple l its)
    (h:∀ h',IsEnum h' (s.heap.objs.size + 1) s.heap.objs.size 0 .none→h'.IsTupleIter s.heap.objs.size l 0→h'.objs.size=s.heap.objs.size + 2→(∀ b o,s.heap.get? b=some o→h'.get? b=some o)→Q (.ref (s.heap.objs.size + 1)) { s with heap:=h' }) :
    wpAny (model prog w) A (call (.type "enumerate") [.ref l]) Q E s:=by
  obtain ⟨⟨c,dct,dt,sl⟩,hl,hc,n,hd⟩:=hL
  have hc':c=.type "tuple" := hc
  have hd':dt=.seq its n:=hd
  subst hc' hd'
  refine callType_new F.called_enumerate (by decide) (F.typeCall_enumerate_1 _) (F.newCall_enumerate_1 _) (fun obj=>F.args_object_init_2 obj _) F.entry_enumerate_new (meets_enum_tup l its n dct sl) ⟨hl,?_⟩
  have hz:(s.heap.push { cls:=.type "tuple_iterator",data:=.fields #[.ref l,.int 0 0] }).objs.size=s.heap.objs.size + 1:=Heap.size_push ..
  rw [hz]
  have he:=Heap.get?_push_size (s.heap.push { cls:=.type "tuple_iterator",data:=.fields #[.ref l,.int 0 0] }) (o:={ cls:=.type "enumerate",data:=.fields #[.none,.bool false,.ref s.heap.objs.size,rawInt 0,.none,.none] }) rfl
  rw [hz] at he
  exact ⟨⟨_,he,rfl⟩,h _ he ⟨_,Heap.get?_push_of_some _ (Heap.get?_push_size _ rfl),rfl,rfl⟩ (by rw [Heap.size_push,hz]) fun b o x=>Heap.get?_push_of_some _ (Heap.get?_push_of_some _ x)⟩
section
variable {X:Cx} {F0 H0:Hp} {xq:Addr→Hp→Prop} {pos:Pos}
noncomputable def iEnum (K:PySem.W.Frag) (tl:TE):TI:=fun σ H R=>tl σ H fun x H1=>∃ a,x=.ref a∧(((∃ xs,SqL K H1 a xs)∧R (Ite fun H xs=>SqL K H a xs) H1)∨((∃ xs,SqT K H1 a xs)∧R (Ite fun H xs=>SqT K H a xs) H1))
theorem enum_it {elts:List Expr} {kt:Nat} {pt:Pos} {pins:List (Addr × Obj)} {σ:St} {H:Hp} {s:Shared} {R:It→Hp→Prop} {E:Value→Shared→Prop} {a:Addr} (I:Inv X pins σ H s)
    (q:((∃ xs,SqL X.K H a xs)∧R (Ite fun H xs=>SqL X.K H a xs) H)∨((∃ xs,SqT X.K H a xs)∧R (Ite fun H xs=>SqT X.K H a xs) H)) :
    wpAny (model X.prog X.w) X.A (call (.type "enumerate") [.ref a]) (fun v s1=>wpAny (model X.prog X.w) X.A (pyIter v) (PIE X pins σ (.Tuple elts kt pt) R) E s1) E s:=by
  have fp:∀ {h':Heap},(∀ b ∈ [s.heap.objs.size + 1,s.heap.objs.size],FpOk X pins H b):=fun {h'} b hb=>by
    have z:b=s.heap.objs.size + 1∨b=s.heap.objs.size:=by simpa using hb
    rcases z with z | z
    · subst z; exact I.fpOk (Nat.le_succ _) (I.hok.fresh (Nat.le_succ _))
    · subst z; exact I.fpOk (Nat.le_refl _) (I.hok.fresh (Nat.le_refl _))
  rcases q with ⟨⟨xs,hq⟩,q⟩ | ⟨⟨xs,hq⟩,q⟩
  · obtain ⟨its,rv,p,hz⟩:=I.list hq
    refine call_enumerate_list p.isList fun h' he hi hsz k=>wpAny_pyIter_enum he ?_
    refine ⟨s.heap.objs.size + 1,[s.heap.objs.size + 1,s.heap.objs.size],_,_,H,rfl,I.kept (t':=s.toks) k,turn_enum (SQ:=fun H xs=>SqL X.K H a xs) (IT:=fun i h=>h.IsListIter s.heap.objs.size a i) _ _ (Nat.succ_ne_self _) ?_ ?_ ?_ ?_,⟨⟨_,he⟩,hi⟩,fp (h':=h'),q⟩
    · intro i h st
      obtain ⟨o,e,c,d⟩:=st
      exact ⟨o,e,fun v z=>by rw [d] at z; cases z⟩
    · intro i h h1 st kk
      exact st.at kk
    · intro X' hP hw hK i pins' s' σ' H' xs' x I' hq' hx st
      rw [← hK] at hq'
      obtain ⟨its',rv',p',_⟩:=I'.list hq'
      obtain ⟨u,hu,ru⟩:=rv'.get hx
      exact ⟨fun ys hy=>I'.list_inj (hK ▸ hy) hq',u,ru,fun A Q E h=>wpAny_nextOf_list_item st p'.isList (by simpa using hu) h⟩
    · intro X' hP hw hK i pins' s' σ' H' xs' I' hq' hx st A Q E hh h
      rw [← hK] at hq'
      obtain ⟨its',rv',p',_⟩:=I'.list hq'
      have hl:=rv'.length
      exact wpAny_nextOf_list_end hh st p'.isList (by simp; omega) h
  · obtain ⟨its,rv,p,hz⟩:=I.tuple hq
    refine call_enum_tup (show s.heap.IsTuple a its.toArray from p) fun h' he hi hsz k=>wpAny_pyIter_enum he ?_
    refine ⟨s.heap.objs.size + 1,[s.heap.objs.size + 1,s.heap.objs.size],_,_,H,rfl,I.kept (t':=s.toks) k,turn_enum (SQ:=fun H xs=>SqT X.K H a xs) (IT:=fun i h=>h.IsTupleIter s.heap.objs.size a i) _ _ (Nat.succ_ne_self _) ?_ ?_ ?_ ?_,⟨⟨_,he⟩,hi⟩,fp (h':=h'),q⟩
    · intro i h st
      obtain ⟨o,e,c,d⟩:=st
      exact ⟨o,e,fun v z=>by rw [d] at z; cases z⟩
    · intro i h h1 st kk
      exact st.at kk
    · intro X' hP hw hK i pins' s' σ' H' xs' x I' hq' hx st
      rw [← hK] at hq'
      obtain ⟨its',rv',p',_⟩:=I'.tuple hq'
      obtain ⟨u,hu,ru⟩:=rv'.get hx
      exact ⟨fun ys hy=>I'.tuple_inj (hK ▸ hy) hq',u,ru,fun A Q E h=>nextOf_tup st (show s'.heap.IsTuple a its'.toArray from p') (by simpa using hu) h⟩
    · intro X' hP hw hK i pins' s' σ' H' xs' I' hq' hx st A Q E hh h
      rw [← hK] at hq'
      obtain ⟨its',rv',p',_⟩:=I'.tuple hq'
      have hl:=rv'.length
      exact nextOf_tup_end hh st (show s'.heap.IsTuple a its'.toArray from p') (by simp; omega) h
theorem pi_enum {e:Expr} {tl:TE} {elts:List Expr} {kt:Nat} {pt p:Pos} (hg:Gl X "enumerate") (hm:X.mg "enumerate" = none) (hl:PE X e tl) (hs:unst e=true):PI X (.Tuple elts kt pt) (.Call (.Name "enumerate" p) [e] [] pos) (iEnum X.K tl):=by
  intro pins s σ H R I h
  refine Call_ (ld_blt I hg hm boot_enumerate (PyProof.Rows.callWith_type1 (thn (pa_cons hl pa_nil (star_cons hs) pos pins s σ H (fun vs H1=>match vs with
    | [x]=>∃ a,x=.ref a∧(((∃ xs,SqL X.K H1 a xs)∧R (Ite fun H xs=>SqL X.K H a xs) H1)∨((∃ xs,SqT X.K H1 a xs)∧R (Ite fun H xs=>SqT X.K H a xs) H1))
    | _=>False) I h) fun us s1 ⟨vs,H1,I1,r1,q1⟩=>?_) (star_cons hs) rfl))
  match vs,r1,q1 with
  | [_],.cons r .nil,q1=>
    obtain ⟨a,rfl,q⟩:=q1
    cases r
    exact enum_it I1 q
noncomputable def enumD (l:List D):List D:=(List.range l.length).map fun (k:Nat)=>D.tup [.int (k:Int),l.getD k .non]
theorem enumD_get {l:List D} {i:Nat} {d:D} (h:(enumD l)[i]?=some d):∃ x,l[i]?=some x∧d=.tup [.int i,x]:=by
  unfold enumD at h
  rw [List.getElem?_map] at h
  cases q:(List.range l.length)[i]? with
  | none=>rw [q] at h; cases h
  | some j=>
    rw [q] at h
    obtain ⟨h1,h2⟩:=List.getElem?_eq_some_iff.mp q
    rw [List.getElem_range] at h2
    rw [List.length_range] at h1
    subst h2
    refine ⟨l[i],by simp [h1],?_⟩
    simp [h1] at h
    exact h.symm
theorem enumD_len (l:List D):(enumD l).length=l.length:=by simp [enumD]
theorem ItOk.enum {K:PySem.W.Frag} {Fb:Hp} {SQ:Hp→List V→Prop} {vs:List V} {ds:List D} (mono:∀ H H',Same H H'→SQ H vs→SQ H' vs) (h:SQ Fb vs) (r:RepL K Fb ds vs):ItOk K (Ite SQ) Fb (enumD ds) where
  go:=fun i F H hi e1 e2=>⟨vs,vs[i]'(by rw [← r.length,← enumD_len]; exact hi),mono _ _ (e1.trans e2) h,by rw [enumD_len] at hi; simp [← r.length,hi]⟩
  yld:=fun i F H x H' e1 e2 y d hd=>by
    obtain ⟨T,v,rfl,hT,rfl,y⟩:=y
    obtain ⟨z,hz,rfl⟩:=enumD_get hd
    obtain ⟨v',q1,q2⟩:=r.get hz
    have:=y vs (mono _ _ (e1.trans e2) h)
    rw [q1] at this; cases this
    refine ⟨_,ext_alloc e2 hT,T,[.int i,v],rfl,SqT.of upd_same,?_⟩
    exact .cons rfl (.one ((q2.mono e1).mono (same_upd (e2.free hT))))
  stop:=fun i F H hi e1 e2=>⟨vs,mono _ _ (e1.trans e2) h,by rw [← r.length,← enumD_len]; exact hi⟩
noncomputable def dEnum (f:DS→M VR):DS→M (List D):=fun S=>mb (f S) fun r=>match items r with
  | some l=>some (.ok (enumD l))
  | none=>none
theorem di_enum {e:Expr} {elts:List Expr} {kt:Nat} {pt p:Pos} {f:DS→M VR} (hg:Gl X "enumerate") (hm:X.mg "enumerate" = none) (h:DE X F0 H0 xq e f) (hs:unst e=true:=by rfl):DI X F0 H0 xq (.Tuple elts kt pt) (.Call (.Name "enumerate" p) [e] [] pos) (dEnum f):=.mk fun pins s σ H R I q=>by
  refine pi_enum hg hm h.h hs pins s σ H R I ?_
  obtain ⟨F,S,sk,o⟩:=q
  refine ⟨F,S,sk,outE.bind (G:=fun F H z=>outI X.K xq F H R z) (fun {F H F' H' z} e h=>outI.step e h) (fun _ _ h=>h) (fun _ _ _ h=>h) o fun r v F1 H1 e1 q1 o1=>?_⟩
  cases r with
  | bor l=>exact False.elim o1
  | bod ks l=>exact False.elim o1
  | ok d=>
    cases d with
    | tup l=>
      obtain ⟨a,vs,rfl,ht,rl⟩:=q1
      exact ⟨a,rfl,.inr ⟨⟨vs,SqT.same e1.fh ht⟩,o1 _ F1 H1 (Ext.refl e1.fh) (ItOk.enum (fun _ _ z q=>SqT.same z q) ht rl)⟩⟩
    | lst l=>
      obtain ⟨a,vs,rfl,ht,rl⟩:=q1
      exact ⟨a,rfl,.inl ⟨⟨vs,SqL.of (e1.fh _ _ ht)⟩,o1 _ F1 H1 (Ext.refl e1.fh) (ItOk.enum (fun _ _ z q=>z.seq q) (SqL.of ht) rl)⟩⟩
    | scr l=>
      obtain ⟨a,rfl,ht⟩:=q1
      exact ⟨a,rfl,.inl ⟨⟨_,e1.fh.seq ht⟩,o1 _ F1 H1 (Ext.refl e1.fh) (ItOk.enum (fun _ _ z q=>z.seq q) ht (repL_ints l))⟩⟩
    | _=>exact False.elim o1
end
end PF
set_option Elab.async false
set_option linter.all false
set_option maxRecDepth 100000
set_option maxHeartbeats 4000000
namespace PF
open PySem PySem.Spec L2
open PyProof.Rows hiding St
section
variable {X:Cx} {F0 H0:Hp} {xq:Addr→Hp→Prop} {pos:Pos} {a b c e:Expr} {fa fb fc:DS→M VR}
noncomputable def opMax:D→D→Option D
  | .int i,.int j=>some (.int (if j > i then j else i))
  | _,_=>none
theorem opMax_ok {K:PySem.W.Frag}:OpD K (fun x y H Q=>∃ i j,[x,y]=[V.int i,V.int j]∧Q (.int (if j > i then j else i)) H) opMax:=by
  intro F H d1 d2 d v1 v2 Q fh r1 r2 g q
  cases d1 <;> cases d2 <;> try (cases g; done)
  cases r1
  cases r2
  injection g with g
  subst g
  exact ⟨_,_,rfl,q _ F H (Ext.refl fh) rfl⟩
theorem boot_max':bootBuiltins "max" = some (.builtin "max"):=by decide +kernel
theorem de_max {p:Pos} (hgl:Gl X "max") (hm:X.mg "max" = none) (ha:DE X F0 H0 xq a fa) (hb:DE X F0 H0 xq b fb) (hc:X.calm=true:=by rfl) (sa:unst a=true:=by rfl) (sb:unst b=true:=by rfl)
    (hpl:(backTo pos (starEach [b] X.env)).any (·.1)=false:=by rfl):DE X F0 H0 xq (.Call (.Name "max" p) [a,b] [] pos) (dBin opMax fa fb):=.mk fun pins s σ H Q I q=>
  pe_callB (call_max2 hc) hgl hm boot_max' (pa_cons ha.h (pa_cons hb.h pa_nil (star_cons sb)) (star_cons sa)) (by decide) (by decide) (star_cons sa) hpl pins s σ H Q I (tOp_of opMax_ok q)
noncomputable def isNon:D→Bool
  | .non=>true
  | _=>false
noncomputable def uIsN:D→Option D:=fun d=>some (.bl (isNon d))
theorem rv_non {K:PySem.W.Frag} {F H:Hp} {d:D} {v:V} (r:RV K F H d v):decide (v=.non)=isNon d:=by
  cases d with
  | non=>cases r; rfl
  | bl b=>cases r; rfl
  | int b=>cases r; rfl
  | str b=>cases r; rfl
  | tup l=>obtain ⟨a,vs,rfl,_⟩:=r; rfl
  | lst l=>obtain ⟨a,vs,rfl,_⟩:=r; rfl
  | scr l=>obtain ⟨a,rfl,_⟩:=r; rfl
  | dic ks l=>obtain ⟨a,kvs,rfl,_⟩:=r; rfl
theorem tIsN_of {K:PySem.W.Frag} {r:R2} {g:D→Option D} {σ:St} {H:Hp} {Q:VK} (hg:∀ (F H:Hp) (d1 d:D) (v1:V) (Q:VK),Same F H→RV K F H d1 v1→g d1=some d→(∀ v F' H',Ext F H F' H'→Rep K F' d v→Q v H')→r v1 .non H Q)
    (h:tE K F0 H0 xq (dUn g fa) σ H Q):tOp r (tE K F0 H0 xq fa) (tC .non) σ H Q:=tUn_of (r:=fun x H Q=>r x .non H Q) hg h
theorem de_isN {j:Nat} {p:Pos} (ha:DE X F0 H0 xq a fa):DE X F0 H0 xq (.Compare a [.Is] [.Constant .none j p] pos) (dUn uIsN fa):=.mk fun pins s σ H Q I q=>
  pe_cmpR op_isN ha.h pe_non (nomark _) pins s σ H Q I (tIsN_of (fun F H d1 d v1 Q fh r g q=>⟨rfl,by rw [rv_non r]; injection g with g; subst g; exact q _ F H (Ext.refl fh) rfl⟩) q)
theorem dt_isN {j:Nat} {p:Pos} (ha:DE X F0 H0 xq a fa):DT X F0 H0 xq (.Compare a [.Is] [.Constant .none j p] pos) (dtB (dUn uIsN fa)):=.mk fun pins s σ H Q I q=>
  pt_cmpR op_isN ha.h pe_non (nomark _) pins s σ H Q I (tIsN_of (fun F H d1 d v1 Q fh r g q=>⟨rfl,by rw [rv_non r]; injection g with g; subst g; exact q _ F H (Ext.refl fh) rfl⟩) (tTest_of q))
theorem de_globT {x:Str} {l:List Int} (hg:Gl X x) (hm:∃ t,X.mg x=some (.ref t)∧∃ (o:Obj) (its:Array Value) (n:Nat),X.K.lookup t=some o∧o.cls=.type "tuple" ∧ o.data=.seq its n∧its.size ≤ sizeLine∧Vals (l.map V.int) its.toList) (hd:(x == ("__debug__" : Str))=false:=by decide) :
    DE X F0 H0 xq (.Name x pos) (dC (.tup (l.map .int))):=by
  obtain ⟨t,e,o,its,n,h1,h2,h3,h4,h5⟩:=hm
  exact de_const (v:=.ref t) (pe_glob hg e rfl hd) fun F=>⟨t,l.map V.int,rfl,.inr ⟨o,its,n,h1,h2,h3,h4,h5⟩,repL_ints l⟩
noncomputable def dPop (i:Nat):DS→Option Fl:=fun S=>match S[i]? with
  | some (some (.own l))=>if l.length=0 then none else some (.next (S.set i (some (.own l.dropLast))))
  | _=>none
theorem own_of {S:DS} {i:Nat} {β:Type} {k:List D→Option β} {P:Option β→Prop} (hn:¬ P none) (o:P (match S[i]? with | some (some (.own l))=>k l | _=>none)):∃ l,S[i]?=some (some (Slot.own l))∧P (k l):=by
  cases z:S[i]? with
  | none=>rw [z] at o; exact absurd o hn
  | some z1=>
    cases z1 with
    | none=>rw [z] at o; exact absurd o hn
    | some sl=>
      cases sl with
      | val d=>rw [z] at o; exact absurd o hn
      | owd ks l=>rw [z] at o; exact absurd o hn
      | own l=>rw [z] at o; exact ⟨l,rfl,o⟩
theorem ds_pop (i:Nat) {x:Str} {p apos cpos:Pos} (hN:X.N[i]?=some x:=by rfl) (hv:Vis X.env.scope x:=by first | exact Or.inl rfl | exact Or.inr (Or.inl rfl) | exact Or.inr (Or.inr rfl))
    (hd:(x == ("__debug__" : Str))=false:=by decide) (hcd:(x == ("__classdict__" : Str))=false:=by decide)
    (hbase:attributeBase (.Name x p) "pop" X.env (eval (.Name x p) X.env)=eval (.Name x p) X.env:=by rfl) (hline:(apos.endLine == cpos.line)=true:=by rfl)
    (hsw:swapsWith (.Call (.Attribute (.Name x p) "pop" apos) [] [] cpos) none pos.line X.env=pure false:=by rfl) :
    DS1 X F0 H0 xq (.Expr (.Call (.Attribute (.Name x p) "pop" apos) [] [] cpos) pos) (dPop i):=.mk fun pins s σ H Dn I q=>by
  refine ps_expr (pe_bm0 PySem.F.plainAttrs_list PySem.F.slot_list_pop PySem.F.type_list_pop mt_pop (pe_var hN hv hd hcd) hbase hline) hsw pins s σ H Dn I ?_
  obtain ⟨F,S,sk,o⟩:=q
  have o:outS X.K F0 H0 xq Dn (match S[i]? with | some (some (.own l))=>(if l.length=0 then none else some (.next (S.set i (some (.own l.dropLast))))) | _=>none):=o
  obtain ⟨l,z,o⟩:=own_of (S:=S) (i:=i) (P:=fun y=>outS X.K F0 H0 xq Dn y) (k:=fun l=>if l.length=0 then none else some (.next (S.set i (some (.own l.dropLast))))) (fun h=>h) o
  obtain ⟨a,vs,h1,h2,h3,h4,h5⟩:=sk.own i l z
  by_cases hz:l.length=0
  · rw [if_pos hz] at o; exact False.elim o
  · rw [if_neg hz] at o
    have hlen:=h5.length
    obtain ⟨y,hy⟩:∃ y,vs[vs.length - 1]?=some y:=⟨vs[vs.length - 1]'(by omega),List.getElem?_eq_getElem _⟩
    exact ⟨.ref a,h1,.inl ⟨rfl,vs,SqL.of h4⟩,a,vs,y,rfl,rfl,h4,hy,o σ F _ (sk.mut z h1 h5.dropLast)⟩
end
end PF
set_option Elab.async false
set_option linter.all false
set_option maxRecDepth 100000
set_option maxHeartbeats 4000000
namespace PF
open PySem PySem.Spec L2
open PyProof.Rows hiding St
noncomputable def Itd (lo:Int) (n:Nat):It:=⟨fun i _=>i < n,fun i H x H'=>H'=H∧x=.int (lo - i),fun i _=>n ≤ i⟩
theorem turn_down {P:Program} {w:World} {K:PySem.W.Frag} {tg:Expr} (it:Addr) (lo:Int) (n:Nat):Turn P w K tg (Itd lo n) [it] it (fun i h=>IsRangeIter h it (lo + (i:Nat) * (-1)) ((n:Int) - (i:Nat)) (-1)) where
  mem:=by simp
  obj:=fun i h st b hb=>by
    have z:b=it:=by simpa using hb
    subst z
    exact ⟨_,st,fun v z=>by
      have y:Data.fields _=Data.cell v:=z
      cases y⟩
  keep:=fun i h h' st k=>k it (by simp) _ st
  item:=by
    intro X hP hw hK hc i pins s σ H E I hf st hg
    subst hP hw hK
    have f:=hf it (by simp)
    refine (Walks.range (prog:=X.prog) (w:=X.w) (I.ok.hd hc) it lo (-1) n).item i s _ _ hg st fun v h' tk hv st' kk=>?_
    obtain ⟨t,rfl⟩:=hv
    have I1:Inv X pins σ H { s with heap:=h',toks:=tk }:=I.turned (fun b o hb e=>kk b o (by simpa using hb) e) f.1 f.2.1 f.2.2.2.1 f.2.2.2.2.1 f.2.2.2.2.2
    refine ⟨_,rfl,go_of (s:={ s with heap:=h',toks:=tk }) (n := "range_iterator") st' rfl rfl (by decide) ⟨.int (lo - i),H,I1,⟨t,?_⟩,⟨rfl,rfl⟩,st',fun b hb=>(hf b hb).1⟩⟩
    rw [Int.mul_neg_one,Int.sub_eq_add_neg]
  done:=by
    intro X hP hw hK hc i pins s σ H E I hf st hg
    subst hP hw hK
    have f:=hf it (by simp)
    exact wpAny_pyNext_range_end (I.ok.hd hc) st (by have q:n ≤ i:=hg; (clear f hg st hf I hc; omega)) fun h' eb=>⟨rfl,I.turned (t':=s.toks) (fun b o hb e=>eb b o hb e) f.1 f.2.1 f.2.2.2.1 f.2.2.2.2.1 f.2.2.2.2.2⟩
  self:=fun _ _ _ _ _ st h=>wpAny_pyIter_rangeiter st h
theorem size_down (a b:Int):Builtin.Range.rangeSize a b (-1)=if a > b then a - b else 0:=by
  unfold Builtin.Range.rangeSize
  rw [if_neg (by decide)]
  have e:-(-1:Int)=1:=by decide
  rw [e,Int.ediv_one]
  split <;> (clear e; omega)
theorem small_down {a b:Int} (ha:-(2 ^ 62) ≤ a) (ha':a < 2 ^ 62) (hb:-(2 ^ 62) ≤ b) (hb':b < 2 ^ 62):Builtin.Range.small a b (-1)=true:=by
  unfold Builtin.Range.small
  rw [size_down]
  simp only [Builtin.Range.rangeFitsLong,Bool.and_eq_true,Bool.or_eq_true,decide_eq_true_eq,beq_iff_eq,show ¬ ((-1:Int) > 0) by decide,if_false]
  split <;> omega
noncomputable def downD (lo hi:Int):List D:=(List.range (lo - hi).toNat).map fun (k:Nat)=>D.int (lo - (k:Int))
theorem ItOk.down {K:PySem.W.Frag} {Fb:Hp} (lo hi:Int):ItOk K (Itd lo (lo - hi).toNat) Fb (downD lo hi) where
  go:=fun i F H hi' _ _=>by
    show i < (lo - hi).toNat
    simpa [downD] using hi'
  yld:=fun i F H x H' e1 e2 y d hd=>by
    obtain ⟨rfl,rfl⟩:=y
    unfold downD at hd
    rw [List.getElem?_map] at hd
    cases q:(List.range (lo - hi).toNat)[i]? with
    | none=>rw [q] at hd; cases hd
    | some j=>
      rw [q] at hd
      obtain ⟨h1,h2⟩:=List.getElem?_eq_some_iff.mp q
      rw [List.getElem_range] at h2
      subst h2
      simp at hd
      subst hd
      exact ⟨F,Ext.refl e2,rfl⟩
  stop:=fun i F H hi' _ _=>by
    show (lo - hi).toNat ≤ i
    simpa [downD] using hi'
section
variable {X:Cx} {F0 H0:Hp} {xq:Addr→Hp→Prop} {pos:Pos} {a b c e tg:Expr} {fa fb fc:DS→M VR}
noncomputable def iDown (ta:TA):TI:=fun σ H R=>ta σ H fun vs H1=>∃ i j:Int,vs=[.int i,.int j,.int (-1)]∧(-(2 ^ 62) ≤ i∧i < 2 ^ 62∧-(2 ^ 62) ≤ j∧j < 2 ^ 62)∧R (Itd i (i - j).toNat) H1
theorem pi_down {ta:TA} {p:Pos} (hg:Gl X "range") (hm:X.mg "range" = none) (ha:PA X [a,b,c] ta) (hs:starEach [a,b,c] X.env=(false,eval a X.env) :: starEach [b,c] X.env) (hp:(backTo pos (starEach [b,c] X.env)).any (·.1)=false):PI X tg (.Call (.Name "range" p) [a,b,c] [] pos) (iDown ta):=by
  intro pins s σ H R I h
  refine Call_ (ld_blt I hg hm boot_range (PyProof.Rows.callWith_type1 (thn (ha pos pins s σ H _ I h) fun us s1 ⟨vs,H1,I1,r1,q1⟩=>?_) hs hp))
  obtain ⟨i,j,e,⟨q1,q2,q3,q4⟩,q⟩:=q1
  subst e
  obtain ⟨t,t',t'',rfl⟩:∃ t t' t'',us=[.int i t,.int j t',.int (-1) t'']:=by
    cases r1 with
    | cons r rr=>
      cases rr with
      | cons r' rr=>
        cases rr with
        | cons r'' rr=>
          cases rr
          obtain ⟨t,rfl⟩:=r
          obtain ⟨t',rfl⟩:=r'
          obtain ⟨t'',rfl⟩:=r''
          exact ⟨t,t',t'',rfl⟩
  · skip
    refine call_range_3 (by decide) ?_ (.inl (PyProof.noPylong_small (by decide)))
    refine wpAny_pyIter_range (IsRange.new ..) (small_down q1 q2 q3 q4) ?_
    have I2:Inv X pins σ H1 { s1 with heap:=s1.heap.push { cls:=.type "range",data:=.fields #[.int i t,.int j t',.int (-1) t''] },toks:=s1.toks }:=I1.kept fun b o e=>Heap.get?_push_of_some _ e
    refine ⟨_,[(s1.heap.push { cls:=.type "range",data:=.fields #[.int i t,.int j t',.int (-1) t''] }).objs.size],_,_,H1,rfl,I2.kept (t':=s1.toks) fun b o e=>Heap.get?_push_of_some _ e,turn_down _ i (i - j).toNat,?_,fun b hb=>?_,q⟩
    · have e1:i + ((0:Nat):Int) * (-1)=i:=by simp
      have e2:(((i - j).toNat:Nat):Int) - ((0:Nat):Int)=Builtin.Range.rangeSize i j (-1):=by
        rw [size_down]
        split <;> (clear e1 I2 r1 q4 q3 q2 q1 q I1 h I hp hs ha hm hg; omega)
      show IsRangeIter _ _ (i + ((0:Nat):Int) * (-1)) ((((i - j).toNat:Nat):Int) - ((0:Nat):Int)) (-1)
      rw [e1,e2]
      exact Heap.get?_push_size _ rfl
    · have z:b=(s1.heap.push { cls:=.type "range",data:=.fields #[.int i t,.int j t',.int (-1) t''] }).objs.size:=by simpa using hb
      subst z
      exact I2.fpOk (Nat.le_refl _) (I2.hok.fresh (Nat.le_refl _))
noncomputable def asInt:VR→Option Int
  | .ok (.int i)=>some i
  | _=>none
theorem asInt_of {r:VR} {i:Int} (h:asInt r=some i):r=.ok (.int i):=by
  cases r with
  | bor l=>cases h
  | bod ks l=>cases h
  | ok d=>cases d <;> first | (injection h with h; subst h; rfl) | cases h
noncomputable def down3 (x y z:Option Int):M (List D):=match x with
  | none=>none
  | some i=>match y with
    | none=>none
    | some j=>if rOk i=true∧rOk j=true∧z=some (-1) then some (.ok (downD i j)) else none
noncomputable def dRange3 (fs:DS→M (List VR)):DS→M (List D):=fun S=>mb (fs S) fun rs=>match rs with
  | [x,y,z]=>down3 (asInt x) (asInt y) (asInt z)
  | _=>none
theorem di_range3 {p:Pos} {fs:DS→M (List VR)} (hg:Gl X "range") (hm:X.mg "range" = none) (h:DA X F0 H0 xq [a,b,c] fs) (sa:unst a=true:=by rfl) (sb:unst b=true:=by rfl) (sc:unst c=true:=by rfl):DI X F0 H0 xq tg (.Call (.Name "range" p) [a,b,c] [] pos) (dRange3 fs):=.mk fun pins s σ H R I q=>by
  refine pi_down hg hm h.h (star_cons sa) (by rw [star_cons sb,star_cons sc]; rfl) pins s σ H R I ?_
  obtain ⟨F,S,sk,o⟩:=q
  refine ⟨F,S,sk,outA.bind (G:=fun F H z=>outI X.K xq F H R z) (fun e h=>outI.step e h) (fun _ _ h=>h) (fun _ _ _ h=>h) o fun rs vs F1 H1 e1 q1 o1=>?_⟩
  cases rs with
  | nil=>exact False.elim o1
  | cons x rs=>
    cases rs with
    | nil=>exact False.elim o1
    | cons y rs=>
      cases rs with
      | nil=>exact False.elim o1
      | cons z rs=>
        cases rs with
        | cons _ _=>exact False.elim o1
        | nil=>
          have o1:outI X.K xq F1 H1 R (down3 (asInt x) (asInt y) (asInt z)):=o1
          cases ex:asInt x with
          | none=>rw [ex] at o1; exact False.elim o1
          | some i=>
            cases ey:asInt y with
            | none=>rw [ex,ey] at o1; exact False.elim o1
            | some j=>
              rw [ex,ey] at o1
              have o1:outI X.K xq F1 H1 R (if rOk i=true∧rOk j=true∧asInt z=some (-1) then some (.ok (downD i j)) else none):=o1
              by_cases hz:rOk i=true∧rOk j=true∧asInt z=some (-1)
              · rw [if_pos hz] at o1
                obtain ⟨z1,z2,z3⟩:=hz
                obtain ⟨v,t,rfl,r1,v2,t2,rfl,r2,v3,t3,rfl,r3,rfl⟩:=q1
                rw [asInt_of ex] at r1
                rw [asInt_of ey] at r2
                rw [asInt_of z3] at r3
                cases r1
                cases r2
                cases r3
                exact ⟨i,j,rfl,⟨(rOk_iff z1).1,(rOk_iff z1).2,(rOk_iff z2).1,(rOk_iff z2).2⟩,o1 _ F1 H1 (Ext.refl e1.fh) (ItOk.down i j)⟩
              · rw [if_neg hz] at o1; exact False.elim o1
end
end PF
set_option Elab.async false
set_option linter.all false
set_option maxRecDepth 100000
set_option maxHeartbeats 4000000
namespace PF
open PySem PySem.Spec L2
open PyProof.Rows hiding St
theorem turned_laidL {X:Cx} {pins:List (Addr × Obj)} {σ:St} {H:Hp} {s:Shared} {h':Heap} {t':Nat} {ch:List Addr} {T:Addr} {o:HO} (I:Inv X pins σ H s) (k:∀ b u,b ∉ ch→s.heap.get? b=some u→h'.get? b=some u)
    (f:∀ b ∈ ch,FpOk X pins H b) (hT:s.heap.objs.size ≤ T) (new:ObjOk X.prog X.w (upd H T o) h' T o):Inv X pins σ (upd H T o) { s with heap:=h',toks:=t' }:=by
  have hn:H T=none:=I.hok.fresh hT
  have nT:∀ b u,s.heap.get? b=some u→b ≠ T:=fun b u q z=>absurd (Nat.lt_of_lt_of_le (Heap.lt_size q) (z ▸ hT)) (Nat.lt_irrefl _)
  have nit:∀ b u,H b=some u→b ∉ ch:=fun b u q z=>by rw [(f b z).1] at q; cases q
  have up:∀ b u,H b=some u→upd H T o b=some u:=fun b u q=>by rw [upd_ne (ne_of_none q hn)]; exact q
  refine I.step (g':=s.gens) (d':=s.drawn) (ch:=ch) (fun b hb=>?_) (fun b u _ _ hc q _=>k b u hc q) (fun b u _ _ hc q _=>⟨u.slots,k b u hc q⟩) (fun b u _ q n=>by rw [upd_ne (nT b u q)]; exact n)
    (fun b u hc q=>⟨u,k b u hc q⟩) (fun b xs q=>up b _ q) (fun b u v q=>up b _ q) (fun b ps q=>⟨#[],by rw [up b _ q]; simp⟩) (fun m hm=>?_) (fun b u q=>?_) I.bare
  · obtain ⟨a0,a1,a2,a3,a4,a5⟩:=f b hb
    exact ⟨a3,a1,a4,a5⟩
  · obtain ⟨ob,es,ep,ho,r⟩:=hm
    exact ⟨ob,es,ep,k _ ob (fun z=>(f _ z).2.1 rfl) ho,r⟩
  · by_cases hb:b=T
    · subst hb; rw [upd_same] at q; cases q; exact new
    · rw [upd_ne hb] at q
      refine (I.hok b u q).stay (fun c v hc z=>?_) (fun c z=>up c _ z) fun c xs z=>up c _ z
      rcases hc with hc | hc
      · subst hc; exact k _ v (nit _ u q) z
      · exact k c v (nit c _ hc) z
theorem turnedL {X:Cx} {pins:List (Addr × Obj)} {σ:St} {H:Hp} {s:Shared} {h':Heap} {t':Nat} {ch:List Addr} (I:Inv X pins σ H s) (k:∀ b u,b ∉ ch→s.heap.get? b=some u→h'.get? b=some u)
    (f:∀ b ∈ ch,FpOk X pins H b):Inv X pins σ H { s with heap:=h',toks:=t' }:=by
  have nit:∀ b u,H b=some u→b ∉ ch:=fun b u q z=>by rw [(f b z).1] at q; cases q
  refine I.step (g':=s.gens) (d':=s.drawn) (ch:=ch) (fun b hb=>?_) (fun b u _ _ hc q _=>k b u hc q) (fun b u _ _ hc q _=>⟨u.slots,k b u hc q⟩) (fun b u _ q n=>n)
    (fun b u hc q=>⟨u,k b u hc q⟩) (fun b xs q=>q) (fun b u v q=>q) (fun b ps q=>⟨#[],by rw [q]; simp⟩) (fun m hm=>?_) (fun b u q=>?_) I.bare
  · obtain ⟨a0,a1,a2,a3,a4,a5⟩:=f b hb
    exact ⟨a3,a1,a4,a5⟩
  · obtain ⟨ob,es,ep,ho,r⟩:=hm
    exact ⟨ob,es,ep,k _ ob (fun z=>(f _ z).2.1 rfl) ho,r⟩
  · refine (I.hok b u q).stay (fun c v hc z=>?_) (fun c z=>z) fun c xs z=>z
    rcases hc with hc | hc
    · subst hc; exact k _ v (nit _ u q) z
    · exact k c v (nit c _ hc) z
noncomputable def Itz (K:PySem.W.Frag) (l1 l2:Addr):It:=
  ⟨fun i H=>∃ xs ys x y,SqL K H l1 xs∧SqL K H l2 ys∧xs[i]?=some x∧ys[i]?=some y,
   fun i H x H'=>∃ T v w,x=.ref T∧H T=none∧H'=upd H T (.tup [v,w])∧(∀ xs,SqL K H l1 xs→xs[i]?=some v)∧∀ ys,SqL K H l2 ys→ys[i]?=some w,
   fun i H=>∃ xs ys,SqL K H l1 xs∧SqL K H l2 ys∧(xs.length ≤ i∨ys.length ≤ i)⟩
theorem turn_zip {P:Program} {w:World} {K:PySem.W.Frag} {elts:List Expr} {kt:Nat} {pt:Pos} (z TI TO i1 i2 l1 l2:Addr) (D:ZipApart z TI TO i1 i2 l1 l2) :
    Turn P w K (.Tuple elts kt pt) (Itz K l1 l2) [z,TI,TO,i1,i2] z (fun i h=>IsZip h z TI TO .none∧IsPair h TI (.ref i1) (.ref i2)∧(∃ a b,IsPair h TO a b)∧h.IsListIter i1 l1 i∧h.IsListIter i2 l2 i) where
  mem:=by simp
  obj:=fun i h st b hb=>by
    obtain ⟨a1,a2,⟨u,v,a3⟩,a4,a5⟩:=st
    have q:b=z∨b=TI∨b=TO∨b=i1∨b=i2:=by simpa using hb
    rcases q with q | q | q | q | q
    · subst q; exact ⟨_,a1,fun v z=>by cases z⟩
    · subst q; exact ⟨_,a2,fun v z=>by cases z⟩
    · subst q; exact ⟨_,a3,fun v z=>by cases z⟩
    · subst q
      obtain ⟨o,e,c,d⟩:=a4
      exact ⟨o,e,fun v z=>by rw [d] at z; cases z⟩
    · subst q
      obtain ⟨o,e,c,d⟩:=a5
      exact ⟨o,e,fun v z=>by rw [d] at z; cases z⟩
  keep:=fun i h h' st k=>by
    obtain ⟨a1,a2,⟨u,v,a3⟩,a4,a5⟩:=st
    exact ⟨k z (by simp) _ a1,k TI (by simp) _ a2,⟨u,v,k TO (by simp) _ a3⟩,a4.at fun o e=>k i1 (by simp) o e,a5.at fun o e=>k i2 (by simp) o e⟩
  item:=by
    intro X hP hw hK hc i pins s σ H E I hf st hg
    subst hP hw hK
    obtain ⟨a1,a2,⟨u,v,a3⟩,a4,a5⟩:=st
    obtain ⟨xs,ys,x,y,h1,h2,hx,hy⟩:=hg
    obtain ⟨its1,rv1,p1,_⟩:=I.list h1
    obtain ⟨its2,rv2,p2,_⟩:=I.list h2
    obtain ⟨u1,hu1,ru1⟩:=rv1.get hx
    obtain ⟨u2,hu2,ru2⟩:=rv2.get hy
    have hn:H s.heap.objs.size=none:=I.hok.fresh (Nat.le_refl _)
    refine wpAny_pyNext_zip_item D a1 a2 a3 a4 a5 p1.isList p2.isList (x:=u1) (y:=u2) (by simpa using hu1) (by simpa using hu2) fun h' b1 b2 b3 b4 b5 b6 b7=>⟨_,rfl,?_⟩
    refine wpAny_letOwnedTupleGo_zip b1 fun hb2 c1 c2=>?_
    replace c2:Heap.SameBut z h' hb2:=c2
    have zlt:z < s.heap.objs.size:=Heap.lt_size a1
    have hT2:=(c2.2 s.heap.objs.size (Nat.ne_of_gt zlt)).trans b5
    have I2:Inv X pins σ (upd H s.heap.objs.size (.tup [x,y])) { s with heap:=hb2,toks:=s.toks }:=by
      refine turned_laidL (ch:=[z,TI,TO,i1,i2]) I (fun b v nb q=>?_) hf (Nat.le_refl _) ?_
      · simp at nb
        exact (c2.2 b nb.1).trans (b7 b v nb.1 nb.2.2.1 nb.2.2.2.1 nb.2.2.2.2 q)
      · exact ⟨by show 2 ≤ sizeLine; decide,[u1,u2],.cons ru1 (.cons ru2 .nil),_,hT2,rfl,_,rfl⟩
    refine ⟨.ref s.heap.objs.size,_,I2,rfl,⟨_,x,y,rfl,hn,rfl,fun zs hz=>by rw [I.list_inj hz h1]; exact hx,fun zs hz=>by rw [I.list_inj hz h2]; exact hy⟩,
      ⟨c1,(c2.2 TI D.TIz).trans (b7 TI _ D.TIz D.TITO D.TIi1 D.TIi2 a2),⟨_,_,(c2.2 TO D.TOz).trans b2⟩,b3.at fun o e=>(c2.2 i1 D.i1z).trans e,b4.at fun o e=>(c2.2 i2 D.i2z).trans e⟩,fun b hb=>?_⟩
    have nb:b ≠ s.heap.objs.size:=by
      have q:b=z∨b=TI∨b=TO∨b=i1∨b=i2:=by simpa using hb
      rcases q with q | q | q | q | q
      · subst q; exact Nat.ne_of_lt zlt
      · subst q; exact Nat.ne_of_lt (Heap.lt_size a2)
      · subst q; exact Nat.ne_of_lt (Heap.lt_size a3)
      · subst q
        obtain ⟨o,e,_⟩:=a4
        exact Nat.ne_of_lt (Heap.lt_size e)
      · subst q
        obtain ⟨o,e,_⟩:=a5
        exact Nat.ne_of_lt (Heap.lt_size e)
    rw [upd_ne nb]
    exact (hf b hb).1
  done:=by
    intro X hP hw hK hc i pins s σ H E I hf st hg
    subst hP hw hK
    obtain ⟨a1,a2,⟨u,v,a3⟩,a4,a5⟩:=st
    obtain ⟨xs,ys,h1,h2,hx⟩:=hg
    obtain ⟨its1,rv1,p1,_⟩:=I.list h1
    obtain ⟨its2,rv2,p2,_⟩:=I.list h2
    have e1:=rv1.length
    have e2:=rv2.length
    refine wpAny_pyNext_zip_end (I.ok.hd hc) D a1 a2 a3 a4 a5 p1.isList p2.isList ?_ fun h' k=>⟨rfl,turnedL (t':=s.toks) (ch:=[z,TI,TO,i1,i2]) I (fun b v nb q=>?_) hf⟩
    · rcases hx with hx | hx
      · left; simp; (clear e2 p2 rv2 p1 rv1 h2 h1 a5 a4 a3 a2 a1 hf I hc D; omega)
      · right; simp; (clear e1 p2 rv2 p1 rv1 h2 h1 a5 a4 a3 a2 a1 hf I hc D; omega)
    · simp at nb
      exact k b v nb.1 nb.2.2.1 nb.2.2.2.1 nb.2.2.2.2 q
  self:=fun _ _ _ _ _ st h=>wpAny_pyIter_zip st.1 h
section
variable {X:Cx} {F0 H0:Hp} {xq:Addr→Hp→Prop} {pos:Pos} {a b:Expr} {fa fb:DS→M VR}
noncomputable def iZip (K:PySem.W.Frag) (ta:TA):TI:=fun σ H R=>ta σ H fun vs H1=>∃ l1 l2,vs=[.ref l1,.ref l2]∧(∃ xs,SqL K H1 l1 xs)∧(∃ ys,SqL K H1 l2 ys)∧R (Itz K l1 l2) H1
theorem pi_zip {ta:TA} {elts:List Expr} {kt:Nat} {pt p:Pos} (hg:Gl X "zip") (hm:X.mg "zip" = none) (ha:PA X [a,b] ta) (sa:unst a=true) (sb:unst b=true):PI X (.Tuple elts kt pt) (.Call (.Name "zip" p) [a,b] [] pos) (iZip X.K ta):=by
  intro pins s σ H R I h
  refine Call_ (ld_blt I hg hm boot_zip (PyProof.Rows.callWith_type1 (thn (ha pos pins s σ H _ I h) fun us s1 ⟨vs,H1,I1,r1,q1⟩=>?_) (star_cons sa) (by rw [star_cons sb]; rfl)))
  obtain ⟨l1,l2,e,⟨xs,h1⟩,⟨ys,h2⟩,q⟩:=q1
  subst e
  obtain rfl:us=[.ref l1,.ref l2]:=by
    cases r1 with
    | cons r rr=>
      cases rr with
      | cons r' rr=>
        cases rr
        cases r
        cases r'
        rfl
  obtain ⟨its1,rv1,p1,_⟩:=I1.list h1
  obtain ⟨its2,rv2,p2,_⟩:=I1.list h2
  have n1:@LT.lt Nat _ l1 s1.heap.objs.size:=by obtain ⟨o,n,e,_⟩:=p1; exact Heap.lt_size e
  have n2:@LT.lt Nat _ l2 s1.heap.objs.size:=by obtain ⟨o,n,e,_⟩:=p2; exact Heap.lt_size e
  refine call_zip_2 p1.isList p2.isList fun h' b1 b2 b3 b4 b5 b6 b7=>wpAny_pyIter_zip b1 ?_
  have D:ZipApart (s1.heap.objs.size + 4) (s1.heap.objs.size + 2) (s1.heap.objs.size + 3) s1.heap.objs.size (s1.heap.objs.size + 1) l1 l2:=by
    constructor <;> (show @Ne Nat _ _) <;> (clear b7 b6 b5 b4 b3 b2 b1 p2 rv2 p1 rv1 r1 h2 q h1 I1 h I sb sa ha hm hg; omega)
  refine ⟨_,[s1.heap.objs.size + 4,s1.heap.objs.size + 2,s1.heap.objs.size + 3,s1.heap.objs.size,s1.heap.objs.size + 1],_,_,H1,rfl,I1.kept (t':=s1.toks) b7,turn_zip _ _ _ _ _ _ _ D,⟨b1,b2,⟨_,_,b3⟩,b4,b5⟩,fun c hc=>?_,q⟩
  have hc':s1.heap.objs.size ≤ c:=by
    have:@Eq Nat c (s1.heap.objs.size + 4)∨@Eq Nat c (s1.heap.objs.size + 2)∨@Eq Nat c (s1.heap.objs.size + 3)∨@Eq Nat c s1.heap.objs.size∨@Eq Nat c (s1.heap.objs.size + 1):=by simpa using hc
    (show @LE.le Nat _ _ _); (clear hc D b7 b6 b5 b4 b3 b2 b1 n2 n1 p2 rv2 p1 rv1 r1 h2 q h1 I1 h I sb sa ha hm hg; omega)
  exact I1.fpOk hc' (I1.hok.fresh hc')
noncomputable def zipD:List D→List D→List D
  | x :: l,y :: r=>.tup [x,y] :: zipD l r
  | _,_=>[]
theorem zipD_get:∀ {l r:List D} {i:Nat} {d:D},(zipD l r)[i]?=some d→∃ x y,l[i]?=some x∧r[i]?=some y∧d=.tup [x,y]
  | [],_,_,_,h=>by simp [zipD] at h
  | _ :: _,[],_,_,h=>by simp [zipD] at h
  | x :: l,y :: r,0,d,h=>by
    simp [zipD] at h
    exact ⟨x,y,rfl,rfl,h.symm⟩
  | x :: l,y :: r,i + 1,d,h=>by
    obtain ⟨u,v,h1,h2,h3⟩:=zipD_get (l:=l) (r:=r) (i:=i) (d:=d) (by simpa [zipD] using h)
    exact ⟨u,v,by simpa using h1,by simpa using h2,h3⟩
theorem zipD_len:∀ (l r:List D),(zipD l r).length=min l.length r.length
  | [],_=>by simp [zipD]
  | _ :: _,[]=>by simp [zipD]
  | x :: l,y :: r=>by simp [zipD,zipD_len l r]
theorem ItOk.zip {K:PySem.W.Frag} {Fb:Hp} {l1 l2:Addr} {vs ws:List V} {ds es:List D} (h1:SqL K Fb l1 vs) (h2:SqL K Fb l2 ws) (r1:RepL K Fb ds vs) (r2:RepL K Fb es ws):ItOk K (Itz K l1 l2) Fb (zipD ds es) where
  go:=fun i F H hi e1 e2=>by
    rw [zipD_len] at hi
    have q1:=r1.length
    have q2:=r2.length
    exact ⟨vs,ws,vs[i]'(by (clear q2 e2 e1 r2 r1 h2 h1; omega)),ws[i]'(by (clear q1 e2 e1 r2 r1 h2 h1; omega)),(e1.trans e2).seq h1,(e1.trans e2).seq h2,List.getElem?_eq_getElem _,List.getElem?_eq_getElem _⟩
  yld:=fun i F H x H' e1 e2 y d hd=>by
    obtain ⟨T,v,w,rfl,hT,rfl,y1,y2⟩:=y
    obtain ⟨d1,d2,g1,g2,rfl⟩:=zipD_get hd
    obtain ⟨v',p1,p2⟩:=r1.get g1
    obtain ⟨w',p3,p4⟩:=r2.get g2
    have z1:=y1 vs ((e1.trans e2).seq h1)
    have z2:=y2 ws ((e1.trans e2).seq h2)
    rw [p1] at z1; cases z1
    rw [p3] at z2; cases z2
    refine ⟨_,ext_alloc e2 hT,T,[v,w],rfl,SqT.of upd_same,?_⟩
    exact .cons ((p2.mono e1).mono (same_upd (e2.free hT))) (.one ((p4.mono e1).mono (same_upd (e2.free hT))))
  stop:=fun i F H hi e1 e2=>by
    rw [zipD_len] at hi
    have q1:=r1.length
    have q2:=r2.length
    exact ⟨vs,ws,(e1.trans e2).seq h1,(e1.trans e2).seq h2,by (clear e2 e1 r2 r1 h2 h1; omega)⟩
noncomputable def asLst:VR→Option (List D)
  | .ok (.lst l)=>some l
  | _=>none
theorem asLst_of {r:VR} {l:List D} (h:asLst r=some l):r=.ok (.lst l):=by
  cases r with
  | bor l=>cases h
  | bod ks l=>cases h
  | ok d=>cases d <;> first | (injection h with h; subst h; rfl) | cases h
noncomputable def zip2 (x y:Option (List D)):M (List D):=match x with
  | none=>none
  | some l=>match y with
    | none=>none
    | some r=>some (.ok (zipD l r))
noncomputable def dZip (fs:DS→M (List VR)):DS→M (List D):=fun S=>mb (fs S) fun rs=>match rs with
  | [x,y]=>zip2 (asLst x) (asLst y)
  | _=>none
theorem di_zip {elts:List Expr} {kt:Nat} {pt p:Pos} {fs:DS→M (List VR)} (hg:Gl X "zip") (hm:X.mg "zip" = none) (h:DA X F0 H0 xq [a,b] fs) (sa:unst a=true:=by rfl) (sb:unst b=true:=by rfl):DI X F0 H0 xq (.Tuple elts kt pt) (.Call (.Name "zip" p) [a,b] [] pos) (dZip fs):=.mk fun pins s σ H R I q=>by
  refine pi_zip hg hm h.h sa sb pins s σ H R I ?_
  obtain ⟨F,S,sk,o⟩:=q
  refine ⟨F,S,sk,outA.bind (G:=fun F H z=>outI X.K xq F H R z) (fun e h=>outI.step e h) (fun _ _ h=>h) (fun _ _ _ h=>h) o fun rs vs F1 H1 e1 q1 o1=>?_⟩
  cases rs with
  | nil=>exact False.elim o1
  | cons x rs=>
    cases rs with
    | nil=>exact False.elim o1
    | cons y rs=>
      cases rs with
      | cons _ _=>exact False.elim o1
      | nil=>
        have o1:outI X.K xq F1 H1 R (zip2 (asLst x) (asLst y)):=o1
        cases ex:asLst x with
        | none=>rw [ex] at o1; exact False.elim o1
        | some l=>
          cases ey:asLst y with
          | none=>rw [ex,ey] at o1; exact False.elim o1
          | some r=>
            rw [ex,ey] at o1
            obtain ⟨v,t,rfl,r1,v2,t2,rfl,r2,rfl⟩:=q1
            rw [asLst_of ex] at r1
            rw [asLst_of ey] at r2
            obtain ⟨a1,vs,rfl,g1,p1⟩:=r1
            obtain ⟨a2,ws,rfl,g2,p2⟩:=r2
            exact ⟨a1,a2,rfl,⟨vs,SqL.of (e1.fh _ _ g1)⟩,⟨ws,SqL.of (e1.fh _ _ g2)⟩,o1 _ F1 H1 (Ext.refl e1.fh) (ItOk.zip (SqL.of g1) (SqL.of g2) p1 p2)⟩
end
end PF
set_option Elab.async false
set_option linter.all false
set_option maxRecDepth 100000
set_option maxHeartbeats 4000000
namespace PF
open PySem PySem.Spec L2
open PyProof.Rows hiding St
noncomputable def outC (K:PySem.W.Frag) (F0 H0:Hp) (xq:Addr→Hp→Prop) (Dn:Ends) (j:Nat) (S:DS) (H:Hp):M (List D)→Prop
  | none=>False
  | some (.error c)=>∀ H',Same H H'→xq c H'
  | some (.ok l)=>∀ σ' F' H',StOk K F0 H0 F' H' σ' (S.set j (some (.val (.lst l))))→Dn.nx σ' H'
theorem outC.step {K:PySem.W.Frag} {F0 H0 F H F' H':Hp} {xq:Addr→Hp→Prop} {Dn:Ends} {j:Nat} {S:DS} {x:M (List D)} (e:Ext F H F' H') (h:outC K F0 H0 xq Dn j S H x):outC K F0 H0 xq Dn j S H' x:=by
  match x,h with
  | some (.error c),h=>exact fun H2 s=>h H2 (e.hh.trans s)
  | some (.ok l),h=>exact h
theorem outC.of {K:PySem.W.Frag} {F0 H0 F H:Hp} {σ:St} {xq:Addr→Hp→Prop} {Dn:Ends} {j:Nat} {S:DS} {f:DS→M (List D)} (sk:StOk K F0 H0 F H σ S) (o:outS K F0 H0 xq Dn (dSet j (dOf f) S)):outC K F0 H0 xq Dn j S H (f S):=by
  unfold dSet dOf at o
  cases q:f S with
  | none=>rw [q] at o; exact False.elim o
  | some z=>
    cases z with
    | error c=>rw [q] at o; exact fun H' s=>o H' (sk.ext.hh.trans s)
    | ok l=>rw [q] at o; exact o
theorem ds_setcomp {X:Cx} (j:Nat) {x:Str} {pos' pos2:Pos} (hN:X.N.Nodup) (nt:Nat) (caps:List Nat) (tn cn:List Str)  {F0 H0:Hp} {xq:Addr→Hp→Prop} {elt tg iter:Expr} {ifs:List Expr} {scope:Scope} {pos:Pos} {fi:DS→M (List D)} {set:D→DS→Option DS} {fc:DS→M Bool} {fe:DS→M VR}
    (hcalm:X.calm=true) (hkind:scope.kind=.function) (hcell:∀ y ∈ scope.names,y.2 ≠ .cell) (hnames:∀ x ∈ scope.names,x.2=.local→scope.names.lookup x.1=some .local)
    (hfree:∀ y ∈ scope.names,y.2=.free→X.env.kindOf y.1=some .cell∨X.env.kindOf y.1=some .free) (htn:tn.length=nt) (hcap:CapsOk X scope caps cn) (hnd:caps.Nodup)
    (hi:DI X F0 H0 xq tg iter fi) (hg:∀ C s H ex F0 H0,DG (compX X (tn ++ cn) scope C s H ex) F0 H0 tg set) (hc:∀ C s H ex F0 H0,DIfs (compX X (tn ++ cn) scope C s H ex) F0 H0 ifs fc) (he:∀ C s H ex F0 H0,DE (compX X (tn ++ cn) scope C s H ex) F0 H0 noX elt fe)
    (hs:∀ x,foldedSetIterable iter X.env x=pure x:=by intro _; rfl) (hj:X.N[j]?=some x:=by rfl) (hx:X.env.scope.names.lookup x=some .local:=by rfl)
    (hsw:swapsWith (.ListComp elt [⟨tg,iter,ifs,0⟩] scope pos) (some (.Name x pos')) pos2.line X.env=pure true:=by rfl):DS1 X F0 H0 xq (.Assign [.Name x pos'] (.ListComp elt [⟨tg,iter,ifs,0⟩] scope pos) pos2) (dSet j (dOf (dComp nt caps fi set fc fe))):=.mk fun pins s σ H Dn I q=>by
  obtain ⟨F,S,sk,o⟩:=q
  have o:=outC.of sk o
  rw [exec_Assign_Name_used x pos' _ pos2 hsw]
  refine wpAny_bind (wpAny_standAt ?_)
  show wpAny _ _ ((comprehension (.ListComp elt [⟨tg,iter,ifs,0⟩] scope pos) scope X.env _ (newList []) _ _ (some (assign (.Name x pos') X.env)) >>= fun _=>pure ()) >>= fun _=>(pure Flow.next:Sem Flow)) _ _ _
  refine wpAny_bind (wpAny_bind ?_)
  refine comp_core (some (assign (.Name x pos') X.env)) _ (fun F1 H1 z=>outC X.K F0 H0 xq Dn j S H1 z) nt caps tn cn (fun e h=>outC.step e h) (fun _ _ h=>h) (fun _ _ _ h=>h) hcalm hkind hcell hnames hfree htn hcap hnd hi hg hc he hs I sk o ?_
  intro C Dd vs F2 H2 F' H' s5 m5 res r e2 ex' hD hFD hHD ra o3 J hn hC0 locC fsC s0C cellC pinC
  have o3':∀ σ' F' H',StOk X.K F0 H0 F' H' σ' (S.set j (some (.val (.lst res))))→Dn.nx σ' H':=o3
  obtain ⟨oC,esC,epC,hoC,rC⟩:=hn
  have J':Inv X (pins ++ [(C,oC)]) σ H' s5:=J.pins_of fun p hp=>by
    rcases List.mem_append.mp hp with z | z
    · exact J.pin p (List.mem_append_right _ z)
    · have z':p=(C,oC):=by simpa using z
      subst z'
      exact ⟨hoC,hC0,locC,fsC,fun v z=>by rw [rC.1] at z; cases z⟩
  have ex2:Ext F2 H2 (upd F' Dd (.lst vs)) H':=⟨ex'.ff.trans (same_upd hFD),ex'.hh,fun b u z=>by
    by_cases eb:b=Dd
    · subst eb; rw [upd_same] at z; rw [hHD]; exact z
    · rw [upd_ne eb] at z; exact ex'.fh b u z,fun b xs hb fb=>by
    rw [upd_ne (ne_of_none hb hD)]; exact ex'.new b xs hb fb⟩
  have skF:=((sk.step e2).step ex2).setVal (d:=.lst res) (v:=.ref Dd) ⟨Dd,vs,rfl,upd_same,ra.mono (same_upd hFD)⟩ j
  show wpAny _ _ (assign (.Name x pos') X.env (.ref Dd)) _ _ s5
  refine wpAny_bind (wpAny_standAt (wpAny_bindName (store_ok (v:=.ref Dd) J' hN hj (.inl hx) rfl (fun s6 I6=>?_) (.inr hx))))
  have p6:=I6.pin (C,oC) (by simp)
  refine ⟨m5,⟨oC,esC,epC,p6.1,rC⟩,fun h7 sb=>?_⟩
  refine wpAny_pure (wpAny_pure ⟨_,H',?_,o3' _ _ _ skF⟩)
  exact (I6.unpinned).turned (t':=s6.toks) (it:=C) (fun b ob nb e=>sb.extBut b ob nb e) hC0 locC (.inr s0C) cellC pinC
end PF
set_option Elab.async false
set_option linter.all false
set_option maxRecDepth 100000
set_option maxHeartbeats 4000000
namespace PF
open PySem PySem.Spec L2
open PyProof.Rows hiding St
theorem rv_owner:Manifest.owners.lookup (String.ofList ['d','e','s','r','e','v','e','r'].reverse)=some Manifest.sig_reversed:=by kernel_rfl
theorem rv_slot_next:PySem.Slot "reversed" "__next__" "reversed.__next__" := .of (owner := "reversed") (n := "__next__") (by rw [typeLookup_type,builtinLookup_eq_fast]; kernel_rfl) (by decide +kernel) (by decide +kernel) (by decide +kernel) (by first | exact .inl (by decide +kernel) | exact .inr (by decide +kernel)) (by rw [isSubtype_type]; kernel_rfl)
theorem rv_entry_next:entryFor table "reversed.__next__" = some Builtin.«reversed.__next__»:=entryFor_of_tree (by kernel_rfl)
theorem rv_args_next (a:Value):argsOk "reversed.__next__" ⟨[a],[]⟩:=by
  unfold argsOk; rw [signature?_of (id := "reversed.__next__") (n:=['_','_','t','x','e','n','_','_']) (o:=['d','e','s','r','e','v','e','r']) (by kernel_rfl) rv_owner]; kernel_rfl
theorem rv_slot_iter:PySem.Slot "reversed" "__iter__" "reversed.__iter__" := .of (owner := "reversed") (n := "__iter__") (by rw [typeLookup_type,builtinLookup_eq_fast]; kernel_rfl) (by decide +kernel) (by decide +kernel) (by decide +kernel) (by first | exact .inl (by decide +kernel) | exact .inr (by decide +kernel)) (by rw [isSubtype_type]; kernel_rfl)
theorem rv_args_iter (a:Value):argsOk "reversed.__iter__" ⟨[a],[]⟩:=by
  unfold argsOk; rw [signature?_of (id := "reversed.__iter__") (n:=['_','_','r','e','t','i','_','_']) (o:=['d','e','s','r','e','v','e','r']) (by kernel_rfl) rv_owner]; kernel_rfl
theorem rv_entry_iter:entryFor table "reversed.__iter__" = some Builtin.«dict_keyiterator.__iter__»:=
  (entryFor_alias (id' := "dict_keyiterator.__iter__") (by kernel_rfl) (by first | rfl | decide +kernel | (unfold String.splitOn; simp +decide [String.splitOnAux])) (by decide +kernel) (by kernel_rfl))
theorem rv_slot_init:PySem.Slot "reversed" "__init__" "object.__init__" := .of (owner := "object") (n := "__init__") (by rw [typeLookup_type,builtinLookup_eq_fast]; kernel_rfl) (by decide +kernel) (by decide +kernel) (by decide +kernel) (by first | exact .inl (by decide +kernel) | exact .inr (by decide +kernel)) (by rw [isSubtype_type]; kernel_rfl)
theorem rv_called:TypeCalled "reversed" "reversed.__new__" "object.__init__" :=
  ⟨by decide +kernel,by decide +kernel,⟨_,_,F.mro_reversed⟩,F.made_reversed,by decide +kernel,by rw [isSubtype_type]; kernel_rfl,rv_slot_init⟩
theorem rv_none:typeLookup (.type "tuple") "__reversed__" = pure none:=by rw [typeLookup_type,builtinLookup_eq_fast]; kernel_rfl
theorem rv_nodict:isSubtype (.type "tuple") (.type "dict")=pure false:=by rw [isSubtype_type]; kernel_rfl
noncomputable abbrev IsRv (h:Heap) (a t:Addr) (i:Int):Prop:=h.get? a=some { cls:=.type "reversed",dict:=none,data:=.fields #[.ref t,rawInt i],slots:=#[] }
theorem meets_rv (t:Addr) (its:Array Value) (hz:(its.size:Int) < 2 ^ 63) :
    Meets (Builtin.«reversed.__new__» ⟨[.type "reversed",.ref t],[]⟩) (fun _ R s=>IsTup s.heap t its∧R (.ok (.ret (.ref s.heap.objs.size))) { s with heap:=s.heap.push { cls:=.type "reversed",data:=.fields #[.ref t,rawInt ((its.size:Int) - 1)] },toks:=s.toks + 1 + 1 }):=
  .of_wp fun prog w A R s h=>by
    obtain ⟨hp,gg,dd,tk,oo⟩:=s
    obtain ⟨ht,h⟩:=h
    have hT:Heap.IsTuple (Shared.heap ⟨hp,gg,dd,tk,oo⟩) t its:=ht
    unfold Builtin.«reversed.__new__»
    refine wpAny_bind (wpAny_of_eq (newClass_reversed _) ?_)
    refine wpAny_bind (wpAny_of_eq (a:=()) (by first | rfl | kernel_rfl) ?_)
    refine wpAny_bind (wpAny_of_eq (a:=()) (by first | rfl | kernel_rfl) ?_)
    refine wpAny_bind (wpAny_specialOf hT.typeIs rv_none ?_)
    show wpAny _ _ (_ >>= _) _ _ _
    refine wpAny_bind ?_
    show wpAny _ _ (isInstance (.ref t) (.type "dict") >>= _) _ _ _
    refine wpAny_bind (wpAny_isInstance (T := "tuple") hT.typeIs rv_nodict ?_)
    show wpAny _ _ (specialOf (.ref t) "__getitem__" >>= _) _ _ _
    refine wpAny_bind (wpAny_specialOf hT.typeIs slot_tuple_getitem.lookup ?_)
    show wpAny _ _ (pure true) _ _ _
    refine wpAny_pure ?_
    show wpAny _ _ (call (.builtin "len") [.ref t] >>= _) _ _ _
    refine wpAny_bind (len_tuple ht hz ?_)
    refine wpAny_bind (wpAny_of_eq (a:=some (its.size:Int)) rfl ?_)
    show wpAny _ _ (Builtin.SmallTypes.newRecord _ _ >>= _) _ _ _
    unfold Builtin.SmallTypes.newRecord
    refine wpAny_bind (wpAny_newObj_type ?_)
    exact wpAny_pure ⟨_,rfl,h⟩
section
variable {prog:Program} {w:World} {A:Around} {E:Value→Shared→Prop} {s:Shared}
theorem call_rv {t:Addr} {its:Array Value} {Q:Value→Shared→Prop} (ht:IsTup s.heap t its) (hz:(its.size:Int) < 2 ^ 63)
    (h:Q (.ref s.heap.objs.size) { s with heap:=s.heap.push { cls:=.type "reversed",data:=.fields #[.ref t,rawInt ((its.size:Int) - 1)] },toks:=s.toks + 1 + 1 }):wpAny (model prog w) A (call (.type "reversed") [.ref t]) Q E s:=
  callType_new rv_called (by decide) (F.typeCall_reversed_1 _) (F.newCall_reversed_1 _) (fun obj=>F.args_object_init_2 obj _) F.entry_reversed_new (meets_rv t its hz) ⟨ht,⟨_,Heap.get?_push_size _ rfl,rfl⟩,h⟩
theorem iter_rv {a t:Addr} {i:Int} {Q:Value→Shared→Prop} (hr:IsRv s.heap a t i) (h:Q (.ref a) s):wpAny (model prog w) A (pyIter (.ref a)) Q E s:=by
  have hT:s.TypeIs (.ref a) "reversed" := ⟨_,hr,rfl⟩
  refine wpAny_pyIter_slot hT rv_slot_iter (wpAny_call_entry rv_slot_iter hT rv_entry_iter ?_ (rv_args_iter _))
  show wpAny _ _ (ret (.ref a)) _ _ s; exact wpAny_pure ⟨_,rfl, "reversed",_,hT,rv_slot_next.lookup,h⟩
theorem next_rv {a t:Addr} {i:Nat} {its:Array Value} {x:Value} {Q:Option Value→Shared→Prop} (hr:IsRv s.heap a t (i:Int)) (ht:IsTup s.heap t its) (hx:its[i]?=some x) (hz:(its.size:Int) < 2 ^ 63)
    (q:∀ h' tk,IsRv h' a t ((i:Int) - 1)→Heap.SameBut a s.heap h'→Q (some x) { s with heap:=h',toks:=tk }):wpAny (model prog w) A (pyNext (.ref a)) Q E s:=by
  have hT:s.TypeIs (.ref a) "reversed" := ⟨_,hr,rfl⟩
  have hi:i < its.size:=by
    rcases Nat.lt_or_ge i its.size with c | c
    · exact c
    · rw [Array.getElem?_eq_none c] at hx; cases hx
  unfold pyNext
  refine wpAny_bind (wpAny_attempt (wpAny_callSpecial?_slot (name:=Str.ofString "__next__") hT rv_slot_next (wpAny_call_entry rv_slot_next hT rv_entry_next ?_ (rv_args_next _))))
  unfold Builtin.«reversed.__next__»
  refine wpAny_bind (wpAny_of_eq (a:=(Value.ref a,[])) rfl ?_)
  show wpAny _ _ (field (.ref a) 0 >>= _) _ _ s; refine wpAny_bind (wpAny_field hr rfl (x:=.ref t) rfl ?_)
  show wpAny _ _ (field (.ref a) 1 >>= _) _ _ s; refine wpAny_bind (wpAny_field hr rfl (x:=rawInt (i:Int)) rfl ?_)
  show wpAny _ _ (if (i:Int) < 0 then _ else _) _ _ s; rw [if_neg (by (clear hi hT q hz hx ht hr; omega))]
  show wpAny _ _ (specialOf (.ref t) "__getitem__" >>= _) _ _ s
  refine wpAny_bind (wpAny_specialOf ht.typeIs slot_tuple_getitem.lookup ?_)
  show wpAny _ _ (mkInt (i:Int) >>= _) _ _ s; refine wpAny_bind (wpAny_mkInt ?_)
  have hj:seqIndex? (i:Int) its.size=some i:=by
    have:ixN its.size (i:Int)=some i:=by
      unfold ixN
      rw [if_pos (by (clear hi hT q hz hx ht hr; omega)),if_pos (by (clear hT q hz hx ht hr; omega))]; simp
    exact (ixN_seq this).1
  refine wpAny_bind (wpAny_attempt (PyProof.Rows.getItem_tuple (j:=i) ht (by (clear hj hi hT q hz hx ht hr; omega)) (by (clear hj hT q hx ht hr; omega)) hj hx ?_))
  show wpAny _ _ (field (.ref a) 1 >>= _) _ _ _
  refine wpAny_bind (wpAny_field hr rfl (x:=rawInt (i:Int)) rfl ?_)
  show wpAny _ _ (setField (.ref a) 1 (rawInt ((i:Int) - 1)) >>= _) _ _ _
  refine wpAny_bind (wpAny_setField_rec hr (by simp) fun h' e' b'=>?_)
  exact wpAny_pure ⟨x,rfl,wpAny_pure (q h' _ (by simpa using e') b')⟩
theorem stop_rv {a t:Addr} {Q:Option Value→Shared→Prop} (hh:A.handled=none) (hr:IsRv s.heap a t (-1))
    (q:∀ h',Heap.ExtBut a s.heap h'→Q none { s with heap:=h' }):wpAny (model prog w) A (pyNext (.ref a)) Q E s:=by
  have hT:s.TypeIs (.ref a) "reversed" := ⟨_,hr,rfl⟩
  unfold pyNext
  refine wpAny_bind (wpAny_attempt (wpAny_callSpecial?_slot (name:=Str.ofString "__next__") hT rv_slot_next (wpAny_call_entry rv_slot_next hT rv_entry_next ?_ (rv_args_next _))))
  unfold Builtin.«reversed.__next__»
  refine wpAny_bind (wpAny_of_eq (a:=(Value.ref a,[])) rfl ?_)
  show wpAny _ _ (field (.ref a) 0 >>= _) _ _ s; refine wpAny_bind (wpAny_field hr rfl (x:=.ref t) rfl ?_)
  show wpAny _ _ (field (.ref a) 1 >>= _) _ _ s; refine wpAny_bind (wpAny_field hr rfl (x:=rawInt (-1)) rfl ?_)
  show wpAny _ _ (if (-1:Int) < 0 then _ else _) _ _ s; rw [if_pos (by decide)]
  refine wpAny_bind (wpAny_rule ?_)
  show wpAny _ _ (_ >>= _) _ _ _
  refine wpAny_bind ?_
  show wpAny _ _ (setField (.ref a) 1 (rawInt (-1)) >>= _) _ _ _
  refine wpAny_bind (wpAny_setField_rec hr (by simp) fun h1 e1 b1=>?_)
  show wpAny _ _ (setField (.ref a) 0 .none) _ _ _
  refine wpAny_setField_rec e1 (by simp) fun h2 e2 b2=>?_
  have b1':Heap.SameBut a s.heap h1:=b1
  have b2':Heap.SameBut a h1 h2:=b2
  have x2:Heap.ExtBut a s.heap h2:=fun b o n e=>b2'.extBut b o n (b1'.extBut b o n e)
  refine wpAny_bind ?_; (show wpAny _ _ (newExc (.type "StopIteration") [] >>= _) _ _ _); refine wpAny_bind ?_; simp only [newExc,newTuple]; refine wpAny_bind (wpAny_newObj_type ?_ (by size_fits))
  refine wpAny_bind (m:=firstArgMember _ _) (wpAny_of_eq (a:=Value.none) (by first | rfl | (simp only [firstArgMember]; rfl)) ?_); refine wpAny_newObj_type ?_ (by size_fits)
  simp only [raiseNew]; refine wpAny_bind (wpAny_handled ?_); first | rw [show A.in1.handled=none from hh] | rw [hh]
  refine wpAny_bind (wpAny_pure (wpAny_throw ?_)); refine wpAny_bind (wpAny_isInstance (T := "StopIteration") (b:=true) ⟨_,Heap.get?_push_size _ rfl,rfl⟩ isSubtype_stop (wpAny_pure (q _ ((x2.push _).push _))))
end
noncomputable def Itv (K:PySem.W.Frag) (a:Addr) (n:Nat):It:=
  ⟨fun i H=>∃ xs,SqT K H a xs∧xs.length=n∧i < n,fun i H x H'=>H'=H∧∀ xs,SqT K H a xs→xs[n - 1 - i]?=some x,fun i H=>∃ xs,SqT K H a xs∧xs.length=n∧n ≤ i⟩
theorem turn_rv {P:Program} {w:World} {K:PySem.W.Frag} {tg:Expr} (a it:Addr) (n:Nat):Turn P w K tg (Itv K a n) [it] it (fun i h=>i ≤ n∧IsRv h it a ((n:Int) - 1 - (i:Nat))) where
  mem:=by simp
  obj:=fun i h st b hb=>by
    have z:b=it:=by simpa using hb
    subst z
    exact ⟨_,st.2,fun v z=>by cases z⟩
  keep:=fun i h h' st k=>⟨st.1,k it (by simp) _ st.2⟩
  item:=by
    intro X hP hw hK hc i pins s σ H E I hf st hg
    subst hP hw hK
    obtain ⟨xs,hq,hl,hi⟩:=hg
    obtain ⟨its,rv,p,hz⟩:=I.tuple hq
    have hn:=line63
    have hlen:=rv.length
    have hx:xs[n - 1 - i]?=some (xs[n - 1 - i]'(by (clear hlen hn hz p rv hq st hf I hc; omega))):=List.getElem?_eq_getElem _
    obtain ⟨u,hu,ru⟩:=rv.get hx
    obtain ⟨f0,f1,f2,f3,f4,f5⟩:=hf it (by simp)
    have e:(n:Int) - 1 - (i:Nat)=((n - 1 - i:Nat):Int):=by (clear f5 f4 f3 f2 f1 f0 ru hu hx hlen hn hz p rv hl hq st hf I hc; omega)
    have st2:=st.2
    rw [e] at st2
    refine next_rv (i:=n - 1 - i) st2 p (x:=u) (by simpa using hu) (by simp only [List.size_toArray]; (clear st2 e f5 f4 f3 f2 f1 f0 ru hu hx p rv hi hl hq st hf I hc; omega)) fun h' tk st' sb=>?_
    have I1:Inv X pins σ H { s with heap:=h',toks:=tk }:=I.turned (fun b o hb e=>(sb.2 b hb).trans e) f0 f1 f3 f4 f5
    have e2:((n - 1 - i:Nat):Int) - 1=(n:Int) - 1 - ((i + 1:Nat):Nat):=by (clear I1 sb st' st2 e f5 f4 f3 f2 f1 f0 ru hu hx hlen hn hz p rv hl hq st hf I hc; omega)
    refine ⟨u,rfl,go_of (s:={ s with heap:=h',toks:=tk }) (n := "reversed") st' rfl rfl (by decide) ⟨_,H,I1,ru,⟨rfl,fun ys hy=>by rw [I.tuple_inj hy hq]; exact hx⟩,⟨hi,by rw [← e2]; exact st'⟩,fun b hb=>(hf b hb).1⟩⟩
  done:=by
    intro X hP hw hK hc i pins s σ H E I hf st hg
    subst hP hw hK
    obtain ⟨xs,hq,hl,hi⟩:=hg
    obtain ⟨f0,f1,f2,f3,f4,f5⟩:=hf it (by simp)
    have e:(n:Int) - 1 - (i:Nat)=-1:=by have:=st.1; (clear this f5 f4 f3 f2 f1 f0 hl hq hf I hc; omega)
    have st2:=st.2
    rw [e] at st2
    exact stop_rv (I.ok.hd hc) st2 fun h' eb=>⟨rfl,I.turned (t':=s.toks) (fun b o hb e=>eb b o hb e) f0 f1 f3 f4 f5⟩
  self:=fun _ _ _ _ _ st h=>iter_rv st.2 h
theorem ItOk.rv {K:PySem.W.Frag} {Fb:Hp} {a:Addr} {vs:List V} {ds:List D} (h:SqT K Fb a vs) (r:RepL K Fb ds vs):ItOk K (Itv K a vs.length) Fb ds.reverse where
  go:=fun i F H hi e1 e2=>⟨vs,SqT.same (e1.trans e2) h,rfl,by rw [← r.length]; simpa using hi⟩
  yld:=fun i F H x H' e1 e2 y d hd=>by
    obtain ⟨rfl,y⟩:=y
    have hl:=r.length
    have hi:i < ds.length:=by
      have:=(List.getElem?_eq_some_iff.mp hd).1
      simpa using this
    rw [List.getElem?_reverse hi,hl] at hd
    obtain ⟨v,q1,q2⟩:=r.get hd
    have:=y vs (SqT.same (e1.trans e2) h)
    rw [q1] at this; cases this
    exact ⟨F,Ext.refl e2,q2.mono e1⟩
  stop:=fun i F H hi e1 e2=>⟨vs,SqT.same (e1.trans e2) h,rfl,by rw [← r.length]; simpa using hi⟩
section
variable {X:Cx} {F0 H0:Hp} {xq:Addr→Hp→Prop} {pos:Pos} {e tg:Expr}
noncomputable def iRv (K:PySem.W.Frag) (tl:TE):TI:=fun σ H R=>tl σ H fun x H1=>∃ a xs,x=.ref a∧SqT K H1 a xs∧R (Itv K a xs.length) H1
theorem pi_rv {tl:TE} {p:Pos} (hg:Gl X "reversed") (hm:X.mg "reversed" = none) (hl:PE X e tl) (hs:unst e=true):PI X tg (.Call (.Name "reversed" p) [e] [] pos) (iRv X.K tl):=by
  intro pins s σ H R I h
  refine Call_ (ld_blt I hg hm boot_reversed (PyProof.Rows.callWith_type1 (thn (pa_cons hl pa_nil (star_cons hs) pos pins s σ H (fun vs H1=>match vs with
    | [x]=>∃ a xs,x=.ref a∧SqT X.K H1 a xs∧R (Itv X.K a xs.length) H1
    | _=>False) I h) fun us s1 ⟨vs,H1,I1,r1,q1⟩=>?_) (star_cons hs) rfl))
  match vs,r1,q1 with
  | [_],.cons r .nil,q1=>
    obtain ⟨a,xs,rfl,hq,q⟩:=q1
    cases r
    obtain ⟨its,rv,p,hz⟩:=I1.tuple hq
    have hn:=line63
    have hlen:=rv.length
    refine call_rv p (by simp only [List.size_toArray]; (clear rv q hq q1 r1 I1 h I hs hl hm hg; omega)) (iter_rv (i:=(its.toArray.size:Int) - 1) (Heap.get?_push_size _ rfl) ?_)
    refine ⟨s1.heap.objs.size,[s1.heap.objs.size],_,_,H1,rfl,I1.kept (t':=s1.toks + 1 + 1) fun b o e=>Heap.get?_push_of_some _ e,turn_rv a _ xs.length,⟨Nat.zero_le _,?_⟩,fun b hb=>?_,q⟩
    · have e2:(xs.length:Int) - 1 - ((0:Nat):Nat)=(its.toArray.size:Int) - 1:=by simp; (clear hn hz rv q hq q1 r1 I1 h I hs hl hm hg; omega)
      rw [e2]
      exact Heap.get?_push_size _ rfl
    · have z:b=s1.heap.objs.size:=by simpa using hb
      subst z
      exact I1.fpOk (Nat.le_refl _) (I1.hok.fresh (Nat.le_refl _))
noncomputable def revOf:VR→Option (List D)
  | .ok (.tup l)=>some l.reverse
  | _=>none
noncomputable def dRevI (f:DS→M VR):DS→M (List D):=fun S=>mb (f S) fun r=>match revOf r with
  | some l=>some (.ok l)
  | none=>none
theorem di_rev {p:Pos} {f:DS→M VR} (hg:Gl X "reversed") (hm:X.mg "reversed" = none) (h:DE X F0 H0 xq e f) (hs:unst e=true:=by rfl):DI X F0 H0 xq tg (.Call (.Name "reversed" p) [e] [] pos) (dRevI f):=.mk fun pins s σ H R I q=>by
  refine pi_rv hg hm h.h hs pins s σ H R I ?_
  obtain ⟨F,S,sk,o⟩:=q
  refine ⟨F,S,sk,outE.bind (G:=fun F H z=>outI X.K xq F H R z) (fun {F H F' H' z} e h=>outI.step e h) (fun _ _ h=>h) (fun _ _ _ h=>h) o fun r v F1 H1 e1 q1 o1=>?_⟩
  cases r with
  | bor l=>exact False.elim o1
  | bod ks l=>exact False.elim o1
  | ok d=>
    cases d with
    | tup l=>
      obtain ⟨a,vs,rfl,ht,rl⟩:=q1
      exact ⟨a,vs,rfl,SqT.same e1.fh ht,o1 _ F1 H1 (Ext.refl e1.fh) (ItOk.rv ht rl)⟩
    | _=>exact False.elim o1
end
end PF
set_option Elab.async false
set_option linter.all false
set_option maxRecDepth 100000
set_option maxHeartbeats 4000000
namespace PF
open PySem PySem.Spec L2
open PyProof.Rows hiding St
theorem pass0' {X:Cx} {xq:Addr→Hp→Prop}:Passes CX0 X (Ex xq):=fun _ _ _ _ _ _ _ h=>h.elim
theorem free_by {names:List (Str × NameKind)} {f:Str→Option NameKind} (h:(names.all fun y=>match y.2 with | .free=>(match f y.1 with | some .cell=>true | some .free=>true | _=>false) | _=>true)=true):∀ y ∈ names,y.2=.free→f y.1=some .cell∨f y.1=some .free:=by
  intro y hy e
  have q:=List.all_eq_true.mp h y hy
  rw [e] at q
  simp only at q
  split at q
  · rename_i z; exact .inl z
  · rename_i z; exact .inr z
  · cases q
noncomputable def okM:M D→M D
  | some (.ok d)=>some (.ok d)
  | _=>none
theorem okM_hg {m:List D→M D} {x:List D→M D} (h:m=fun ds=>okM (x ds)) {n:Nat}:∀ ds r,ds.length=n→m ds=some r→∃ d,r=.ok d∧x ds=some (.ok d):=by
  subst h
  intro ds r _ e
  simp only at e
  cases q:x ds with
  | none=>rw [q] at e; cases e
  | some y=>
    rw [q] at e
    cases y with
    | error c=>cases e
    | ok d=>injection e with e; subst e; exact ⟨d,rfl,rfl⟩
theorem ds_never {X:Cx} {F0 H0:Hp} {xq:Addr→Hp→Prop} {st:Stmt}:DS1 X F0 H0 xq st (fun _=>none):=.mk fun pins s σ H Dn I ⟨F,S,_,o⟩=>False.elim o
theorem walkM {l:PySem.W.OpenLaw} {k:Nat} {q:Program} {loose:List Str} {XP:(Str→Option Value)→Heap→Prop} {YP:World→Heap→Prop} {d:DefRec} {K:Params→PySem.W.Frag} {m:List D→M D} {x:Str} (hr:Room k callerA) (hn:l.most=some 63) (hdf:d.params.defaults=[])
    (hm:∀ ns:List Int,ns.length ≤ 63→m [.scr ns]=some (.ok (.bl true)))
    (hY:∀ (w:World) (h:Heap),YP w h→(K w.params).In h)
    (F:∀ (w:World) (mg:Str→Option Value) (fa:Addr) (h:Heap),(K w.params).In h→h.Ns mainGlobals mg→mg d.name=some (.ref fa)→
      ∃ fd:FuncData,(∀ (s:Shared) (u:Value),BindsTo s fd ⟨[u],[]⟩ [(x,u)])∧∀ base:Heap,(K w.params).In base→base.Ns mainGlobals mg→FnOk l.prog w (K w.params) mg base CX0 k fa fd [x] (spM (K w.params) 1 m)) :
    PySem.W.WalkO q loose XP YP l.row.toRowW d [] (fun f vs=>PySem.call f vs):=
  L2.walk_of (n:=63) (k:=k) (x:=x) (CX:=fun _=>CX0) (sp:=fun w=>spM (K w.params) 1 m) hn (by decide) hdf hr hY F
    (fun w H a ns hl _ hS=>⟨H,[.scr ns],Same.refl _,RepL.one ⟨a,rfl,hS⟩,rfl,by rw [hm ns hl]; exact fun v F' H' _ r=>r⟩) fun _ _ _ _ _ z=>z
end PF
namespace PF
open PySem PySem.Spec L2
end PF
namespace PF
open PySem
noncomputable def startN (n:Nat) (ds:List D):DS:=ds.map (fun d=>some (Slot.val d)) ++ List.replicate (n - ds.length) none
end PF
set_option Elab.async false
set_option linter.all false
set_option maxRecDepth 100000
set_option maxHeartbeats 4000000
namespace PF
open PySem PySem.Spec L2
open PyProof.Rows hiding St
section
variable {M:Model} {A:Around} {E:Value→Shared→Prop} {s:Shared}
noncomputable def IsExc (h:Heap) (e C T:Addr) (fl:Value):Prop:=∃ oe vs oT ts,h.get? e=some oe∧(oe.cls=.ref C∧oe.dict=none)∧oe.data=.fields vs∧vs[1]?=some (.ref T)∧h.get? T=some oT∧oT.data=.fields ts∧ts[3]?=some fl∧T ≠ e
theorem IsExc.at {h h':Heap} {e C T:Addr} {fl:Value} (x:IsExc h e C T fl) (k1:∀ o,h.get? e=some o→h'.get? e=some o) (k2:∀ o,h.get? T=some o→h'.get? T=some o):IsExc h' e C T fl:=by
  obtain ⟨oe,vs,oT,ts,a,b,c,d,f,g,i,j⟩:=x
  exact ⟨oe,vs,oT,ts,k1 _ a,b,c,d,k2 _ f,g,i,j⟩
end
end PF
set_option Elab.async false
set_option linter.all false
set_option maxRecDepth 100000
set_option maxHeartbeats 4000000
namespace PF
open PySem PySem.Spec L2
open PyProof.Rows hiding St
section
variable {P:Program} {w:World} {H H':Hp} {h h1 h2 h':Heap} {a e T:Addr} {fs:List Addr}
end
section
variable {P:Program} {w:World} {K:PySem.W.Frag} {mg:Str→Option Value} {base:Heap} {N:List Str} {qual:Str} {scope:Scope} {f:Addr} {cdv:Value} {A:Around} {outer:List Env} {s:Shared} {H:Hp} {E:XK}
end
end PF
set_option Elab.async false
set_option linter.all false
set_option maxRecDepth 100000
set_option maxHeartbeats 4000000
namespace PF
open PySem PySem.Spec PySem.W L2
open PyProof.Rows hiding St InstAt
section
variable {prog:Program} {w:World} {A:Around} {E:Value→Shared→Prop} {s:Shared} {K:PySem.W.Frag} {a C:Addr} {ox:Obj}
end
end PF
set_option Elab.async false
set_option linter.all false
set_option maxRecDepth 100000
set_option maxHeartbeats 4000000
namespace PF
open PySem PySem.Spec PySem.W L2
open PyProof.Rows hiding St InstAt
section
variable {X:Cx}
end
end PF
set_option Elab.async false
set_option linter.all false
set_option maxRecDepth 100000
set_option maxHeartbeats 4000000
namespace PF
open PySem PySem.Spec PySem.W L2
open PyProof.Rows hiding St InstAt
section
variable {X:Cx} {C0 C1 C2 C3:Addr}
end
end PF
set_option Elab.async false
set_option linter.all false
set_option maxRecDepth 100000
set_option maxHeartbeats 4000000
namespace PF
open PySem PySem.Spec PySem.W L2
open PyProof.Rows hiding St InstAt
section
variable {X:Cx} {F0 H0:Hp} {xq:Addr→Hp→Prop} {a b e:Expr} {fa fb:DS→M VR} {pos p2:Pos}
end
end PF
set_option Elab.async false
set_option linter.all false
set_option maxRecDepth 100000
set_option maxHeartbeats 4000000
namespace PF
open PySem PySem.Spec PySem.W L2
open PyProof.Rows hiding St InstAt
section
variable {X:Cx}
end
section
variable {X:Cx} {C0 C1 C2 C3:Addr}
end
end PF
set_option Elab.async false
set_option linter.all false
set_option maxRecDepth 100000
namespace L2
open PySem PySem.Spec PyProof.Rows
section
variable {κ:Type} [DecidableEq κ]
noncomputable def valV (kvs:List (κ × V)) (k:κ):Option V:=(kvs.find? fun kv=>decide (kv.1=k)).map (·.2)
noncomputable def putK (kvs:List (κ × V)) (k:κ) (v:V):List (κ × V):=
  if (kvs.any fun kv=>decide (kv.1=k))=true then kvs.map (fun kv=>if kv.1=k then (kv.1,v) else kv) else kvs ++ [(k,v)]
theorem valV_pos {p:κ × V} {r:List (κ × V)} {k:κ} (e:p.1=k):valV (p :: r) k=some p.2:=by simp [valV,List.find?_cons,e]
theorem valV_neg {p:κ × V} {r:List (κ × V)} {k:κ} (e:¬ p.1=k):valV (p :: r) k=valV r k:=by simp [valV,List.find?_cons,e]
theorem valV_any (k:κ):∀ kvs:List (κ × V),(kvs.any fun kv=>decide (kv.1=k))=(valV kvs k).isSome
  | []=>rfl
  | p :: r=>by
    rw [List.any_cons]
    by_cases e:p.1=k
    · simp only [valV_pos e,decide_eq_true e,Bool.true_or,Option.isSome_some]
    · rw [valV_neg e,decide_eq_false e,Bool.false_or]; exact valV_any k r
theorem length_putK (kvs:List (κ × V)) (k:κ) (v:V):(putK kvs k v).length ≤ kvs.length + 1:=by
  unfold putK
  split
  · rw [List.length_map]; omega
  · rw [List.length_append,List.length_cons,List.length_nil]; omega
theorem RelO.isSome_eq {o:Option V} {u:Option Value} (r:RelO o u):o.isSome=u.isSome:=by
  cases o with
  | none=>cases u with
    | none=>rfl
    | some _=>exact (show False from r).elim
  | some _=>cases u with
    | none=>exact (show False from r).elim
    | some _=>rfl
theorem KV.val {kvs:List (κ × V)} {vs:List (κ × Value)} (r:KV kvs vs) (k:κ):RelO (valV kvs k) (valueAt vs k):=by
  unfold KV at r
  induction r with
  | nil=>exact True.intro
  | @cons p q ps qs h t ih=>
    obtain ⟨h1,h2⟩:=h
    by_cases e:p.1=k
    · have e':q.1=k:=h1.symm.trans e
      have b:valueAt (q :: qs) k=some q.2:=by simp [valueAt,List.find?_cons,e']
      rw [valV_pos e,b]; exact h2
    · have e':¬ q.1=k:=fun z=>e (h1.trans z)
      have b:valueAt (q :: qs) k=valueAt qs k:=by simp [valueAt,List.find?_cons,e']
      rw [valV_neg e,b]; exact ih
theorem KV.any {kvs:List (κ × V)} {vs:List (κ × Value)} (r:KV kvs vs) (k:κ):(kvs.any fun kv=>decide (kv.1=k))=vs.any fun kv=>decide (kv.1=k):=by
  unfold KV at r
  induction r with
  | nil=>rfl
  | cons h t ih=>rw [List.any_cons,List.any_cons,ih,h.1]
theorem KV.repl {kvs:List (κ × V)} {vs:List (κ × Value)} (r:KV kvs vs) (k:κ) {y:V} {u:Value} (ry:RelV y u) :
    KV (kvs.map fun kv=>if kv.1=k then (kv.1,y) else kv) (vs.map fun kv=>if kv.1=k then (kv.1,u) else kv):=by
  unfold KV at r ⊢
  induction r with
  | nil=>exact .nil
  | @cons p q ps qs h t ih=>
    rw [List.map_cons,List.map_cons]
    refine .cons ?_ ih
    obtain ⟨h1,h2⟩:=h
    by_cases e:p.1=k
    · rw [if_pos e,if_pos (h1.symm.trans e)]; exact ⟨h1,ry⟩
    · rw [if_neg e,if_neg (fun z=>e (h1.trans z))]; exact ⟨h1,h2⟩
theorem KV.put {kvs:List (κ × V)} {vs:List (κ × Value)} (r:KV kvs vs) (k:κ) {y:V} {u:Value} (ry:RelV y u):KV (putK kvs k y) (stored vs k u):=by
  unfold putK stored
  rw [r.any k]
  by_cases e:(vs.any fun kv=>decide (kv.1=k))=true
  · rw [if_pos e,if_pos e]; exact r.repl k ry
  · rw [if_neg e,if_neg e]; exact Paired.snoc r ⟨rfl,ry⟩
theorem KV.length {kvs:List (κ × V)} {vs:List (κ × Value)} (r:KV kvs vs):kvs.length=vs.length:=Paired.length r
end
theorem kV_is {P:Program} {w:World} {k:Key} {u:Value} (r:RelV (kV k) u):(mixKind P w).is k u=true:=by
  cases k with
  | inl i=>obtain ⟨t,e⟩:=(show ∃ t,u=Value.int i t from r); subst e; exact mixKind_int P w i t
  | inr x=>obtain ⟨t,e⟩:=(show ∃ t,u=Value.str x t from r); subst e; exact mixKind_str P w x t
theorem items_are {P:Program} {w:World}:∀ {ks:List Key} {us:List Value},Vals (ks.map kV) us→ItemsAre (mixKind P w) ks us
  | [],_,r=>by rw [List.map_nil] at r; cases r; exact .nil
  | k :: ks,_,r=>by
    rw [List.map_cons] at r
    cases r with
    | cons h t=>exact .cons (kV_is h) (items_are t)
noncomputable abbrev KT (H:Hp):List (List Key × V)→List (List Key × Addr × Value)→Prop:=Paired fun p q=>p.1=q.1∧H q.2.1=some (.tup (p.1.map kV))∧RelV p.2 q.2.2
theorem KT.val {H:Hp} {kvs:List (List Key × V)} {xs:List (List Key × Addr × Value)} (r:KT H kvs xs) (k:List Key):RelO (valV kvs k) ((atKey xs k).map (·.2)):=by
  induction r with
  | nil=>exact True.intro
  | @cons p q ps qs h t ih=>
    obtain ⟨h1,_,h2⟩:=h
    by_cases e:p.1=k
    · have e':q.1=k:=h1.symm.trans e
      have b:atKey (q :: qs) k=some q.2:=by simp [atKey,List.find?_cons,e']
      rw [valV_pos e,b]; exact h2
    · have e':¬ q.1=k:=fun z=>e (h1.trans z)
      have b:atKey (q :: qs) k=atKey qs k:=by simp [atKey,List.find?_cons,e']
      rw [valV_neg e,b]; exact ih
theorem KT.repl {H:Hp} {kvs:List (List Key × V)} {xs:List (List Key × Addr × Value)} (r:KT H kvs xs) (k:List Key) {y:V} {u:Value} (ry:RelV y u) :
    KT H (kvs.map fun kv=>if kv.1=k then (kv.1,y) else kv) (xs.map (putAt k u)):=by
  induction r with
  | nil=>exact .nil
  | @cons p q ps qs h t ih=>
    rw [List.map_cons,List.map_cons]
    refine .cons ?_ ih
    obtain ⟨h1,h2,h3⟩:=h
    unfold putAt
    by_cases e:p.1=k
    · rw [if_pos e,if_pos (h1.symm.trans e)]; exact ⟨h1,h2,ry⟩
    · rw [if_neg e,if_neg (fun z=>e (h1.trans z))]; exact ⟨h1,h2,h3⟩
theorem KT.put {H:Hp} {kvs:List (List Key × V)} {xs:List (List Key × Addr × Value)} (r:KT H kvs xs) (k:List Key) {b:Addr} {y:V} {u:Value} (hb:H b=some (.tup (k.map kV))) (ry:RelV y u) :
    KT H (putK kvs k y) (storedH xs k b u):=by
  have e:(kvs.any fun kv=>decide (kv.1=k))=(atKey xs k).isSome:=by
    rw [valV_any,(r.val k).isSome_eq,Option.isSome_map]
  unfold putK storedH
  rw [e]
  by_cases q:(atKey xs k).isSome=true
  · rw [if_pos q,if_pos q]; exact r.repl k ry
  · rw [if_neg q,if_neg q]; exact Paired.snoc r ⟨rfl,hb,ry⟩
theorem KT.keeps {H H':Hp} {kvs:List (List Key × V)} {xs:List (List Key × Addr × Value)} (r:KT H kvs xs) (ht:∀ b ys,H b=some (.tup ys)→H' b=some (.tup ys)):KT H' kvs xs:=
  Paired.mapP r fun _ _ z=>⟨z.1,ht _ _ z.2.1,z.2.2⟩
section
variable {P:Program} {w:World} {H:Hp} {h:Heap} {a:Addr}
theorem rd_of {u:HO} (ok:HOk P w H h) (e:Rd H a u):ObjOk P w H h a u:=e.ok ok
theorem dk_rd {kvs:List (Key × V)} (ok:HOk P w H h) (e:Rd H a (.dK kvs)):kvs.length ≤ sizeLine∧(a == sysModules)=false∧∃ vs,KV kvs vs∧h.DictOf (mixKind P w) a vs:=
  show ObjOk P w H h a (.dK kvs) from rd_of ok e
theorem dk_of {kvs:List (Key × V)} (ok:HOk P w H h) (e:H a=some (.dK kvs)):kvs.length ≤ sizeLine∧(a == sysModules)=false∧∃ vs,KV kvs vs∧h.DictOf (mixKind P w) a vs:=dk_rd ok (.inl e)
theorem key_of {ks:List Key} (ok:HOk P w H h) (e:H a=some (.tup (ks.map kV))):(tupleKind (mixKind P w)).is h ks a:=by
  obtain ⟨_,its,r,o,h1,h2,n,h3⟩:=(show ObjOk P w H h a (.tup (ks.map kV)) from ok a _ e)
  exact ⟨o,its.toArray,n,h1,h2,h3,by simpa using items_are r⟩
theorem dt_rd {kvs:List (List Key × V)} (ok:HOk P w H h) (e:Rd H a (.dT kvs)):kvs.length ≤ sizeLine∧(a == sysModules)=false∧
    ∃ xs,KT H kvs xs∧h.DictOfH (tupleKind (mixKind P w)) a xs:=by
  obtain ⟨z,y,xs,r,o,es,ep,h1,h2,h3,h4,h5⟩:=(show ObjOk P w H h a (.dT kvs) from rd_of ok e)
  refine ⟨z,y,xs,r,o,es,ep,h1,h2,h3,h4,fun x hx=>?_,h5⟩
  have all:∀ {l:List (List Key × V)} {m:List (List Key × Addr × Value)},KT H l m→∀ x ∈ m,(tupleKind (mixKind P w)).is h x.1 x.2.1:=by
    intro l m q
    induction q with
    | nil=>intro x hx; exact nomatch hx
    | @cons p q ps qs hq t ih=>
      intro x hx
      rcases List.mem_cons.mp hx with e | hx
      · subst e
        exact key_of ok (by rw [← hq.1]; exact hq.2.1)
      · exact ih x hx
  exact all r x hx
theorem dt_of {kvs:List (List Key × V)} (ok:HOk P w H h) (e:H a=some (.dT kvs)):kvs.length ≤ sizeLine∧(a == sysModules)=false∧
    ∃ xs,KT H kvs xs∧h.DictOfH (tupleKind (mixKind P w)) a xs:=dt_rd ok (.inl e)
end
noncomputable def DGet (H:Hp) (a:Addr) (y:V) (r:Option V):Prop:=
  (∃ kvs k,Rd H a (.dK kvs)∧y=kV k∧r=valV kvs k)∨∃ kvs k b,Rd H a (.dT kvs)∧y=.ref b∧H b=some (.tup (k.map kV))∧r=valV kvs k
noncomputable def DPut (H:Hp) (a:Addr) (y v:V) (H':Hp):Prop:=
  (∃ kvs k,H a=some (.dK kvs)∧y=kV k∧kvs.length < sizeLine∧H'=upd H a (.dK (putK kvs k v)))∨
  ∃ kvs k b,H a=some (.dT kvs)∧y=.ref b∧H b=some (.tup (k.map kV))∧kvs.length < sizeLine∧H'=upd H a (.dT (putK kvs k v))
theorem DGet.k {H:Hp} {a:Addr} {kvs:List (Key × V)} {k:Key} (e:H a=some (.dK kvs)):DGet H a (kV k) (valV kvs k):=.inl ⟨kvs,k,.inl e,rfl,rfl⟩
theorem DPut.k {H:Hp} {a:Addr} {kvs:List (Key × V)} {k:Key} {v:V} (e:H a=some (.dK kvs)) (hl:kvs.length < sizeLine):DPut H a (kV k) v (upd H a (.dK (putK kvs k v))):=.inl ⟨kvs,k,e,rfl,hl,rfl⟩
section
variable {X:Cx} {pins:List (Addr × Obj)} {σ:St} {H:Hp} {s:Shared} {a:Addr} {y v:V} {u r:Value} {o:Option V} {A:Around} {E:Value→Shared→Prop}
theorem Inv.big (I:Inv X pins σ H s):sysModules < s.heap.objs.size:=by
  have h:mainGlobals < s.heap.objs.size:=(I.mod.glob.keeps I.bk).lt
  exact Nat.lt_trans (by decide) h
theorem d_getItem {Q:Value→Shared→Prop} (hu:A.units + 1 < cLine) (I:Inv X pins σ H s) (g:DGet H a y (some v)) (ry:RelV y u) (h:∀ w' s',Inv X pins σ H s'→RelV v w'→Q w' s') :
    wpAny (model X.prog X.w) A (getItem (.ref a) u) Q E s:=by
  rcases g with ⟨kvs,k,e,ey,l⟩ | ⟨kvs,k,b,e,ey,eb,l⟩
  · subst ey
    obtain ⟨z,hd,vs,rel,dd⟩:=dk_rd I.hok e
    obtain ⟨w',hw,rw'⟩:=RelO.some_of (v:=v) (o:=valueAt vs k) (by rw [l]; exact rel.val k)
    exact wpAny_getItem_of (kV_is ry) dd.mapOf hw (h w' _ (I.tok _) rw')
  · subst ey
    cases (show u=Value.ref b from ry)
    obtain ⟨z,hd,xs,rel,dd⟩:=dt_rd I.hok e
    obtain ⟨w',hw,rw'⟩:=RelO.some_of (v:=v) (o:=(atKey xs k).map (·.2)) (by rw [l]; exact rel.val k)
    obtain ⟨p,hp,hp2⟩:=Option.map_eq_some_iff.mp hw
    refine wpAny_getItem_heap (tupleKind_room_in1 hu) (key_of I.hok eb) dd hp ?_
    rw [hp2]
    exact h w' _ (I.tok _) rw'
theorem d_in {Q:Value→Shared→Prop} (hu:A.units + 1 < cLine) (I:Inv X pins σ H s) (g:DGet H a y o) (ry:RelV y u) (h:∀ s',Inv X pins σ H s'→Q (.bool o.isSome) s') :
    wpAny (model X.prog X.w) A (compareOp .In u (.ref a)) Q E s:=by
  rcases g with ⟨kvs,k,e,ey,l⟩ | ⟨kvs,k,b,e,ey,eb,l⟩
  · subst ey
    obtain ⟨z,hd,vs,rel,dd⟩:=dk_rd I.hok e
    refine wpAny_in_of (kV_is ry) hd dd.mapOf ?_
    rw [← (rel.val k).isSome_eq,← l]
    exact h _ (I.tok _)
  · subst ey
    cases (show u=Value.ref b from ry)
    obtain ⟨z,hd,xs,rel,dd⟩:=dt_rd I.hok e
    refine wpAny_in_heap (tupleKind_room_in1 hu) (key_of I.hok eb) hd dd ?_
    have q:=(rel.val k).isSome_eq
    rw [Option.isSome_map] at q
    rw [← q,← l]
    exact h _ (I.tok _)
theorem d_write {h':Heap} {t':Nat} {ob:HO} (I:Inv X pins σ H s) (mu:Mut (H a)) (hs:Heap.SameBut a s.heap h') (he:∃ q,h'.get? a=some q) (new:ObjOk X.prog X.w (upd H a ob) h' a ob) :
    Inv X pins σ (upd H a ob) { s with heap:=h',toks:=t' }:=
  I.write (x:=a) (e:=a) mu (.inl rfl) (fun b q hb z=>(hs.2 b hb).trans z) he new
theorem dk_new {P:Program} {w:World} {H':Hp} {h':Heap} {kvs:List (Key × V)} {vs:List (Key × Value)} (z:kvs.length ≤ sizeLine) (hd:(a == sysModules)=false) (rel:KV kvs vs) (dd:h'.DictOf (mixKind P w) a vs) :
    ObjOk P w H' h' a (.dK kvs):=⟨z,hd,vs,rel,dd⟩
theorem d_setItem {H':Hp} {Q:Unit→Shared→Prop} (hu:A.units + 1 < cLine) (I:Inv X pins σ H s) (g:DPut H a y v H') (ry:RelV y u) (rv:RelV v r) (h:∀ s',Inv X pins σ H' s'→Q () s') :
    wpAny (model X.prog X.w) A (setItem (.ref a) u r) Q E s:=by
  rcases g with ⟨kvs,k,e,ey,l,eH⟩ | ⟨kvs,k,b,e,ey,eb,l,eH⟩
  · subst ey eH
    obtain ⟨z,hd,vs,rel,dd⟩:=dk_of I.hok e
    have hz:vs.length ≤ sizeLine:=by rw [← rel.length]; exact z
    have hl:(putK kvs k v).length ≤ sizeLine:=by have:=length_putK kvs k v; omega
    refine wpAny_setItem_pairs (hsz:=hz) (kV_is ry) dd fun h' dd' hs=>h _ ?_
    have he:∃ q,h'.get? a=some q:=let ⟨q,_,_,hq,_⟩:=dd'; ⟨q,hq⟩
    exact d_write I (by rw [e]; exact True.intro) hs he (dk_new hl hd (rel.put k rv) dd')
  · subst ey eH
    cases (show u=Value.ref b from ry)
    obtain ⟨z,hd,xs,rel,dd⟩:=dt_of I.hok e
    have hz:xs.length ≤ sizeLine:=by rw [← Paired.length rel]; exact z
    have hl:(putK kvs k v).length ≤ sizeLine:=by have:=length_putK kvs k v; omega
    refine wpAny_setItem_heap (hsz:=hz) (tupleKind_room_in1 hu) (key_of I.hok eb) dd fun h' dd' hs=>h _ ?_
    obtain ⟨q,es,ep,hq,h2,h3,h4,_,h5⟩:=dd'
    refine d_write I (by rw [e]; exact True.intro) hs ⟨q,hq⟩ ⟨hl,hd,_,(rel.put k eb rv).keeps fun c ys ec=>?_,q,es,ep,hq,h2,h3,h4,h5⟩
    rw [upd_ne (ne_of ec e (fun z=>nomatch z))]
    exact ec
end
section
variable {X:Cx} {pins:List (Addr × Obj)} {σ:St} {H:Hp} {s:Shared} {a:Addr} {kvs:List (Key × V)} {k:Key} {u:Value} {A:Around} {E:Value→Shared→Prop}
end
noncomputable def NoSl (i:Expr):Prop:=∀ ov iv,subscripted i false ov iv=operate [ov,iv] (getItem ov iv)
theorem subD_of {prog:Program} {w:World} {A:Around} {E:Value→Shared→Prop} {s:Shared} {env:Env} {value slice:Expr} {pos:Pos} {T id:String} {Q:Value→Shared→Prop}
    (hl:typeLookup (.type T) "__getitem__" = pure (some (.builtin id))) (hs:NoSl slice)
    (h:wpAny (model prog w) A (eval value env) (fun o s₁=>wpAny (model prog w) A (eval slice env) (fun i s₂=>s₂.TypeIs o T∧wpAny (model prog w) A (getItem o i) Q E s₂) E s₁) E s) :
    wpAny (model prog w) A (eval (.Subscript value slice pos) env) Q E s:=by
  refine Subscript_ (wpAny_mono h (fun o s₁ h₁=>wpAny_mono h₁ (fun i s₂ h₂=>?_) fun _ _ x=>x) fun _ _ x=>x)
  obtain ⟨hT,h₂⟩:=h₂
  unfold subscriptTail
  refine wpAny_bind ?_
  rw [getitemInPython_of_ne hT.not_modules]
  refine wpAny_bind (wpAny_specialOf hT hl ?_)
  have fin:wpAny (model prog w) A (subscripted slice false o i) (fun r s₃=>wpAny (model prog w) A (letTemporaryGo value o r >>= fun _=>pure r) Q E s₃) E s₂:=by
    rw [hs o i]
    exact wpAny_operating (wpAny_mono h₂ (fun r s₃ h₃=>wpAny_bind (wpAny_letTemporaryGo (wpAny_pure h₃))) fun _ _ x=>x)
  first
    | exact wpAny_pure (wpAny_bind fin)
    | exact wpAny_bind (wpAny_pure (wpAny_bind fin))
    | exact wpAny_bind fin
theorem dict_typeIs {X:Cx} {pins:List (Addr × Obj)} {σ:St} {H:Hp} {s:Shared} {a:Addr} {y:V} {o:Option V} (I:Inv X pins σ H s) (g:DGet H a y o):s.TypeIs (.ref a) "dict" := by
  rcases g with ⟨kvs,k,e,_,_⟩ | ⟨kvs,k,b,e,_,_,_⟩
  · obtain ⟨_,_,vs,_,dd⟩:=dk_rd I.hok e
    exact dd.typeIs
  · obtain ⟨_,_,xs,_,dd⟩:=dt_rd I.hok e
    exact dd.typeIs
noncomputable def tDGet (td ty:TE):TE:=fun σ H Q=>td σ H fun x H1=>ty σ H1 fun y H2=>∃ a v,x=.ref a∧DGet H2 a y (some v)∧Q v H2
noncomputable def tDIn (ty td:TE):TE:=fun σ H Q=>ty σ H fun y H1=>td σ H1 fun x H2=>∃ a o,x=.ref a∧DGet H2 a y o∧Q (.bl o.isSome) H2
noncomputable def sDPut (td ty tv:TE):TS:=fun D σ H=>tv σ H fun v H1=>td σ H1 fun x H2=>ty σ H2 fun y H3=>∃ a H4,x=.ref a∧DPut H3 a y v H4∧D.nx σ H4
section
variable {X:Cx} {o i e value:Expr} {pos pos' tpos:Pos} {td ty tv:TE}
theorem pe_dget (hu:X.A.units + 1 < cLine) (ho:PE X o td) (hi:PE X i ty) (hs:NoSl i):PE X (.Subscript o i pos) (tDGet td ty):=by
  intro pins s σ H Q I h
  refine subD_of PySem.F.slot_dict_getitem.lookup hs (thn (ho pins s σ H _ I h) fun u s1 ⟨x,H1,I1,rx,q1⟩=>thn (hi pins s1 σ H1 _ I1 q1) fun iv s2 ⟨y,H2,I2,ry,a,v,ex,g,q2⟩=>?_)
  subst ex
  obtain rfl:u=Value.ref a:=rx
  exact ⟨dict_typeIs I2 g,d_getItem hu I2 g ry fun w' s3 I3 rw'=>⟨v,H2,I3,rw',q2⟩⟩
theorem pc_din (hu:X.A.units + 1 < cLine) (hi:PE X i ty) (ho:PE X o td):PC X .In i o (tDIn ty td):=by
  intro pins s σ H Q I h
  refine thn (hi pins s σ H _ I h) fun iv s1 ⟨y,H1,I1,ry,q1⟩=>thn (ho pins s1 σ H1 _ I1 q1) fun u s2 ⟨x,H2,I2,rx,a,ov,ex,g,q2⟩=>?_
  subst ex
  obtain rfl:u=Value.ref a:=rx
  exact d_in hu I2 g ry fun s3 I3=>⟨.bl ov.isSome,H2,I3,rfl,q2⟩
theorem ps_dput (hu:X.A.units + 1 < cLine) (ho:PE X o td) (hi:PE X i ty) (hv:PE X value tv) (hs:swapsWith value (some (.Subscript o i pos')) pos.line X.env=pure false) :
    PS X (.Assign [.Subscript o i pos'] value pos) (sDPut td ty tv):=by
  intro pins s σ H D I h
  refine wpAny_Assign_Subscript (thn (hv pins s σ H _ I h) fun r s1 ⟨v,H1,I1,rv,q1⟩=>thn (ho pins s1 σ H1 _ I1 q1) fun u s2 ⟨x,H2,I2,rx,q2⟩=>thn (hi pins s2 σ H2 _ I2 q2) fun iv s3 ⟨y,H3,I3,ry,a,H4,ex,g,q3⟩=>?_) hs
  subst ex
  obtain rfl:u=Value.ref a:=rx
  exact d_setItem hu I3 g ry rv fun s4 I4=>⟨σ,H4,I4,q3⟩
end
theorem dk_empty {P:Program} {w:World} {H:Hp} (h:Heap) (hb:sysModules < h.objs.size):ObjOk P w H (h.push { cls:=.type "dict",data:=.dict #[] }) h.objs.size (.dK []):=
  ⟨Nat.zero_le _,beq_eq_false_iff_ne.mpr (Ne.symm (Nat.ne_of_lt hb)),[],.nil,Heap.DictOf.new h⟩
noncomputable def tDNewK:TE:=fun _ H Q=>∀ p,H p=none→Q (.ref p) (upd H p (.dK []))
section
variable {X:Cx} {pos:Pos}
theorem pe_dnewK:PE X (.Dict [] [] pos) tDNewK:=fun pins s σ H Q I h=>
  wpAny_Dict_empty ⟨.ref s.heap.objs.size,_,I.laid (a:=s.heap.objs.size) (o:=.dK []) (t':=s.toks) (fun _ _ q=>Heap.get?_push_of_some _ q) (Nat.le_refl _) (dk_empty s.heap I.big),rfl,h _ (I.hok.fresh (Nat.le_refl _))⟩
end
noncomputable def tPairs:List (TE × TE)→St→Hp→(List (V × V)→Hp→Prop)→Prop
  | [],_,H,Q=>Q [] H
  | (tk,tv) :: r,σ,H,Q=>tk σ H fun x H1=>tv σ H1 fun y H2=>tPairs r σ H2 fun ps H3=>Q ((x,y) :: ps) H3
noncomputable abbrev VV:List (V × V)→List (Value × Value)→Prop:=Paired fun p q=>RelV p.1 q.1∧RelV p.2 q.2
noncomputable def PPs (X:Cx) (pos:Pos) (keys:List (Option Expr)) (values:List Expr) (trs:List (TE × TE)):Prop:=
  ∀ (pins:List (Addr × Obj)) (s:Shared) (σ:St) (H:Hp) (Q:List (V × V)→Hp→Prop),Inv X pins σ H s→tPairs trs σ H Q→
    wpAny (model X.prog X.w) X.A (evalPairs (pairTrees keys values X.env pos)) (fun vs s'=>∃ ps H',Inv X pins σ H' s'∧VV ps vs∧Q ps H') X.xe s
theorem pps_nil {X:Cx} {pos:Pos}:PPs X pos [] [] []:=fun pins s σ H Q I h=>pairTrees_nil_walk ⟨[],H,I,.nil,h⟩
theorem pps_cons {X:Cx} {pos:Pos} {k v:Expr} {ks:List (Option Expr)} {vs:List Expr} {tk tv:TE} {trs:List (TE × TE)} (hk:PE X k tk) (hv:PE X v tv) (hr:PPs X pos ks vs trs) :
    PPs X pos (some k :: ks) (v :: vs) ((tk,tv) :: trs):=fun pins s σ H Q I h=>
  pairTrees_cons_walk (thn (hk pins s σ H _ I h) fun u s1 ⟨x,H1,I1,rx,q1⟩=>thn (hv pins s1 σ H1 _ I1 q1) fun w2 s2 ⟨y,H2,I2,ry,q2⟩=>
    thn (hr pins s2 σ H2 _ I2 q2) fun ws s3 ⟨ps,H3,I3,rel,q3⟩=>⟨(x,y) :: ps,H3,I3,.cons ⟨rx,ry⟩ rel,q3⟩)
noncomputable def mergeK (kvs more:List (Key × V)):List (Key × V):=more.foldl (fun acc kv=>putK acc kv.1 kv.2) kvs
theorem KV.merge:∀ {more:List (Key × V)} {rs:List (Key × Value)} {kvs:List (Key × V)} {vs:List (Key × Value)},KV more rs→KV kvs vs→KV (mergeK kvs more) (merged vs rs):=by
  intro more rs kvs vs r
  unfold KV at r
  induction r generalizing kvs vs with
  | nil=>intro q; exact q
  | @cons p q ps qs h t ih=>
    intro r0
    have e:KV (putK kvs p.1 p.2) (stored vs q.1 q.2):=by
      have:=r0.put p.1 h.2
      rw [← h.1]; exact this
    exact ih e
theorem length_mergeK:∀ (more kvs:List (Key × V)),(mergeK kvs more).length ≤ kvs.length + more.length
  | [],kvs=>by show kvs.length ≤ kvs.length + 0; omega
  | p :: r,kvs=>by
    have h1:=length_mergeK r (putK kvs p.1 p.2)
    have h2:=length_putK kvs p.1 p.2
    show (mergeK (putK kvs p.1 p.2) r).length ≤ _
    rw [List.length_cons]; omega
theorem carries_of {P:Program} {w:World}:∀ {kvs:List (Key × V)} {ws:List (Value × Value)},VV (kvs.map fun kv=>(kV kv.1,kv.2)) ws→∃ rs,Carries (mixKind P w) ws rs∧KV kvs rs
  | [],_,r=>by rw [List.map_nil] at r; cases r; exact ⟨[],True.intro,.nil⟩
  | p :: kvs,_,r=>by
    rw [List.map_cons] at r
    cases r with
    | @cons a b as bs h t=>
      obtain ⟨rs,c,q⟩:=carries_of (P:=P) (w:=w) t
      obtain ⟨b1,b2⟩:=b
      exact ⟨(p.1,b2) :: rs,⟨kV_is h.1,rfl,c⟩,.cons ⟨rfl,h.2⟩ q⟩
noncomputable def tDisp (trs:List (TE × TE)):TE:=fun σ H Q=>∀ p,H p=none→tPairs trs σ (upd H p (.dK [])) fun ps H2=>H2 p=some (.dK [])∧∃ kvs:List (Key × V),ps=kvs.map (fun kv=>(kV kv.1,kv.2))∧kvs.length ≤ 15∧Q (.ref p) (upd H2 p (.dK (mergeK [] kvs)))
theorem pe_disp {X:Cx} {pos:Pos} {keys:List (Option Expr)} {values:List Expr} {trs:List (TE × TE)} (h:PPs X pos keys values trs) (hall:keys.all (·.isSome)=true) (hl:keys.length=values.length) (h0:keys ≠ [])
    (h15:keys.length ≤ 15):PE X (.Dict keys values pos) (tDisp trs):=by
  intro pins s σ H Q I q
  have hn:=I.hok.fresh (Nat.le_refl s.heap.objs.size)
  have I1:=I.laid (a:=s.heap.objs.size) (o:=.dK []) (h':=s.heap.push { cls:=.type "dict",data:=.dict #[] }) (t':=s.toks) (fun _ _ q=>Heap.get?_push_of_some _ q) (Nat.le_refl _) (dk_empty s.heap I.big)
  refine wpAny_Dict_walk (knd:=mixKind X.prog X.w) hall hl h0 h15 (thn (h pins _ σ _ _ I1 (q _ hn)) fun ws s2 ⟨ps,H2,I2,rel,e,kvs,ep,lk,q2⟩=>?_)
  subst ep
  obtain ⟨rs,c,rk⟩:=carries_of (P:=X.prog) (w:=X.w) rel
  obtain ⟨z,hd,vs0,r0,dd⟩:=dk_of I2.hok e
  cases r0
  refine ⟨rs,c,dd,fun h' dd' hs=>⟨.ref s.heap.objs.size,_,?_,rfl,q2⟩⟩
  have hz:(mergeK [] kvs).length ≤ sizeLine:=by
    have h1:=length_mergeK kvs []
    rw [List.length_nil] at h1
    rw [sizeLine_eq]; omega
  have he:∃ q,h'.get? s.heap.objs.size=some q:=let ⟨q,_,_,hq,_⟩:=dd'; ⟨q,hq⟩
  exact d_write I2 (by rw [e]; exact True.intro) hs he (dk_new hz hd (rk.merge .nil) dd')
end L2
set_option Elab.async false
set_option linter.all false
set_option maxRecDepth 100000
set_option maxHeartbeats 4000000
namespace PF
open PySem PySem.Spec PySem.W L2
open PyProof.Rows hiding St InstAt
noncomputable def lookD (k:Key):List Key→List D→Option D
  | k' :: ks,d :: l=>if k'=k then some d else lookD k ks l
  | _,_=>none
noncomputable def putL (k:Key) (d:D):List Key→List D→List D
  | k' :: ks,d' :: l=>(if k'=k then d else d') :: putL k d ks l
  | _,_=>[]
noncomputable def hasK (k:Key) (ks:List Key):Bool:=ks.any fun k'=>decide (k'=k)
noncomputable def putKs (k:Key) (ks:List Key):List Key:=if hasK k ks=true then ks else ks ++ [k]
noncomputable def putVs (k:Key) (d:D) (ks:List Key) (l:List D):List D:=if hasK k ks=true then putL k d ks l else l ++ [d]
noncomputable def keyD:D→Option Key
  | .int i=>some (.inl i)
  | .str x=>some (.inr x)
  | _=>none
section
variable {K:PySem.W.Frag} {F H:Hp}
theorem key_rv {d:D} {v:V} {k:Key} (r:RV K F H d v) (e:keyD d=some k):v=kV k:=by
  cases d <;> first | (simp [keyD] at e; done) | skip
  · have e':=Option.some.inj e
    subst e'; exact r
  · have e':=Option.some.inj e
    subst e'; exact r
theorem look_some {k:Key}:∀ {kvs:List (Key × V)} {l:List D} {d:D},RepL K F l (kvs.map (·.2))→lookD k (kvs.map (·.1)) l=some d→∃ v,valV kvs k=some v∧Rep K F d v
  | [],l,d,r,e=>by cases l <;> cases e
  | p :: kvs,[],d,r,e=>by cases e
  | p :: kvs,d' :: l,d,r,e=>by
    obtain ⟨v,t,h,q,r⟩:=r
    rw [List.map_cons] at h
    injection h with h1 h2
    subst h1 h2
    rw [List.map_cons,lookD] at e
    by_cases c:p.1=k
    · rw [if_pos c] at e
      have e':=Option.some.inj e
      subst e'
      exact ⟨p.2,valV_pos c,q⟩
    · rw [if_neg c] at e
      rw [valV_neg c]
      exact look_some r e
theorem look_none {k:Key}:∀ {kvs:List (Key × V)} {l:List D},RepL K F l (kvs.map (·.2))→lookD k (kvs.map (·.1)) l=none→valV kvs k=none
  | [],l,r,e=>rfl
  | p :: kvs,[],r,e=>by have h:_=[]:=r; simp at h
  | p :: kvs,d' :: l,r,e=>by
    obtain ⟨v,t,h,q,r⟩:=r
    rw [List.map_cons] at h
    injection h with h1 h2
    subst h1 h2
    rw [List.map_cons,lookD] at e
    by_cases c:p.1=k
    · rw [if_pos c] at e; cases e
    · rw [if_neg c] at e
      rw [valV_neg c]
      exact look_none r e
theorem put_any {k:Key} {kvs:List (Key × V)}:(kvs.any fun kv=>decide (kv.1=k))=hasK k (kvs.map (·.1)):=by
  unfold hasK
  rw [List.any_map]
  rfl
theorem put_keys {k:Key} {v:V} {kvs:List (Key × V)}:(putK kvs k v).map (·.1)=putKs k (kvs.map (·.1)):=by
  unfold putK putKs
  rw [put_any]
  by_cases c:hasK k (kvs.map (·.1))=true
  · rw [if_pos c,if_pos c,List.map_map]
    apply List.map_congr_left
    intro p _
    show (if p.1=k then (p.1,v) else p).1=p.1
    split <;> rfl
  · rw [if_neg c,if_neg c]; simp
theorem put_repl {k:Key} {d:D} {v:V} (q:Rep K F d v):∀ {kvs:List (Key × V)} {l:List D},RepL K F l (kvs.map (·.2))→RepL K F (putL k d (kvs.map (·.1)) l) ((kvs.map fun kv=>if kv.1=k then (kv.1,v) else kv).map (·.2))
  | [],l,r=>by cases l <;> rfl
  | p :: kvs,[],r=>by have h:_=[]:=r; simp at h
  | p :: kvs,d' :: l,r=>by
    obtain ⟨v',t,h,q',r⟩:=r
    rw [List.map_cons] at h
    injection h with h1 h2
    subst h1 h2
    refine ⟨(if p.1=k then (p.1,v) else p).2,_,rfl,?_,put_repl q r⟩
    by_cases c:p.1=k
    · simp only [if_pos c]; exact q
    · simp only [if_neg c]; exact q'
theorem put_vals {k:Key} {d:D} {v:V} {kvs:List (Key × V)} {l:List D} (q:Rep K F d v) (r:RepL K F l (kvs.map (·.2))):RepL K F (putVs k d (kvs.map (·.1)) l) ((putK kvs k v).map (·.2)):=by
  unfold putK putVs
  rw [put_any]
  by_cases c:hasK k (kvs.map (·.1))=true
  · rw [if_pos c,if_pos c]
    exact put_repl q r
  · rw [if_neg c,if_neg c,List.map_append]
    exact r.append (.one q)
end
section
variable {X:Cx} {F0 H0:Hp} {xq:Addr→Hp→Prop} {a b e o i:Expr} {fa fb:DS→M VR} {pos p2:Pos}
noncomputable def opGet (dd y:D):Option D:=match dd with
  | .dic ks l=>(match keyD y with
    | some k=>lookD k ks l
    | none=>none)
  | _=>none
noncomputable def rDGet:R2:=fun x y H Q=>∃ a v,x=.ref a∧DGet H a y (some v)∧Q v H
theorem opGet_ok:OpD X.K rDGet opGet:=fun F H d1 d2 d v1 v2 Q fh r1 r2 e q=>by
  cases d1 <;> first | (simp [opGet] at e; done) | skip
  rename_i ks l
  obtain ⟨a,kvs,rfl,h,hk,r⟩:=r1
  subst hk
  have e2:(match keyD d2 with | some k=>lookD k (kvs.map (·.1)) l | none=>none)=some d:=e
  cases z:keyD d2 with
  | none=>rw [z] at e2; cases e2
  | some k=>
    rw [z] at e2
    have hv:=key_rv r2 z
    subst hv
    obtain ⟨v,e3,rp⟩:=look_some r e2
    exact ⟨a,v,rfl,by rw [← e3]; exact DGet.k h,q v F H (Ext.refl fh) rp⟩
theorem de_dget (hu:X.A.units + 64 < cLine) (ha:DE X F0 H0 xq a fa) (hb:DE X F0 H0 xq b fb) (hs:NoSl b:=by intro _ _; rfl):DE X F0 H0 xq (.Subscript a b pos) (dBin opGet fa fb):=
  .mk fun pins s σ H Q I h=>pe_dget (by (clear h I hs hb ha; omega)) ha.h hb.h hs pins s σ H Q I (tOp_of opGet_ok h)
noncomputable def cDIn (y dd:D):Option D:=match dd with
  | .dic ks l=>(match keyD y with
    | some k=>some (.bl (lookD k ks l).isSome)
    | none=>none)
  | _=>none
noncomputable def rDIn:R2:=fun y x H Q=>∃ a o,x=.ref a∧DGet H a y o∧Q (.bl o.isSome) H
theorem look_isSome {K:PySem.W.Frag} {F:Hp} {k:Key} {kvs:List (Key × V)} {l:List D} (r:RepL K F l (kvs.map (·.2))):(valV kvs k).isSome=(lookD k (kvs.map (·.1)) l).isSome:=by
  cases z:lookD k (kvs.map (·.1)) l with
  | none=>rw [look_none r z]; rfl
  | some d=>
    obtain ⟨v,e,_⟩:=look_some r z
    rw [e]; rfl
theorem cDIn_ok:OpD X.K rDIn cDIn:=fun F H d1 d2 d v1 v2 Q fh r1 r2 e q=>by
  cases d2 <;> first | (simp [cDIn] at e; done) | skip
  rename_i ks l
  obtain ⟨a,kvs,rfl,h,hk,r⟩:=r2
  subst hk
  have e2:(match keyD d1 with | some k=>some (D.bl (lookD k (kvs.map (·.1)) l).isSome) | none=>none)=some d:=e
  cases z:keyD d1 with
  | none=>rw [z] at e2; cases e2
  | some k=>
    rw [z] at e2
    have hv:=key_rv r1 z
    subst hv
    have e':=Option.some.inj e2
    subst e'
    refine ⟨a,_,rfl,DGet.k h,?_⟩
    rw [look_isSome r]
    exact q _ F H (Ext.refl fh) rfl
theorem dt_din (hu:X.A.units + 64 < cLine) (ha:DE X F0 H0 xq a fa) (hb:DE X F0 H0 xq b fb) (hm:behindInMarks .In b=false:=by rfl):DT X F0 H0 xq (.Compare a [.In] [b] pos) (dtB (dBin cDIn fa fb)):=
  .mk fun pins s σ H Q I h=>pt_cmp (pc_din (by (clear h I hm hb ha; omega)) ha.h hb.h) hm pins s σ H Q I (tOp_of cDIn_ok (tTest_of h))
noncomputable def dOwd (i:Nat):DS→Option Fl:=fun S=>some (.next (S.set i (some (.owd [] []))))
theorem ds_owd (i:Nat) {x:Str} {pos' dpos:Pos} (hN:X.N.Nodup) (hi:X.N[i]?=some x:=by rfl) (hx:Loc X.env.scope x:=by first | exact Or.inl rfl | exact Or.inr rfl) (hs:swapsWith (.Dict [] [] dpos) (some (.Name x pos')) pos.line X.env=pure false:=by rfl)
    (hf:X.fn x=true∨X.env.scope.names.lookup x=some .local:=by first | exact .inl rfl | exact .inr rfl | assumption):DS1 X F0 H0 xq (.Assign [.Name x pos'] (.Dict [] [] dpos) pos) (dOwd i):=.mk fun pins s σ H Dn I q=>by
  refine ps_set hN hi hx pe_dnewK hs hf pins s σ H Dn I ?_
  obtain ⟨F,S,sk,o⟩:=q
  intro p hp
  exact o _ F _ (sk.setOwd (ext_own sk.ext.fh hp) hp (sk.ext.fh.free hp) upd_same rfl RepL.nil i)
noncomputable def dDPut (i:Nat) (g f:DS→M VR):DS→Option Fl:=fun S=>match S[i]? with
  | some (some (.owd ks l))=>liftE (f S) fun r=>match r with
    | .ok d=>liftE (g S) fun r2=>match keyD (toD r2) with
      | some k=>if ks.length < big then some (.next (S.set i (some (.owd (putKs k ks) (putVs k d ks l))))) else none
      | none=>none
    | _=>none
  | _=>none
theorem ds_dput (i:Nat) {x:Str} {p p2:Pos} {ix:Expr} {f g:DS→M VR} (hu:X.A.units + 64 < cLine) (hix:DE X F0 H0 xq ix g) (he:DE X F0 H0 xq e f) (hN:X.N[i]?=some x:=by rfl) (hv:Vis X.env.scope x:=by first | exact Or.inl rfl | exact Or.inr (Or.inl rfl) | exact Or.inr (Or.inr rfl))
    (hd:(x == ("__debug__" : Str))=false:=by decide) (hcd:(x == ("__classdict__" : Str))=false:=by decide) (hs:swapsWith e (some (.Subscript (.Name x p) ix p2)) pos.line X.env=pure false:=by rfl) :
    DS1 X F0 H0 xq (.Assign [.Subscript (.Name x p) ix p2] e pos) (dDPut i g f):=.mk fun pins s σ H Dn I q=>by
  refine ps_dput (by (clear q I hs hcd hd hv hN he hix; omega)) (pe_var hN hv hd hcd) hix.h he.h hs pins s σ H Dn I ?_
  obtain ⟨F,S,sk,o⟩:=q
  unfold dDPut at o
  cases z:S[i]? with
  | none=>rw [z] at o; exact False.elim o
  | some z1=>
    cases z1 with
    | none=>rw [z] at o; exact False.elim o
    | some sl=>
      cases sl with
      | val d=>rw [z] at o; exact False.elim o
      | own l=>rw [z] at o; exact False.elim o
      | owd ks l=>
        rw [z] at o
        refine ⟨F,S,sk,outE_of sk o fun r v F1 H1 e1 q1 o1=>?_⟩
        cases r with
        | bor l=>exact False.elim o1
        | bod ks l=>exact False.elim o1
        | ok d=>
          have sk1:=sk.step e1
          obtain ⟨a,kvs,h1,h2,h3,h4,h5,h6⟩:=sk1.owd i ks l z
          refine ⟨.ref a,h1,F1,S,sk1,outE_of sk1 o1 fun r2 v2 F2 H2 e2 q2 o2=>?_⟩
          have sk2:=sk1.step e2
          have rv:=RR.rv e2.fh q2
          generalize toD r2=d2 at rv o2
          cases zk:keyD d2 with
          | none=>rw [zk] at o2; exact False.elim o2
          | some k=>
            rw [zk] at o2
            have o3:outS X.K F0 H0 xq Dn (if ks.length < big then some (.next (S.set i (some (.owd (putKs k ks) (putVs k d ks l))))) else none):=o2
            have hv2:=key_rv rv zk
            subst hv2
            by_cases hz:ks.length < big
            · rw [if_pos hz] at o3
              obtain ⟨a',kvs',g1,g2,g3,g4,g5,g6⟩:=sk2.owd i ks l z
              have ea:a'=a:=by rw [h1] at g1; simpa using g1.symm
              subst ea
              have hl:kvs'.length < sizeLine:=by
                have:kvs'.length=ks.length:=by rw [← g5,List.length_map]
                rw [this]
                exact Nat.lt_of_lt_of_le hz (big_le (Nat.le_refl _))
              refine ⟨a',_,rfl,DPut.k g4 hl,?_⟩
              subst g5
              exact o3 σ F2 _ (sk2.mutd z g1 put_keys (put_vals (Rep.mono e2.ff q1) g6))
            · rw [if_neg hz] at o3; exact False.elim o3
theorem de_disp3 {k1 k2 k3 v1 v2 v3:Int} {j1 j2 j3 j4 j5 j6:Nat} {p1 p2 p3 p4 p5 p6:Pos} (hm:mergeK [] [((.inl k1:Key),V.int v1),(.inl k2,.int v2),(.inl k3,.int v3)]=[((.inl k1:Key),V.int v1),(.inl k2,.int v2),(.inl k3,.int v3)]:=by rfl) :
    DE X F0 H0 xq (.Dict [some (.Constant (.int k1) j1 p1),some (.Constant (.int k2) j2 p2),some (.Constant (.int k3) j3 p3)] [.Constant (.int v1) j4 p4,.Constant (.int v2) j5 p5,.Constant (.int v3) j6 p6] pos) (dC (.dic [.inl k1,.inl k2,.inl k3] [.int v1,.int v2,.int v3])):=
  .mk fun pins s σ H Q I ⟨F,S,st,o⟩=>pe_disp (pps_cons pe_int pe_int (pps_cons pe_int pe_int (pps_cons pe_int pe_int pps_nil))) rfl rfl (by simp) (by simp) pins s σ H Q I fun p hp=>by
    refine ⟨upd_same,[((.inl k1:Key),V.int v1),(.inl k2,.int v2),(.inl k3,.int v3)],rfl,by simp,?_⟩
    rw [upd_upd,hm]
    exact o (.ref p) _ _ (ext_alloc st.ext.fh hp) ⟨p,_,rfl,upd_same,rfl,.cons rfl (.cons rfl (.cons rfl .nil))⟩
noncomputable def asIntsD:List D→Option (List Int)
  | []=>some []
  | .int i :: l=>(asIntsD l).map (i :: ·)
  | _ :: _=>none
theorem asIntsD_of:∀ {l:List D} {ns:List Int},asIntsD l=some ns→l=ns.map D.int
  | [],ns,e=>by
    have e':=Option.some.inj e
    subst e'; rfl
  | .int i :: l,ns,e=>by
    have e2:(asIntsD l).map (i :: ·)=some ns:=e
    cases z:asIntsD l with
    | none=>rw [z] at e2; cases e2
    | some l'=>
      rw [z] at e2
      have e':=Option.some.inj e2
      subst e'
      rw [asIntsD_of z]; rfl
  | .non :: _,_,e=>by cases e
  | .str _ :: _,_,e=>by cases e
  | .bl _ :: _,_,e=>by cases e
  | .tup _ :: _,_,e=>by cases e
  | .lst _ :: _,_,e=>by cases e
  | .scr _ :: _,_,e=>by cases e
  | .dic _ _ :: _,_,e=>by cases e
end
end PF
set_option Elab.async false
set_option linter.all false
set_option maxRecDepth 100000
set_option maxHeartbeats 4000000
namespace PF
open PySem PySem.Spec PySem.W L2
open PyProof.Rows hiding St InstAt
noncomputable def places (n k:Nat):Nat:=if n=0 then 0 else (n - 1) / k + 1
noncomputable def pickS {α:Type} (xs:List α) (k:Nat):List α:=(List.range (places xs.length k)).filterMap fun i=>xs[i * k]?
theorem RepL.pick {K:PySem.W.Frag} {F:Hp} {l:List D} {vs:List V} (r:RepL K F l vs):∀ is:List Nat,RepL K F (is.filterMap fun i=>l[i]?) (is.filterMap fun i=>vs[i]?)
  | []=>rfl
  | i :: is=>by
    rw [List.filterMap_cons,List.filterMap_cons]
    cases z:l[i]? with
    | none=>
      have hl:l.length ≤ i:=List.getElem?_eq_none_iff.mp z
      rw [List.getElem?_eq_none (by rw [← r.length]; exact hl)]
      exact RepL.pick r is
    | some d=>
      obtain ⟨v,e,q⟩:=r.get z
      rw [e]
      exact .cons q (RepL.pick r is)
theorem Vals.pick {xs:List V} {us:List Value} (r:Vals xs us):∀ is:List Nat,Vals (is.filterMap fun i=>xs[i]?) (is.filterMap fun i=>us[i]?)
  | []=>.nil
  | i :: is=>by
    rw [List.filterMap_cons,List.filterMap_cons]
    cases z:xs[i]? with
    | none=>rw [r.none_of z]; exact Vals.pick r is
    | some d=>
      obtain ⟨v,e,q⟩:=r.get z
      rw [e]
      exact .cons q (Vals.pick r is)
theorem pickS_is {α:Type} (xs:List α) (k:Nat):pickS xs k=((List.range (places xs.length k)).map (· * k)).filterMap fun i=>xs[i]?:=by
  unfold pickS
  rw [List.filterMap_map]
  rfl
theorem RepL.pickS {K:PySem.W.Frag} {F:Hp} {l:List D} {vs:List V} (r:RepL K F l vs) (k:Nat):RepL K F (PF.pickS l k) (PF.pickS vs k):=by
  rw [pickS_is,pickS_is,r.length]
  exact r.pick _
theorem Vals.pickS {xs:List V} {us:List Value} (r:Vals xs us) (k:Nat):Vals (PF.pickS xs k) (PF.pickS us k):=by
  rw [pickS_is,pickS_is,r.length]
  exact Vals.pick r _
theorem places_le {n k:Nat} (hk:1 ≤ k):places n k ≤ n:=by
  unfold places
  split
  · (clear hk; omega)
  · have:=Nat.div_le_self (n - 1) k
    (clear hk; omega)
theorem pickS_len {α:Type} (xs:List α) {k:Nat} (hk:1 ≤ k):(pickS xs k).length ≤ xs.length:=by
  unfold pickS
  refine Nat.le_trans (List.length_filterMap_le _ _) ?_
  rw [List.length_range]
  exact places_le hk
section
variable {prog:Program} {w:World} {A:Around} {E:Value→Shared→Prop} {s:Shared}
theorem sliceApplied_step {sl:Addr} {t:Tok} {n:Nat} {k:Int} {Q:Int × Int × Nat→Shared→Prop} (hk:1 ≤ k) (hs:s.heap.IsSliceOf sl .none .none (.int k t)) (h:Q (0,k,places n k.toNat) s) :
    wpAny (model prog w) A (Builtin.Slice.sliceApplied (.ref sl) (pure (n:Int))) Q E s:=by
  obtain ⟨os,hos,hcs,hds⟩:=id hs
  unfold Builtin.Slice.sliceApplied Builtin.Slice.sliceFields
  refine wpAny_bind (wpAny_bind (wpAny_field hos hds (x:=.none) rfl (wpAny_bind (wpAny_field hos hds (x:=.none) rfl (wpAny_bind (wpAny_field hos hds (x:=.int k t) rfl (wpAny_pure ?_)))))))
  refine wpAny_bind (slicePart_int ?_)
  show wpAny _ _ (if (k == 0)=true then _ else _) _ _ s
  rw [if_neg (by simp; (clear hds hcs hos h hs; omega))]
  refine wpAny_bind (slicePart_none (wpAny_bind (slicePart_none (wpAny_bind (wpAny_pure ?_)))))
  show wpAny _ _ (pure ((Builtin.Slice.sliceAdjust none none k (n:Int)).1,k,Builtin.Slice.slicePlaces (Builtin.Slice.sliceAdjust none none k (n:Int)).1 (Builtin.Slice.sliceAdjust none none k (n:Int)).2 k)) _ _ s
  have e1:Builtin.Slice.sliceAdjust none none k (n:Int)=(0,(n:Int)):=by
    unfold Builtin.Slice.sliceAdjust
    simp only [show ¬ (k < 0) by (clear hds hcs hos h hs; omega),if_false]
  have e:Builtin.Slice.slicePlaces 0 (n:Int) k=places n k.toNat:=by
    unfold Builtin.Slice.slicePlaces places
    rw [if_pos (by (clear e1 hds hcs hos h hs; omega):k > 0)]
    obtain ⟨m,rfl⟩:∃ m:Nat,k=m:=⟨k.toNat,by (clear e1 hds hcs hos h hs; omega)⟩
    by_cases c:n=0
    · subst c; simp
    · rw [if_pos (by (clear e1 hds h hs hk hcs hos; omega)),if_neg c]
      have:((n:Int) - 0 - 1) / (m:Int)=(((n - 1) / m:Nat):Int):=by
        rw [Int.natCast_ediv]
        congr 1
        (clear e1 hds h hs hk hcs hos; omega)
      rw [this,Int.toNat_natCast]
      exact Int.toNat_natCast _
  rw [e1]
  simp only
  rw [e]
  exact wpAny_pure h
end
section
variable {X:Cx} {F0 H0:Hp} {xq:Addr→Hp→Prop} {a b:Expr} {fa fb:DS→M VR} {pos p2:Pos}
noncomputable def opStep:D→D→Option D
  | .tup l,.int k=>if 2 ≤ k∧k ≤ 1000 then some (.tup (pickS l k.toNat)) else none
  | _,_=>none
noncomputable def rStep (K:PySem.W.Frag):R2:=fun x y H Q=>∃ b xs k,x=.ref b∧y=.int k∧2 ≤ k∧SqT K H b xs∧∀ p,H p=none→Q (.ref p) (upd H p (.tup (pickS xs k.toNat)))
theorem opStep_ok:OpD X.K (rStep X.K) opStep:=fun F H d1 d2 d v1 v2 Q fh r1 r2 e q=>by
  cases d1 <;> first | (simp [opStep] at e; done) | skip
  cases d2 <;> first | (simp [opStep] at e; done) | skip
  rename_i l k
  have e2:(if 2 ≤ k∧k ≤ 1000 then some (D.tup (pickS l k.toNat)) else none)=some d:=e
  split at e2
  · rename_i hk
    have e':=Option.some.inj e2
    subst e'
    obtain ⟨x,vs,rfl,ht,rl⟩:=r1
    exact ⟨x,vs,k,rfl,r2,hk.1,SqT.same fh ht,fun p hp=>q _ _ _ (ext_alloc fh hp) ⟨p,_,rfl,SqT.of upd_same,(rl.pickS k.toNat).mono (same_upd (fh.free hp))⟩⟩
  · cases e2
theorem de_step (ha:DE X F0 H0 xq a fa) (hb:DE X F0 H0 xq b fb):DE X F0 H0 xq (.Subscript a (.Slice none none (some b) p2) pos) (dBin opStep fa fb):=.mk fun pins s σ H Q I q=>by
  refine PyProof.Rows.Subscript_ (thn (ha.h pins s σ H _ I (tOp_of opStep_ok q)) fun v s1 ⟨x,H1,I1,r1,q1⟩=>?_)
  refine wpAny_Slice ?_
  rw [evalPart_none,evalPart_some]
  refine wpAny_pure (wpAny_pure ?_)
  refine thn (hb.h pins s1 σ H1 _ I1 q1) fun vst s2 ⟨y,H2,I2,r2,b',xs,k,ex,ey,hk,hx,q2⟩=>?_
  subst ex ey
  cases r1
  obtain ⟨t,rfl⟩:=r2
  have I4:Inv X pins σ H2 { s2 with heap:=s2.heap.push { cls:=.type "slice",data:=.fields #[.none,.none,.int k t] } }:=I2.kept (t':=s2.toks) fun b ob q=>Heap.get?_push_of_some _ q
  obtain ⟨its,r,ht,hz⟩:=I4.tuple hx
  show wpAny (model X.prog X.w) X.A (subscriptTail a (.Slice none none (some b) p2) (.ref b') (.ref s2.heap.objs.size)) (EP X pins σ Q) X.xe { s2 with heap:=s2.heap.push { cls:=.type "slice",data:=.fields #[.none,.none,.int k t] } }
  have hs:({ s2 with heap:=s2.heap.push { cls:=.type "slice",data:=.fields #[.none,.none,.int k t] } }:Shared).heap.IsSliceOf s2.heap.objs.size .none .none (.int k t):=Heap.IsSliceOf.new ..
  have ep:((List.range (places its.length k.toNat)).filterMap fun (j:Nat)=>its.toArray[((0:Int) + (j:Int) * k).toNat]?)=pickS its k.toNat:=by
    unfold pickS
    apply fm_congr
    intro j _
    have:((0:Int) + (j:Int) * k).toNat=j * k.toNat:=by
      obtain ⟨m,rfl⟩:∃ m:Nat,k=m:=⟨k.toNat,by (clear hs hz ht r I4 q1 q2 hx I2 I1 q I hb ha; omega)⟩
      rw [Int.zero_add,← Int.natCast_mul,Int.toNat_natCast,Int.toNat_natCast]
    rw [this]
    simp
  refine tail_any (ops:=[.ref b',.ref s2.heap.objs.size]) ht.typeIs PyProof.Rows.slot_tuple_getitem.lookup ?_ (by with_unfolding_all rfl)
  refine getItem_tuple_by (lo:=0) (step:=k) (n:=places its.length k.toNat) ht hs (fun A' Q' E' h=>?_) ?_ (fun h=>?_) (fun _=>?_)
  · rw [List.size_toArray]
    exact sliceApplied_step (by (clear h ep hs hz ht r I4 q1 q2 hx I2 I1 q I hb ha; omega)) hs h
  · rw [ep]
    refine Nat.le_trans (pickS_len its (by (clear ep hs hz ht r I4 q1 q2 hx I2 I1 q I hb ha; omega))) ?_
    rw [← r.length]; exact hz
  · rw [Bool.and_eq_true,Bool.and_eq_true] at h
    have:=h.1.2
    simp at this
    (clear h ep hs hz ht r I4 q1 q2 hx I2 I1 q I hb ha; omega)
  · rw [ep]
    refine ⟨.ref _,_,I4.laid (t':=s2.toks) (o:=.tup (pickS xs k.toNat)) (fun b ob q=>Heap.get?_push_of_some _ q) (Nat.le_refl _) ?_,rfl,q2 _ I4.fresh⟩
    exact ⟨Nat.le_trans (pickS_len xs (by (clear ep hs hz ht r I4 q1 q2 hx I2 I1 q I hb ha; omega))) hz,_,Vals.pickS r k.toNat,IsTup.new _ _⟩
end
end PF
set_option Elab.async false
set_option linter.all false
set_option maxRecDepth 100000
set_option maxHeartbeats 4000000
namespace PF
open PySem PySem.Spec PySem.W L2
open PyProof.Rows hiding St InstAt
noncomputable def firstMax (ns:List Nat) (i:Nat):Bool:=decide (i < ns.length) && (List.range ns.length).all fun j=>decide (ns.getD j 0 ≤ ns.getD i 0) && (!decide (j < i) || decide (ns.getD j 0 < ns.getD i 0))
theorem firstMax_uniq {ns:List Nat} {i k:Nat} (h:firstMax ns i=true) (hk:k < ns.length) (hb:∀ j,j < ns.length→(ns.getD k 0:Int) ≥ (ns.getD j 0:Nat)∧(j < k→(ns.getD k 0:Int) > (ns.getD j 0:Nat))):k=i:=by
  unfold firstMax at h
  rw [Bool.and_eq_true] at h
  have hi:i < ns.length:=of_decide_eq_true h.1
  have ha:=List.all_eq_true.mp h.2
  rcases Nat.lt_trichotomy k i with c | c | c
  · have h1:=ha k (by simpa using hk)
    simp [c] at h1
    have h2:=(hb i hi).1
    simp at h2
    (clear c ha hi hb hk h; omega)
  · exact c
  · have h1:=(hb i hi).2 c
    have h2:=ha i (by simpa using hi)
    have h3:=ha k (by simpa using hk)
    simp at h1 h3
    (clear h2 c ha hi hb hk h; omega)
noncomputable def lensD:List D→Option (List Nat)
  | []=>some []
  | .tup l :: r=>(lensD r).map (l.length :: ·)
  | _ :: _=>none
noncomputable def uMaxLen:D→Option D
  | .lst l=>(match lensD l with
    | some ns=>(match (List.range ns.length).find? (firstMax ns) with
      | some i=>l[i]?
      | none=>none)
    | none=>none)
  | _=>none
section
variable {X:Cx}
theorem inv_news {pins:List (Addr × Obj)} {σ:St} {H:Hp} {s:Shared} {h':Heap} {m:Str→Option Value} {t':Nat} (I:Inv X pins σ H s) (hm:s.heap.Ns X.env.locals m) (F:Fr {} X.env.locals h' m) (N:News {} X.env.locals h' (allNews {} s.heap X.env.locals)):Inv X pins σ H { s with heap:=h',toks:=t' }:=by
  have keep:∀ b o,b ≠ X.env.locals→s.heap.get? b=some o→h'.get? b=some o:=fun b o nb e=>(N (b,o) (mem_allNews nb rfl e)).1
  refine I.step (g':=s.gens) (d':=s.drawn) (ch:=[]) (fun b hb=>absurd hb (by simp)) (fun b o h1 _ _ e _=>keep b o h1 e) (fun b o h1 _ _ e _=>⟨o.slots,keep b o h1 e⟩) (fun b o _ _ hn=>hn) (fun b o _ e=>?_) (fun _ _ q=>q) (fun _ _ _ q=>q) (fun b ps q=>⟨#[],by simpa using q⟩) (fun m' hm'=>?_) ?_ I.bare
  · by_cases nb:b=X.env.locals
    · obtain ⟨o',_,_,ho,_⟩:=F.ns
      exact ⟨o',by rw [nb]; exact ho⟩
    · exact ⟨o,keep b o nb e⟩
  · have em:m'=m:=by
      obtain ⟨o,es,ep,ho,hd,hk,hf⟩:=hm
      obtain ⟨o2,es2,ep2,ho2,hd2,hk2,hf2⟩:=hm'
      rw [ho] at ho2
      have:=Option.some.inj ho2
      subst this
      rw [hd] at hd2
      injection hd2 with z1 z2
      subst z1
      exact funext fun y=>(hf2 y).symm.trans (hf y)
    rw [em]; exact F.ns
  · intro a o e
    refine (I.hok a o e).stay (fun b u hb q=>keep b u ?_ q) (fun _ q=>q) fun _ _ q=>q
    rintro rfl
    rcases hb with rfl | hb
    · rw [I.free] at e; cases e
    · rw [I.free] at hb; cases hb
theorem lens_rep {K:PySem.W.Frag} {F:Hp}:∀ {l:List D} {ns:List Nat} {vs:List V},lensD l=some ns→RepL K F l vs→ns.length=vs.length∧∀ i v,vs[i]?=some v→∃ a xs,v=.ref a∧SqT K F a xs∧xs.length=ns.getD i 0
  | [],ns,vs,e,r=>by
    have e':=Option.some.inj e
    have r':vs=[]:=r
    subst e' r'
    exact ⟨rfl,fun i v h=>by simp at h⟩
  | .tup l :: r,ns,vs,e,h=>by
    obtain ⟨v,t,rfl,q,h⟩:=h
    have e2:(lensD r).map (l.length :: ·)=some ns:=e
    cases z:lensD r with
    | none=>rw [z] at e2; cases e2
    | some ms=>
      rw [z] at e2
      have e':=Option.some.inj e2
      subst e'
      obtain ⟨h1,h2⟩:=lens_rep z h
      refine ⟨by simp [h1],fun i u hu=>?_⟩
      cases i with
      | zero=>
        have:v=u:=by simpa using hu
        subst this
        obtain ⟨a,xs,e3,e4,e5⟩:=q
        exact ⟨a,xs,e3,e4,by rw [← e5.length]; rfl⟩
      | succ i=>
        obtain ⟨a,xs,e3,e4,e5⟩:=h2 i u (by simpa using hu)
        exact ⟨a,xs,e3,e4,by simpa using e5⟩
  | .non :: _,_,_,e,_=>by cases e
  | .int _ :: _,_,_,e,_=>by cases e
  | .bl _ :: _,_,_,e,_=>by cases e
  | .str _ :: _,_,_,e,_=>by cases e
  | .lst _ :: _,_,_,e,_=>by cases e
  | .scr _ :: _,_,_,e,_=>by cases e
  | .dic _ _ :: _,_,_,e,_=>by cases e
noncomputable def rMaxLen (K:PySem.W.Frag):V→Hp→VK→Prop:=fun x H Q=>∃ p vs ns i v,x=.ref p∧H p=some (.lst vs)∧ns.length=vs.length∧(∀ i v,vs[i]?=some v→∃ a xs,v=.ref a∧SqT K H a xs∧xs.length=ns.getD i 0)∧firstMax ns i=true∧vs[i]?=some v∧Q v H
theorem max_len {pins:List (Addr × Obj)} {s:Shared} {σ:St} {H:Hp} {x:V} {u:Value} {Q:VK} (hc:X.calm=true) (I:Inv X pins σ H s) (rx:RelV x u) (h:rMaxLen X.K x H Q) :
    wpAny (model X.prog X.w) X.A (call (.builtin "max") [u] [(Str.ofString "key",.builtin "len")]) (EP X pins σ Q) X.xe s:=by
  obtain ⟨p,vs,ns,i,v,rfl,hp,hl,hall,hf,hv,q⟩:=h
  cases rx
  obtain ⟨z,its,n,r,hlen,e⟩:=I.lstM hp
  obtain ⟨m,hm,_⟩:=id I.loc
  have neL:p ≠ X.env.locals:=by rintro rfl; rw [I.free] at hp; cases hp
  have hi:i < ns.length:=by
    unfold firstMax at hf
    rw [Bool.and_eq_true] at hf
    exact of_decide_eq_true hf.1
  have tup:∀ {j:Nat} {w:Value},its[j]?=some w→∃ a us,w=.ref a∧a ≠ X.env.locals∧IsTup s.heap a us∧us.size=ns.getD j 0∧us.size ≤ sizeLine:=by
    intro j w hw
    have hj:j < vs.length:=by
      rw [hlen]
      exact (List.getElem?_eq_some_iff.mp hw).1
    obtain ⟨a,xs,e1,e2,e3⟩:=hall j vs[j] (List.getElem?_eq_getElem hj)
    obtain ⟨u',hu',ru'⟩:=r.get (List.getElem?_eq_getElem hj)
    rw [hw] at hu'
    have:=Option.some.inj hu'
    subst this
    rw [e1] at ru'
    cases ru'
    obtain ⟨its2,r2,t2,z2⟩:=I.tuple e2
    refine ⟨a,_,rfl,?_,t2,by rw [List.size_toArray,← r2.length]; exact e3,by rw [List.size_toArray,← r2.length]; exact z2⟩
    rintro rfl
    obtain ⟨o,es,ep,ho,hd,_⟩:=hm
    obtain ⟨o2,g1,g2,n2,g3⟩:=t2
    rw [ho] at g1
    have:=Option.some.inj g1
    subst this
    rw [hd] at g3; cases g3
  refine kmb_max (h₀:={}) (L:=X.env.locals) (m:=m) (news:=allNews {} s.heap X.env.locals) (vs:=its) (kf:=fun j=>((ns.getD j 0:Nat):Int)) (I.ok.hd hc) ⟨hm,fun b o q=>absurd (q.symm.trans (show ({}:Heap).get? b=none from rfl)) (by simp),Nat.zero_le _⟩ news_all (fun h F N=>?_) (by rw [← hlen,← hl]; (clear tup neL hm e hlen r z q hv hf hall hl hp I hc; omega)) (fun j w hw h tk own F N=>?_) (fun j w h' tk' hw hb F N=>?_)
  · have:=(N (p,_) (mem_allNews neL rfl e)).1
    exact ⟨_,this,rfl,n,rfl⟩
  · obtain ⟨a,us,rfl,na,ht,hs,hz⟩:=tup hw
    obtain ⟨o,g1,g2,n2,g3⟩:=ht
    have k:=(N (a,o) (List.mem_append_left _ (mem_allNews na rfl g1))).1
    have hl63:=line63
    refine len_tuple (s:={ s with heap:=h,toks:=tk }) ⟨o,k,g2,n2,g3⟩ (by (clear k g3 g2 g1 hs na hw N F tup hi neL hm e hlen r z q hv hf hall hl hp I hc; omega)) ?_
    have:=KskEnd.intro (k:=((ns.getD j 0:Nat):Int)) (s₁:={ s with heap:=h,toks:=tk }) (t':=tk + 1) (tk:=tk + 1 + 1) F N (fun p hp=>hp)
    rw [hs]
    exact this
  · have hj:j < its.length:=(List.getElem?_eq_some_iff.mp hw).1
    have hjn:j < ns.length:=by rw [hl,hlen]; exact hj
    have ej:=firstMax_uniq hf hjn (fun k hk=>hb k (by rw [← hlen,← hl]; exact hk))
    subst ej
    obtain ⟨u',hu',ru'⟩:=r.get hv
    rw [hw] at hu'
    have:=Option.some.inj hu'
    subst this
    exact ⟨v,H,inv_news I hm F N,ru',q⟩
theorem uMaxLen_ok:UnD X.K (rMaxLen X.K) uMaxLen:=fun F H d1 d v1 Q fh r1 e q=>by
  cases d1 <;> first | (simp [uMaxLen] at e; done) | skip
  rename_i l
  have e2:(match lensD l with
    | some ns=>(match (List.range ns.length).find? (firstMax ns) with
      | some i=>l[i]?
      | none=>none)
    | none=>none)=some d:=e
  obtain ⟨a,vs,rfl,ht,rl⟩:=r1
  cases z:lensD l with
  | none=>rw [z] at e2; cases e2
  | some ns=>
    rw [z] at e2
    simp only at e2
    cases w:(List.range ns.length).find? (firstMax ns) with
    | none=>rw [w] at e2; cases e2
    | some i=>
      rw [w] at e2
      simp only at e2
      obtain ⟨v,ev,rv⟩:=rl.get e2
      obtain ⟨h1,h2⟩:=lens_rep z rl
      exact ⟨a,vs,ns,i,v,rfl,ht,h1,fun j u hu=>by
        obtain ⟨b,xs,q1,q2,q3⟩:=h2 j u hu
        exact ⟨b,xs,q1,SqT.same fh q2,q3⟩,List.find?_some w,ev,q v F H (Ext.refl fh) rv⟩
variable {F0 H0:Hp} {xq:Addr→Hp→Prop} {a:Expr} {fa:DS→M VR} {pos p p2 kp:Pos}
theorem de_maxlen (hgl:Gl X "max") (hm:X.mg "max" = none) (hgl2:Gl X "len") (hm2:X.mg "len" = none) (ha:DE X F0 H0 xq a fa) (hc:X.calm=true:=by rfl)
    (he:starEach [a] X.env=(false,eval a X.env) :: starEach [] X.env:=by rfl)
    (he2:backTo pos (starEach [a] X.env)=(false,eval a X.env) :: backTo pos (starEach [] X.env):=by rfl)
    (hplain:(backTo pos (starEach [a] X.env)).any (·.1)=false:=by rfl) :
    DE X F0 H0 xq (.Call (.Name "max" p) [a] [⟨some "key",.Name "len" p2,kp⟩] pos) (dUn uMaxLen fa):=.mk fun pins s σ H Q I q=>by
  refine wpAny_Call_Name_kw (ld_blt I hgl hm (by decide +kernel:bootBuiltins "max" = some (.builtin "max")) ?_ (by decide) (by decide))
  refine PyProof.Rows.callWith_kw ?_ he2 hplain rfl rfl
  have un:UnD X.K (fun x H Q=>∃ y,[x]=[y]∧rMaxLen X.K y H Q) uMaxLen:=fun F H d1 d v1 Q fh r1 e q=>⟨v1,rfl,uMaxLen_ok F H d1 d v1 Q fh r1 e q⟩
  have hA:=(pa_cons ha.h pa_nil he:PA X [a] _) pos pins s σ H (fun xs H1=>∃ y,xs=[y]∧rMaxLen X.K y H1 Q) I (tUn_of un q)
  refine thn hA fun us s1 ⟨vs,H1,I1,r1,y,ey,q1⟩=>?_
  subst ey
  obtain ⟨u,rfl,ru⟩:=vals1 r1
  refine PyProof.Rows.kws_cons (ld_blt I1 hgl2 hm2 (by decide +kernel:bootBuiltins "len" = some (.builtin "len")) ?_ (by decide) (by decide))
  exact PyProof.Rows.kws_nil (max_len hc I1 ru q1)
end
end PF
set_option Elab.async false
set_option linter.all false
set_option maxRecDepth 100000
set_option maxHeartbeats 4000000
namespace PF
open PySem L2
section
variable {α β:Type} {S:DS} {f g h fa fb fc:DS→M VR}
@[simp] theorem mb_ok (a:α) (k:α→M β):mb (some (.ok a)) k=k a:=rfl
@[simp] theorem mb_none (k:α→M β):mb none k=none:=rfl
@[simp] theorem mb_err (c:Addr) (k:α→M β):mb (some (.error c)) k=some (.error c):=rfl
@[simp] theorem dVar_e (i:Nat):dVar i S=match S[i]? with
  | some (some (.val d))=>some (.ok (.ok d))
  | some (some (.own l))=>some (.ok (.bor l))
  | some (some (.owd ks l))=>some (.ok (.bod ks l))
  | _=>none:=rfl
@[simp] theorem dC_e (d:D):dC d S=some (.ok (.ok d)):=rfl
@[simp] theorem dOf_e (f:DS→M (List D)):dOf f S=mb (f S) fun l=>some (.ok (.ok (.lst l))):=rfl
@[simp] theorem vr_some (d:D):vr (some d)=some (.ok (.ok d)):=rfl
@[simp] theorem vr_none:vr none=none:=rfl
@[simp] theorem toD_ok (d:D):toD (.ok d)=d:=rfl
@[simp] theorem toD_bod (ks:List Key) (l:List D):toD (.bod ks l)=.dic ks l:=rfl
@[simp] theorem toD_bor (l:List D):toD (.bor l)=.lst l:=rfl
@[simp] theorem dBin_e (k:D→D→Option D):dBin k fa fb S=mb (fa S) fun r1=>mb (fb S) fun r2=>vr (k (toD r1) (toD r2)):=rfl
@[simp] theorem dUn_e (k:D→Option D):dUn k fa S=mb (fa S) fun r1=>vr (k (toD r1)):=rfl
@[simp] theorem dtB_e:dtB f S=mb (f S) fun r=>match r with
  | .ok (.bl b)=>some (.ok b)
  | _=>none:=rfl
@[simp] theorem dChain_e (k k':D→D→Option D):dChain k k' fa fb fc S=mb (fa S) fun r1=>mb (fb S) fun r2=>match k (toD r1) (toD r2) with
  | some (.bl true)=>mb (fc S) fun r3=>vr (k' (toD r2) (toD r3))
  | some (.bl false)=>some (.ok (.ok (.bl false)))
  | _=>none:=rfl
@[simp] theorem dNot_e (t:DS→M Bool):dNot t S=mb (t S) fun b=>some (.ok (!b)):=rfl
@[simp] theorem dNotV_e:dNotV f S=mb (f S) fun r=>match r with
  | .ok (.bl b)=>some (.ok (.ok (.bl (!b))))
  | _=>none:=rfl
@[simp] theorem dAnd_e (t u:DS→M Bool):dAnd t u S=mb (t S) fun b=>if b=true then u S else some (.ok false):=rfl
@[simp] theorem dOr_e (t u:DS→M Bool):dOr t u S=mb (t S) fun b=>if b=true then some (.ok true) else u S:=rfl
@[simp] theorem dAndV_e:dAndV f g S=mb (f S) fun r=>match r with
  | .ok (.bl true)=>g S
  | .ok (.bl false)=>some (.ok (.ok (.bl false)))
  | _=>none:=rfl
@[simp] theorem dOrV_e:dOrV f g S=mb (f S) fun r=>match r with
  | .ok (.bl true)=>some (.ok (.ok (.bl true)))
  | .ok (.bl false)=>g S
  | _=>none:=rfl
@[simp] theorem dIfE_e (c:DS→M Bool):dIfE c f g S=mb (c S) fun b=>if b=true then f S else g S:=rfl
@[simp] theorem dNil_e:dNil S=some (.ok []):=rfl
@[simp] theorem dCons_e (fs:DS→M (List VR)):dCons f fs S=mb (f S) fun r=>mb (fs S) fun rs=>some (.ok (r :: rs)):=rfl
@[simp] theorem datas_nil:datas []=some []:=rfl
@[simp] theorem datas_ok (d:D) (r:List VR):datas (.ok d :: r)=(datas r).map (d :: ·):=rfl
@[simp] theorem dTup_e (fs:DS→M (List VR)):dTup fs S=mb (fs S) fun rs=>match datas rs with
  | some ds=>if ds.length ≤ 100000 then some (.ok (.ok (.tup ds))) else none
  | none=>none:=rfl
@[simp] theorem dLst_e (fs:DS→M (List VR)):dLst fs S=mb (fs S) fun rs=>match datas rs with
  | some ds=>if ds.length ≤ 100000 then some (.ok ds) else none
  | none=>none:=rfl
@[simp] theorem isBor_ok (d:D):isBor (.ok d)=false:=rfl
@[simp] theorem isBor_bod (ks:List Key) (l:List D):isBor (.bod ks l)=true:=rfl
@[simp] theorem isBor_bor (l:List D):isBor (.bor l)=true:=rfl
@[simp] theorem dCall_e (n:Nat) (m:List D→M D) (fs:DS→M (List VR)):dCall n m fs S=mb (fs S) fun rs=>if rs.length=n then mb (m (rs.map toD)) fun d=>if rs.any isBor=true∧noList d=false then none else some (.ok (.ok d)) else none:=rfl
@[simp] theorem dNext_e:dNext S=some (.next S):=rfl
@[simp] theorem dSeq_e (p q:DS→Option Fl):dSeq p q S=match p S with
  | some (.next S')=>q S'
  | x=>x:=rfl
@[simp] theorem liftE_none (k:VR→Option Fl):liftE none k=none:=rfl
@[simp] theorem liftE_err (c:Addr) (k:VR→Option Fl):liftE (some (.error c)) k=some (.ex c):=rfl
@[simp] theorem liftE_ok (r:VR) (k:VR→Option Fl):liftE (some (.ok r)) k=k r:=rfl
@[simp] theorem dSet_e (i:Nat):dSet i f S=liftE (f S) fun r=>match r with
  | .ok d=>some (.next (S.set i (some (.val d))))
  | _=>none:=rfl
@[simp] theorem dOwn_e (i:Nat) (f:DS→M (List D)):dOwn i f S=match f S with
  | none=>none
  | some (.error c)=>some (.ex c)
  | some (.ok l)=>some (.next (S.set i (some (.own l)))):=rfl
@[simp] theorem dIf_e (c:DS→M Bool) (p q:DS→Option Fl):dIf c p q S=match c S with
  | none=>none
  | some (.error c)=>some (.ex c)
  | some (.ok b)=>if b=true then p S else q S:=rfl
@[simp] theorem dRet_e:dRet f S=liftE (f S) fun r=>some (.ret (toD r)):=rfl
@[simp] theorem dAppend_e (i:Nat):dAppend i f S=match S[i]? with
  | some (some (.own l))=>liftE (f S) fun r=>match r with
    | .ok d=>if l.length < 100000 then some (.next (S.set i (some (.own (l ++ [d]))))) else none
    | _=>none
  | _=>none:=rfl
@[simp] theorem dStore_e (i:Nat):dStore i g f S=match S[i]? with
  | some (some (.own l))=>liftE (f S) fun r=>match r with
    | .ok d=>liftE (g S) fun r2=>match r2 with
      | .ok (.int k)=>match ixN l.length k with
        | some j=>some (.next (S.set i (some (.own (l.set j d)))))
        | none=>none
      | _=>none
    | _=>none
  | _=>none:=rfl
@[simp] theorem sName_e (i:Nat) (d:D):sName i d S=some (S.set i (some (.val d))):=rfl
@[simp] theorem sNil_e:sNil [] S=some S:=rfl
@[simp] theorem sCons_e (s:D→DS→Option DS) (r:List D→DS→Option DS) (d:D) (ds:List D):sCons s r (d :: ds) S=match s d S with
    | none=>none
    | some S'=>r ds S':=rfl
@[simp] theorem sTup_e (n:Nat) (s:List D→DS→Option DS) (l:List D):sTup n s (.tup l) S=if l.length=n then s l S else none:=rfl
@[simp] theorem items_tup (l:List D):items (.ok (.tup l))=some l:=rfl
@[simp] theorem items_lst (l:List D):items (.ok (.lst l))=some l:=rfl
@[simp] theorem items_scr (l:List Int):items (.ok (.scr l))=some (l.map .int):=rfl
@[simp] theorem dIter_e:dIter f S=mb (f S) fun r=>match items r with
  | some l=>some (.ok l)
  | none=>none:=rfl
@[simp] theorem dRange1_e (fs:DS→M (List VR)):dRange1 fs S=mb (fs S) fun rs=>match rs with
  | [.ok (.int j)]=>if rOk j=true then some (.ok (rangeD 0 j)) else none
  | _=>none:=rfl
@[simp] theorem dRange2_e (fs:DS→M (List VR)):dRange2 fs S=mb (fs S) fun rs=>match rs with
  | [.ok (.int i),.ok (.int j)]=>if rOk i=true∧rOk j=true then some (.ok (rangeD i j)) else none
  | _=>none:=rfl
@[simp] theorem rOk_e (j:Int):rOk j=true↔-1000000000 ≤ j∧j ≤ 1000000000:=by simp [rOk]
@[simp] theorem dFor_e (k:DS→M (List D)) (set:D→DS→Option DS) (p:DS→Option Fl):dFor k set p S=match k S with
  | none=>none
  | some (.error c)=>some (.ex c)
  | some (.ok ds)=>loopD set p ds S:=rfl
@[simp] theorem startN_1 (n:Nat) (a:D):startN n [a]=some (.val a) :: List.replicate (n - 1) none:=rfl
@[simp] theorem startN_2 (n:Nat) (a b:D):startN n [a,b]=some (.val a) :: some (.val b) :: List.replicate (n - 2) none:=rfl
@[simp] theorem startN_3 (n:Nat) (a b c:D):startN n [a,b,c]=some (.val a) :: some (.val b) :: some (.val c) :: List.replicate (n - 3) none:=rfl
@[simp] theorem startN_4 (n:Nat) (a b c d:D):startN n [a,b,c,d]=some (.val a) :: some (.val b) :: some (.val c) :: some (.val d) :: List.replicate (n - 4) none:=rfl
@[simp] theorem startN_5 (n:Nat) (a b c d e:D):startN n [a,b,c,d,e]=some (.val a) :: some (.val b) :: some (.val c) :: some (.val d) :: some (.val e) :: List.replicate (n - 5) none:=rfl
@[simp] theorem rep_0:List.replicate 0 (none:Option Slot)=[]:=rfl
@[simp] theorem rep_1:List.replicate 1 (none:Option Slot)=[none]:=rfl
@[simp] theorem rep_2:List.replicate 2 (none:Option Slot)=[none,none]:=rfl
@[simp] theorem rep_3:List.replicate 3 (none:Option Slot)=[none,none,none]:=rfl
@[simp] theorem rep_4:List.replicate 4 (none:Option Slot)=[none,none,none,none]:=rfl
@[simp] theorem rep_5:List.replicate 5 (none:Option Slot)=[none,none,none,none,none]:=rfl
@[simp] theorem rep_6:List.replicate 6 (none:Option Slot)=[none,none,none,none,none,none]:=rfl
@[simp] theorem rep_7:List.replicate 7 (none:Option Slot)=[none,none,none,none,none,none,none]:=rfl
@[simp] theorem rep_8:List.replicate 8 (none:Option Slot)=[none,none,none,none,none,none,none,none]:=rfl
@[simp] theorem rep_9:List.replicate 9 (none:Option Slot)=[none,none,none,none,none,none,none,none,none]:=rfl
@[simp] theorem rep_10:List.replicate 10 (none:Option Slot)=[none,none,none,none,none,none,none,none,none,none]:=rfl
@[simp] theorem rep_11:List.replicate 11 (none:Option Slot)=[none,none,none,none,none,none,none,none,none,none,none]:=rfl
@[simp] theorem rep_12:List.replicate 12 (none:Option Slot)=[none,none,none,none,none,none,none,none,none,none,none,none]:=rfl
@[simp] theorem fin_next (S:DS):fin (some (.next S))=some (.ok .non):=rfl
@[simp] theorem fin_ret (d:D):fin (some (.ret d))=some (.ok d):=rfl
@[simp] theorem okM_ok (d:D):okM (some (.ok d))=some (.ok d):=rfl
@[simp] theorem cap_e (nt:Nat) (caps:List Nat):cap nt caps S=List.replicate nt none ++ caps.map fun j=>(S[j]?).join:=rfl
@[simp] theorem dComp_e (nt:Nat) (caps:List Nat) (fi:DS→M (List D)) (set:D→DS→Option DS) (t:DS→M Bool):dComp nt caps fi set t f S=mb (fi S) fun ds=>if ds.length ≤ 100000 then (match compD set t f ds (cap nt caps S) with
  | some l=>some (.ok l)
  | none=>none) else none:=rfl
@[simp] theorem opI2_e (k:Int→Int→Int) (i j:Int):opI2 k (.int i) (.int j)=some (.int (k i j)):=rfl
@[simp] theorem opC2_e (c:Int→Int→Bool) (k:Int→Int→Int) (i j:Int):opC2 c k (.int i) (.int j)=if c i j=true then some (.int (k i j)) else none:=rfl
@[simp] theorem okMod_e (i j:Int):okMod i j=true↔0 < j:=by simp [okMod]
@[simp] theorem okDiv_e (i j:Int):okDiv i j=true↔0 < j∧j < 1073741824:=by simp [okDiv]
@[simp] theorem opAdd_int (i j:Int):opAdd (.int i) (.int j)=some (.int (i + j)):=rfl
@[simp] theorem opAdd_str (i j:Str):opAdd (.str i) (.str j)=if i.length + j.length ≤ 100000 then some (.str (i ++ j)) else none:=rfl
@[simp] theorem opAdd_tup (l l':List D):opAdd (.tup l) (.tup l')=if l.length + l'.length ≤ 100000 then some (.tup (l ++ l')) else none:=rfl
@[simp] theorem opAdd_lst (l l':List D):opAdd (.lst l) (.lst l')=if l.length + l'.length ≤ 100000 then some (.lst (l ++ l')) else none:=rfl
@[simp] theorem opMul_int (i j:Int):opMul (.int i) (.int j)=if okMul i j=true then some (.int (i * j)) else none:=rfl
@[simp] theorem opMul_tup (l:List D) (k:Int):opMul (.tup l) (.int k)=if okRep l.length k=true then some (.tup (List.replicate k.toNat l).flatten) else none:=rfl
@[simp] theorem opMul_lst (l:List D) (k:Int):opMul (.lst l) (.int k)=if okRep l.length k=true then some (.lst (List.replicate k.toNat l).flatten) else none:=rfl
theorem okMul_l {i j:Int} (h1:-18446744073709551616 < i) (h2:i < 18446744073709551616):okMul i j=true:=by simp [okMul,h1,h2]
theorem okMul_r {i j:Int} (h1:-18446744073709551616 < j) (h2:j < 18446744073709551616):okMul i j=true:=by simp [okMul,h1,h2]
@[simp] theorem uNeg_e (i:Int):uNeg (.int i)=some (.int (-i)):=rfl
@[simp] theorem uLen_tup (l:List D):uLen (.tup l)=some (.int l.length):=rfl
@[simp] theorem uLen_lst (l:List D):uLen (.lst l)=some (.int l.length):=rfl
@[simp] theorem uLen_scr (l:List Int):uLen (.scr l)=some (.int l.length):=rfl
@[simp] theorem uLen_str (x:Str):uLen (.str x)=if x.length ≤ 100000 then some (.int x.length) else none:=rfl
@[simp] theorem uInt_int (i:Int):uInt (.int i)=some (.int i):=rfl
@[simp] theorem uInt_bl (b:Bool):uInt (.bl b)=some (.int (if b then 1 else 0)):=rfl
@[simp] theorem uStr_e (i:Int):uStr (.int i)=if (decide (-1000000000000 ≤ i) && decide (i ≤ 1000000000000))=true then some (.str (toString i)) else none:=rfl
@[simp] theorem uTup_tup (l:List D):uTup (.tup l)=some (.tup l):=rfl
@[simp] theorem uTup_lst (l:List D):uTup (.lst l)=some (.tup l):=rfl
noncomputable def asL:D→M (List D)
  | .tup l=>some (.ok l)
  | .lst l=>some (.ok l)
  | .scr l=>some (.ok (l.map .int))
  | _=>none
@[simp] theorem dList1_e:dList1 f S=mb (f S) fun r=>asL (toD r):=rfl
@[simp] theorem asL_tup (l:List D):asL (.tup l)=some (.ok l):=rfl
@[simp] theorem asL_lst (l:List D):asL (.lst l)=some (.ok l):=rfl
@[simp] theorem asL_scr (l:List Int):asL (.scr l)=some (.ok (l.map .int)):=rfl
@[simp] theorem uIsiT_e (T:String) (d:D):uIsiT T d=some (.bl (isiB (tyN d) T)):=rfl
@[simp] theorem isi_bb:isiB "bool" "bool" = true:=by decide
@[simp] theorem isi_bi:isiB "bool" "int" = true:=by decide
@[simp] theorem isi_bt:isiB "bool" "tuple" = false:=by decide
@[simp] theorem isi_ib:isiB "int" "bool" = false:=by decide
@[simp] theorem isi_ii:isiB "int" "int" = true:=by decide
@[simp] theorem isi_it:isiB "int" "tuple" = false:=by decide
@[simp] theorem isi_tb:isiB "tuple" "bool" = false:=by decide
@[simp] theorem isi_ti:isiB "tuple" "int" = false:=by decide
@[simp] theorem isi_tt:isiB "tuple" "tuple" = true:=by decide
@[simp] theorem isi_lb:isiB "list" "bool" = false:=by decide
@[simp] theorem isi_li:isiB "list" "int" = false:=by decide
@[simp] theorem isi_lt:isiB "list" "tuple" = false:=by decide
@[simp] theorem isi_sb:isiB "str" "bool" = false:=by decide
@[simp] theorem isi_si:isiB "str" "int" = false:=by decide
@[simp] theorem isi_st:isiB "str" "tuple" = false:=by decide
@[simp] theorem isi_ss:isiB "str" "str" = true:=by decide
@[simp] theorem isi_nb:isiB "NoneType" "bool" = false:=by decide
@[simp] theorem isi_ni:isiB "NoneType" "int" = false:=by decide
@[simp] theorem isi_nt:isiB "NoneType" "tuple" = false:=by decide
@[simp] theorem tyN_non:tyN .non = "NoneType" := rfl
@[simp] theorem tyN_bl (b:Bool):tyN (.bl b) = "bool" := rfl
@[simp] theorem tyN_int (i:Int):tyN (.int i) = "int" := rfl
@[simp] theorem tyN_str (x:Str):tyN (.str x) = "str" := rfl
@[simp] theorem tyN_tup (l:List D):tyN (.tup l) = "tuple" := rfl
@[simp] theorem tyN_lst (l:List D):tyN (.lst l) = "list" := rfl
@[simp] theorem tyN_dic (ks:List Key) (l:List D):tyN (.dic ks l) = "dict" := rfl
@[simp] theorem isi_db:isiB "dict" "bool" = false:=by decide
@[simp] theorem isi_di:isiB "dict" "int" = false:=by decide
@[simp] theorem isi_dt:isiB "dict" "tuple" = false:=by decide
@[simp] theorem tyN_scr (l:List Int):tyN (.scr l) = "list" := rfl
@[simp] theorem cLt_e (i j:Int):cLt (.int i) (.int j)=some (.bl (decide (i < j))):=rfl
@[simp] theorem cLe_e (i j:Int):cLe (.int i) (.int j)=some (.bl (decide (i ≤ j))):=rfl
@[simp] theorem cGt_e (i j:Int):cGt (.int i) (.int j)=some (.bl (decide (i > j))):=rfl
@[simp] theorem cGe_e (i j:Int):cGe (.int i) (.int j)=some (.bl (decide (i ≥ j))):=rfl
@[simp] theorem cEq_int (i j:Int):cEq (.int i) (.int j)=some (.bl (decide (i=j))):=rfl
@[simp] theorem cNe_int (i j:Int):cNe (.int i) (.int j)=some (.bl (!(decide (i=j)))):=rfl
@[simp] theorem cEq_bl (i j:Bool):cEq (.bl i) (.bl j)=some (.bl (i == j)):=rfl
@[simp] theorem cNe_bl (i j:Bool):cNe (.bl i) (.bl j)=some (.bl (!(i == j))):=rfl
@[simp] theorem opIx_tup (l:List D) (i:Int):opIx (.tup l) (.int i)=atI l i:=rfl
@[simp] theorem opIx_lst (l:List D) (i:Int):opIx (.lst l) (.int i)=atI l i:=rfl
@[simp] theorem opIx_scr (l:List Int) (i:Int):opIx (.scr l) (.int i)=(atI l i).map .int:=rfl
@[simp] theorem dBinF_e (k:D→D→Option D):dBinF k fa fb S=mb (fa S) fun r1=>mb (fb S) fun r2=>match k (toD r1) (toD r2) with
  | some (.lst l)=>some (.ok l)
  | _=>none:=rfl
@[simp] theorem dNoPart_e:dNoPart S=some (.ok none):=rfl
@[simp] theorem dPart_e:dPart f S=mb (f S) fun r=>match r with
  | .ok (.int i)=>some (.ok (some i))
  | _=>none:=rfl
@[simp] theorem dSlice_e (fl fh:DS→M (Option Int)):dSlice f fl fh S=mb (f S) fun r=>mb (fl S) fun lo=>mb (fh S) fun hi=>vr (sliceD (toD r) lo hi):=rfl
@[simp] theorem sliceD_tup (l:List D) (lo hi:Option Int):sliceD (.tup l) lo hi=some (.tup (cutD l lo hi)):=rfl
@[simp] theorem sliceD_lst (l:List D) (lo hi:Option Int):sliceD (.lst l) lo hi=some (.lst (cutD l lo hi)):=rfl
@[simp] theorem uRev_e (l:List D):uRev (.tup l)=some (.tup l.reverse):=rfl
@[simp] theorem noList_tup (l:List D):noList (.tup l)=noLists l:=by rw [noList]
@[simp] theorem noList_int (i:Int):noList (.int i)=true:=by rw [noList]
@[simp] theorem noList_bl (b:Bool):noList (.bl b)=true:=by rw [noList]
@[simp] theorem noList_non:noList .non=true:=by rw [noList]
@[simp] theorem noList_str (x:Str):noList (.str x)=true:=by rw [noList]
@[simp] theorem noLists_nil:noLists []=true:=by rw [noLists]
@[simp] theorem noLists_cons (d:D) (l:List D):noLists (d :: l)=(noList d && noLists l):=by rw [noLists]
@[simp] theorem noLists_ints (l:List Int):noLists (l.map D.int)=true:=by induction l with
  | nil=>simp
  | cons a l ih=>simp [ih]
@[simp] theorem bools_nil:bools []=some []:=rfl
@[simp] theorem bools_cons (b:Bool) (l:List D):bools (.bl b :: l)=(bools l).map (b :: ·):=rfl
@[simp] theorem bools_map {γ:Type} (p:γ→Bool) (l:List γ):bools (l.map fun x=>D.bl (p x))=some (l.map p):=by induction l with
  | nil=>rfl
  | cons a l ih=>simp [ih]
@[simp] theorem uAll_lst (l:List D):uAll (.lst l)=(bools l).map fun bs=>.bl (bs.all id):=rfl
end
theorem atI_nat' {α:Type} {l:List α} {i:Int} (h0:0 ≤ i):atI l i=l[i.toNat]?:=by
  unfold atI ixN
  rw [if_pos h0]
  by_cases h:i < (l.length:Int)
  · rw [if_pos h]; rfl
  · rw [if_neg h,List.getElem?_eq_none (by omega)]; rfl
theorem atI_neg {α:Type} {l:List α} {i:Int} (h0:i < 0) (h:-(l.length:Int) ≤ i):atI l i=l[(i + l.length).toNat]?:=by
  unfold atI ixN
  rw [if_neg (by omega),if_pos h]; rfl
theorem atI_last {α:Type} (l:List α):atI l (-1)=l.getLast?:=by
  cases l with
  | nil=>rfl
  | cons a r=>
    rw [atI_neg (by omega) (by simp; omega),List.getLast?_eq_getElem?]
    congr 1
    simp; omega
theorem compD_map {set:D→DS→Option DS} {t:DS→M Bool} {fe:DS→M VR} {γ:Type} (f:γ→D) (k:γ→D) (st:Option Slot→DS) (l:List γ) (o:Option Slot)
    (h1:∀ a o,a ∈ l→set (f a) (st o)=some (st (some (.val (f a))))) (h2:∀ a,a ∈ l→t (st (some (.val (f a))))=some (.ok true)) (h3:∀ a,a ∈ l→fe (st (some (.val (f a))))=some (.ok (.ok (k a)))) :
    compD set t fe (l.map f) (st o)=some (l.map k):=by
  induction l generalizing o with
  | nil=>rfl
  | cons a l ih=>
    rw [List.map_cons,compD,h1 a o (by simp)]
    simp only
    rw [h2 a (by simp)]
    simp only
    rw [h3 a (by simp)]
    simp only
    rw [ih _ (fun a o h=>h1 a o (by simp [h])) (fun a h=>h2 a (by simp [h])) (fun a h=>h3 a (by simp [h]))]
    rfl
theorem compD_filter {set:D→DS→Option DS} {t:DS→M Bool} {fe:DS→M VR} {γ:Type} (f:γ→D) (k:γ→D) (p:γ→Bool) (st:Option Slot→DS) (l:List γ) (o:Option Slot)
    (h1:∀ a o,a ∈ l→set (f a) (st o)=some (st (some (.val (f a))))) (h2:∀ a,a ∈ l→t (st (some (.val (f a))))=some (.ok (p a))) (h3:∀ a,a ∈ l→fe (st (some (.val (f a))))=some (.ok (.ok (k a)))) :
    compD set t fe (l.map f) (st o)=some ((l.filter p).map k):=by
  induction l generalizing o with
  | nil=>rfl
  | cons a l ih=>
    rw [List.map_cons,compD,h1 a o (by simp)]
    simp only
    rw [h2 a (by simp)]
    have ih':=ih (some (.val (f a))) (fun a o h=>h1 a o (by simp [h])) (fun a h=>h2 a (by simp [h])) (fun a h=>h3 a (by simp [h]))
    cases q:p a with
    | true=>
      simp only
      rw [h3 a (by simp)]
      simp only
      rw [ih',List.filter_cons_of_pos q]
      rfl
    | false=>
      simp only
      rw [ih',List.filter_cons_of_neg (by simp [q])]
end PF
set_option Elab.async false
set_option linter.all false
set_option maxRecDepth 100000
set_option maxHeartbeats 4000000
namespace R
open PySem L2 PF
noncomputable def g_l_cell_at:DS→Option Fl:=
  (dSeq (dIf (dtB (dBin cLt (dVar 1) (dUn uLen (dVar 0)))) (dRet (dBin opIx (dVar 0) (dVar 1))) dNext)
    (dRet (dC (.int 0))))
noncomputable def m_l_cell_at:List D→M D:=fun ds=>okM (fin (g_l_cell_at (startN 2 ds)))
noncomputable def g_l_mixed (M_l_cell_at:List D→M D):DS→Option Fl:=
  (dSeq (dSet 2 (dBin (opC2 okMod fun i j=>i % j) (dBin opMul (dBin opAdd (dBin opAdd (dCall 2 M_l_cell_at (dCons (dVar 0) (dCons (dVar 1) dNil))) (dBin opMul (dC (.int 7919)) (dVar 1))) (dC (.int 1))) (dC (.int 48271))) (dC (.int 2147483647))))
    (dRet (dBin (opC2 okMod fun i j=>i % j) (dBin opAdd (dBin opAdd (dBin opMul (dVar 2) (dVar 2)) (dBin opMul (dC (.int 7)) (dVar 2))) (dVar 1)) (dC (.int 2147483629)))))
noncomputable def m_l_mixed:List D→M D:=fun ds=>okM (fin (g_l_mixed m_l_cell_at (startN 3 ds)))
noncomputable def g_l_drawn:DS→Option Fl:=
  (dSeq (dSet 2 (dBin (opC2 okMod fun i j=>i % j) (dBin opMul (dBin opAdd (dBin opAdd (dVar 0) (dBin opMul (dC (.int 104729)) (dVar 1))) (dC (.int 17))) (dC (.int 69621))) (dC (.int 2147483647))))
    (dRet (dBin (opC2 okMod fun i j=>i % j) (dBin opAdd (dBin opAdd (dBin opMul (dVar 2) (dVar 2)) (dBin opMul (dC (.int 3)) (dVar 2))) (dVar 1)) (dC (.int 2147483629)))))
noncomputable def m_l_drawn:List D→M D:=fun ds=>okM (fin (g_l_drawn (startN 3 ds)))
noncomputable def g_l_number:DS→Option Fl:=
  (dRet (dAndV (dUn (uIsiT "int") (dVar 0)) (dAndV (dNotV (dUn (uIsiT "bool") (dVar 0))) (dChain cLe cLe (dVar 1) (dVar 0) (dVar 2)))))
noncomputable def m_l_number:List D→M D:=fun ds=>okM (fin (g_l_number (startN 3 ds)))
noncomputable def b_l_sum_1 (M_l_drawn:List D→M D):DS→Option Fl:=
  (dSeq (dSet 6 (dCall 2 M_l_drawn (dCons (dVar 0) (dCons (dVar 5) dNil))))
    (dAppend 4 (dBin opMul (dBin (opC2 okMod fun i j=>i % j) (dBin (opC2 okDiv fun i j=>i / j) (dVar 6) (dC (.int 8))) (dVar 1)) (dUn uInt (dOrV (dBin cGt (dBin (opC2 okMod fun i j=>i % j) (dBin (opC2 okDiv fun i j=>i / j) (dVar 0) (dC (.int 16))) (dC (.int 3))) (dC (.int 0))) (dBin cEq (dBin (opC2 okMod fun i j=>i % j) (dVar 6) (dC (.int 3))) (dC (.int 0))))))))
noncomputable def g_l_sum (M_l_drawn:List D→M D):DS→Option Fl:=
  (dSeq (dSet 3 (dBin (opC2 okMod fun i j=>i % j) (dVar 0) (dBin opAdd (dVar 2) (dC (.int 1)))))
    (dSeq (dOwn 4 (dLst dNil))
    (dSeq (dFor (dRange1 (dCons (dVar 3) dNil)) (sName 5) (b_l_sum_1 M_l_drawn))
    (dSeq (dIf (dtB (dBin cGt (dVar 3) (dC (.int 0)))) (dStore 4 (dUn uNeg (dC (.int 1))) (dBin opAdd (dC (.int 1)) (dBin (opC2 okMod fun i j=>i % j) (dCall 2 M_l_drawn (dCons (dVar 0) (dCons (dC (.int 40)) dNil))) (dBin (opI2 fun i j=>i - j) (dVar 1) (dC (.int 1)))))) dNext)
    (dRet (dUn uTup (dVar 4)))))))
noncomputable def m_l_sum:List D→M D:=fun ds=>okM (fin (g_l_sum m_l_drawn (startN 7 ds)))
noncomputable def g_l_is_long_sum (M_l_number:List D→M D):DS→Option Fl:=
  (dSeq (dIf (dOr (dNot (dtB (dUn (uIsiT "tuple") (dVar 0)))) (dtB (dBin cNe (dOf (dComp 1 [1] (dIter (dVar 0)) (sName 0) (dNot (dtB (dCall 3 M_l_number (dCons (dVar 0) (dCons (dC (.int 0)) (dCons (dBin (opI2 fun i j=>i - j) (dVar 1) (dC (.int 1))) dNil)))))) (dVar 0))) (dOf (dLst dNil))))) (dRet (dC (.bl false))) dNext)
    (dRet (dOrV (dBin cEq (dVar 0) (dTup dNil)) (dBin cNe (dBin opIx (dVar 0) (dUn uNeg (dC (.int 1)))) (dC (.int 0))))))
noncomputable def m_l_is_long_sum:List D→M D:=fun ds=>okM (fin (g_l_is_long_sum m_l_number (startN 2 ds)))
noncomputable def c_trimmed_1:DS→M Bool:=
  (dAnd (dtB (dBin cGt (dVar 1) (dC (.int 0)))) (dtB (dBin cEq (dBin opIx (dVar 0) (dBin (opI2 fun i j=>i - j) (dVar 1) (dC (.int 1)))) (dC (.int 0)))))
noncomputable def b_trimmed_2:DS→Option Fl:=
  (dSet 1 (dBin (opI2 fun i j=>i - j) (dVar 1) (dC (.int 1))))
noncomputable def g_trimmed:DS→Option Fl:=
  (dSeq (dSet 1 (dUn uLen (dVar 0)))
    (dSeq (whileD (c_trimmed_1) (b_trimmed_2) 200)
    (dRet (dUn uTup (dSlice (dVar 0) dNoPart (dPart (dVar 1)))))))
noncomputable def m_trimmed:List D→M D:=fun ds=>okM (fin (g_trimmed (startN 2 ds)))
noncomputable def g_scaled (M_trimmed:List D→M D):DS→Option Fl:=
  (dRet (dCall 1 M_trimmed (dCons (dOf (dComp 1 [2,1] (dIter (dVar 0)) (sName 0) (fun _=>some (.ok true)) (dBin (opC2 okMod fun i j=>i % j) (dBin opMul (dVar 2) (dVar 0)) (dVar 1)))) dNil)))
noncomputable def m_scaled:List D→M D:=fun ds=>okM (fin (g_scaled m_trimmed (startN 3 ds)))
noncomputable def g_turned_number:DS→Option Fl:=
  (dRet (dBin opIx (dOf (dComp 1 [1,0] (dRange2 (dCons (dC (.int 1)) (dCons (dVar 1) dNil))) (sName 0) (dtB (dBin cEq (dBin (opC2 okMod fun i j=>i % j) (dBin opMul (dVar 2) (dVar 0)) (dVar 1)) (dC (.int 1)))) (dVar 0))) (dC (.int 0))))
noncomputable def m_turned_number:List D→M D:=fun ds=>okM (fin (g_turned_number (startN 2 ds)))
noncomputable def b_plus_1 (M_trimmed:List D→M D):DS→Option Fl:=
  (dStore 3 (dVar 4) (dVar 5))
noncomputable def b_plus_2 (M_trimmed:List D→M D):DS→Option Fl:=
  (dStore 3 (dVar 4) (dBin (opC2 okMod fun i j=>i % j) (dBin opAdd (dBin opIx (dVar 3) (dVar 4)) (dVar 5)) (dVar 2)))
noncomputable def g_plus (M_trimmed:List D→M D):DS→Option Fl:=
  (dSeq (dOwn 3 (dBinF opMul (dOf (dLst (dCons (dC (.int 0)) dNil))) (dBin opMax (dUn uLen (dVar 0)) (dUn uLen (dVar 1)))))
    (dSeq (dFor (dEnum (dVar 0)) (sTup 2 (sCons (sName 4) (sCons (sName 5) sNil))) (b_plus_1 M_trimmed))
    (dSeq (dFor (dEnum (dVar 1)) (sTup 2 (sCons (sName 4) (sCons (sName 5) sNil))) (b_plus_2 M_trimmed))
    (dRet (dCall 1 M_trimmed (dCons (dVar 3) dNil))))))
noncomputable def m_plus:List D→M D:=fun ds=>okM (fin (g_plus m_trimmed (startN 6 ds)))
noncomputable def g_minus (M_plus:List D→M D) (M_scaled:List D→M D):DS→Option Fl:=
  (dRet (dCall 3 M_plus (dCons (dVar 0) (dCons (dCall 3 M_scaled (dCons (dVar 1) (dCons (dBin (opI2 fun i j=>i - j) (dVar 2) (dC (.int 1))) (dCons (dVar 2) dNil)))) (dCons (dVar 2) dNil)))))
noncomputable def m_minus:List D→M D:=fun ds=>okM (fin (g_minus m_plus m_scaled (startN 3 ds)))
noncomputable def b_times_1 (M_trimmed:List D→M D):DS→Option Fl:=
  (dStore 3 (dBin opAdd (dVar 4) (dVar 6)) (dBin (opC2 okMod fun i j=>i % j) (dBin opAdd (dBin opIx (dVar 3) (dBin opAdd (dVar 4) (dVar 6))) (dBin opMul (dVar 5) (dVar 7))) (dVar 2)))
noncomputable def b_times_2 (M_trimmed:List D→M D):DS→Option Fl:=
  (dFor (dEnum (dVar 1)) (sTup 2 (sCons (sName 6) (sCons (sName 7) sNil))) (b_times_1 M_trimmed))
noncomputable def g_times (M_trimmed:List D→M D):DS→Option Fl:=
  (dSeq (dOwn 3 (dBinF opMul (dOf (dLst (dCons (dC (.int 0)) dNil))) (dBin opAdd (dUn uLen (dVar 0)) (dUn uLen (dVar 1)))))
    (dSeq (dFor (dEnum (dVar 0)) (sTup 2 (sCons (sName 4) (sCons (sName 5) sNil))) (b_times_2 M_trimmed))
    (dRet (dCall 1 M_trimmed (dCons (dVar 3) dNil)))))
noncomputable def m_times:List D→M D:=fun ds=>okM (fin (g_times m_trimmed (startN 8 ds)))
noncomputable def b_parted_1 (M_turned_number:List D→M D) (M_trimmed:List D→M D):DS→Option Fl:=
  (dStore 4 (dBin opAdd (dVar 6) (dVar 8)) (dBin (opC2 okMod fun i j=>i % j) (dBin (opI2 fun i j=>i - j) (dBin opIx (dVar 4) (dBin opAdd (dVar 6) (dVar 8))) (dBin opMul (dVar 7) (dVar 9))) (dVar 2)))
noncomputable def b_parted_2 (M_turned_number:List D→M D) (M_trimmed:List D→M D):DS→Option Fl:=
  (dSeq (dSet 7 (dBin (opC2 okMod fun i j=>i % j) (dBin opMul (dBin opIx (dVar 4) (dBin (opI2 fun i j=>i - j) (dBin opAdd (dVar 6) (dUn uLen (dVar 1))) (dC (.int 1)))) (dVar 3)) (dVar 2)))
    (dSeq (dStore 5 (dVar 6) (dVar 7))
    (dFor (dEnum (dVar 1)) (sTup 2 (sCons (sName 8) (sCons (sName 9) sNil))) (b_parted_1 M_turned_number M_trimmed))))
noncomputable def g_parted (M_turned_number:List D→M D) (M_trimmed:List D→M D):DS→Option Fl:=
  (dSeq (dIf (dtB (dBin cEq (dUn uLen (dVar 1)) (dC (.int 0)))) (fun _=>none) dNext)
    (dSeq (dSet 3 (dCall 2 M_turned_number (dCons (dBin opIx (dVar 1) (dUn uNeg (dC (.int 1)))) (dCons (dVar 2) dNil))))
    (dSeq (dOwn 4 (dList1 (dVar 0)))
    (dSeq (dOwn 5 (dBinF opMul (dOf (dLst (dCons (dC (.int 0)) dNil))) (dUn uLen (dVar 0))))
    (dSeq (dFor (dRange3 (dCons (dBin (opI2 fun i j=>i - j) (dUn uLen (dVar 0)) (dUn uLen (dVar 1))) (dCons (dUn uNeg (dC (.int 1))) (dCons (dUn uNeg (dC (.int 1))) dNil)))) (sName 6) (b_parted_2 M_turned_number M_trimmed))
    (dRet (dTup (dCons (dCall 1 M_trimmed (dCons (dVar 5) dNil)) (dCons (dCall 1 M_trimmed (dCons (dVar 4) dNil)) dNil)))))))))
noncomputable def m_parted:List D→M D:=fun ds=>okM (fin (g_parted m_turned_number m_trimmed (startN 10 ds)))
noncomputable def g_row_less (M_parted:List D→M D) (M_minus:List D→M D) (M_times:List D→M D):DS→Option Fl:=
  (dSeq (dSet 3 (dBin opIx (dCall 3 M_parted (dCons (dBin opIx (dVar 0) (dC (.int 0))) (dCons (dBin opIx (dVar 1) (dC (.int 0))) (dCons (dVar 2) dNil)))) (dC (.int 0))))
    (dRet (dOf (dComp 2 [2,3] (dZip (dCons (dVar 0) (dCons (dVar 1) dNil))) (sTup 2 (sCons (sName 0) (sCons (sName 1) sNil))) (fun _=>some (.ok true)) (dCall 3 M_minus (dCons (dVar 0) (dCons (dCall 3 M_times (dCons (dVar 3) (dCons (dVar 1) (dCons (dVar 2) dNil)))) (dCons (dVar 2) dNil))))))))
noncomputable def m_row_less:List D→M D:=fun ds=>okM (fin (g_row_less m_parted m_minus m_times (startN 4 ds)))
noncomputable def c_common_1 (M_row_less:List D→M D) (M_turned_number:List D→M D) (M_scaled:List D→M D):DS→M Bool:=
  (dtB (dBin cGt (dUn uLen (dBin opIx (dVar 4) (dC (.int 0)))) (dC (.int 0))))
noncomputable def b_common_2 (M_row_less:List D→M D) (M_turned_number:List D→M D) (M_scaled:List D→M D):DS→Option Fl:=
  (dSeq (dSet 5 (dCall 3 M_row_less (dCons (dVar 3) (dCons (dVar 4) (dCons (dVar 2) dNil)))))
    (dSeq (dSet 3 (dVar 4))
    (dSet 4 (dVar 5))))
noncomputable def g_common (M_row_less:List D→M D) (M_turned_number:List D→M D) (M_scaled:List D→M D):DS→Option Fl:=
  (dSeq (dSet 3 (dOf (dLst (dCons (dVar 0) (dCons (dC (.tup (([1]:List Int).map .int))) (dCons (dTup dNil) dNil))))))
    (dSeq (dSet 4 (dOf (dLst (dCons (dVar 1) (dCons (dTup dNil) (dCons (dC (.tup (([1]:List Int).map .int))) dNil))))))
    (dSeq (whileD (c_common_1 M_row_less M_turned_number M_scaled) (b_common_2 M_row_less M_turned_number M_scaled) 200)
    (dSeq (dIf (dtB (dBin cEq (dUn uLen (dBin opIx (dVar 3) (dC (.int 0)))) (dC (.int 0)))) (dRet (dTup (dCons (dTup dNil) (dCons (dTup dNil) (dCons (dTup dNil) dNil))))) dNext)
    (dSeq (dSet 6 (dCall 2 M_turned_number (dCons (dBin opIx (dBin opIx (dVar 3) (dC (.int 0))) (dUn uNeg (dC (.int 1)))) (dCons (dVar 2) dNil))))
    (dRet (dUn uTup (dOf (dComp 1 [6,2] (dIter (dVar 3)) (sName 0) (fun _=>some (.ok true)) (dCall 3 M_scaled (dCons (dVar 0) (dCons (dVar 1) (dCons (dVar 2) dNil)))))))))))))
noncomputable def m_common:List D→M D:=fun ds=>okM (fin (g_common m_row_less m_turned_number m_scaled (startN 7 ds)))
noncomputable def c_l_trim_1:DS→M Bool:=
  (dAnd (dtB (dBin cNe (dVar 1) (dOf (dLst dNil)))) (dtB (dBin cEq (dBin opIx (dVar 1) (dUn uNeg (dC (.int 1)))) (dC (.int 0)))))
noncomputable def b_l_trim_2:DS→Option Fl:=
  (dPop 1)
noncomputable def g_l_trim:DS→Option Fl:=
  (dSeq (dOwn 1 (dList1 (dVar 0)))
    (dSeq (whileD (c_l_trim_1) (b_l_trim_2) 200)
    (dRet (dUn uTup (dVar 1)))))
noncomputable def m_l_trim:List D→M D:=fun ds=>okM (fin (g_l_trim (startN 2 ds)))
noncomputable def b_l_times_1 (M_l_trim:List D→M D):DS→Option Fl:=
  (dStore 3 (dBin opAdd (dVar 4) (dVar 6)) (dBin (opC2 okMod fun i j=>i % j) (dBin opAdd (dBin opIx (dVar 3) (dBin opAdd (dVar 4) (dVar 6))) (dBin opMul (dVar 5) (dVar 7))) (dVar 2)))
noncomputable def b_l_times_2 (M_l_trim:List D→M D):DS→Option Fl:=
  (dFor (dEnum (dVar 1)) (sTup 2 (sCons (sName 6) (sCons (sName 7) sNil))) (b_l_times_1 M_l_trim))
noncomputable def g_l_times (M_l_trim:List D→M D):DS→Option Fl:=
  (dSeq (dOwn 3 (dBinF opMul (dOf (dLst (dCons (dC (.int 0)) dNil))) (dBin opAdd (dUn uLen (dVar 0)) (dUn uLen (dVar 1)))))
    (dSeq (dFor (dEnum (dVar 0)) (sTup 2 (sCons (sName 4) (sCons (sName 5) sNil))) (b_l_times_2 M_l_trim))
    (dRet (dCall 1 M_l_trim (dCons (dVar 3) dNil)))))
noncomputable def m_l_times:List D→M D:=fun ds=>okM (fin (g_l_times m_l_trim (startN 8 ds)))
noncomputable def c_l_rest_1 (M_l_trim:List D→M D):DS→M Bool:=
  (dtB (dBin cGe (dUn uLen (dVar 3)) (dUn uLen (dVar 1))))
noncomputable def b_l_rest_2 (M_l_trim:List D→M D):DS→Option Fl:=
  (dSeq (dSet 5 (dBin opMul (dBin opIx (dVar 3) (dUn uNeg (dC (.int 1)))) (dVar 4)))
    (dSeq (dSet 6 (dBin (opI2 fun i j=>i - j) (dUn uLen (dVar 3)) (dUn uLen (dVar 1))))
    (dSet 3 (dOf (dList1 (dCall 1 M_l_trim (dCons (dOf (dComp 2 [2,5,1,6] (dEnum (dVar 3)) (sTup 2 (sCons (sName 0) (sCons (sName 1) sNil))) (fun _=>some (.ok true)) (dBin (opC2 okMod fun i j=>i % j) (dBin (opI2 fun i j=>i - j) (dVar 1) (dBin opMul (dVar 3) (dBin opIx (dBin opAdd (dBin opMul (dTup (dCons (dC (.int 0)) dNil)) (dVar 5)) (dVar 4)) (dVar 0)))) (dVar 2)))) dNil)))))))
noncomputable def g_l_rest (M_l_trim:List D→M D):DS→Option Fl:=
  (dSeq (dSet 3 (dOf (dList1 (dVar 0))))
    (dSeq (dSet 4 (dBin opIx (dOf (dComp 1 [2,1] (dRange1 (dCons (dVar 2) dNil)) (sName 0) (dtB (dBin cEq (dBin (opC2 okMod fun i j=>i % j) (dBin opMul (dVar 0) (dBin opIx (dVar 2) (dUn uNeg (dC (.int 1))))) (dVar 1)) (dC (.int 1)))) (dVar 0))) (dC (.int 0))))
    (dSeq (whileD (c_l_rest_1 M_l_trim) (b_l_rest_2 M_l_trim) 200)
    (dRet (dUn uTup (dVar 3))))))
noncomputable def m_l_rest:List D→M D:=fun ds=>okM (fin (g_l_rest m_l_trim (startN 7 ds)))
noncomputable def g_rest_by (M_parted:List D→M D):DS→Option Fl:=
  (dRet (dBin opIx (dCall 3 M_parted (dCons (dVar 0) (dCons (dVar 1) (dCons (dVar 2) dNil)))) (dC (.int 1))))
noncomputable def m_rest_by:List D→M D:=fun ds=>okM (fin (g_rest_by m_parted (startN 3 ds)))
noncomputable def b_value_1:DS→Option Fl:=
  (dSet 3 (dBin (opC2 okMod fun i j=>i % j) (dBin opAdd (dBin opMul (dVar 3) (dVar 1)) (dVar 4)) (dVar 2)))
noncomputable def g_value:DS→Option Fl:=
  (dSeq (dSet 3 (dC (.int 0)))
    (dSeq (dFor (dRevI (dVar 0)) (sName 4) (b_value_1))
    (dRet (dVar 3))))
noncomputable def m_value:List D→M D:=fun ds=>okM (fin (g_value (startN 5 ds)))
noncomputable def g_roots (M_value:List D→M D):DS→Option Fl:=
  (dRet (dUn uTup (dOf (dComp 1 [0,1] (dRange1 (dCons (dVar 1) dNil)) (sName 0) (dtB (dBin cEq (dCall 3 M_value (dCons (dVar 1) (dCons (dVar 0) (dCons (dVar 2) dNil)))) (dC (.int 0)))) (dVar 0)))))
noncomputable def m_roots:List D→M D:=fun ds=>okM (fin (g_roots m_value (startN 2 ds)))
noncomputable def g_lone_power:DS→Option Fl:=
  (dRet (dBin opAdd (dBin opMul (dTup (dCons (dC (.int 0)) dNil)) (dVar 0)) (dC (.tup (([1]:List Int).map .int)))))
noncomputable def m_lone_power:List D→M D:=fun ds=>okM (fin (g_lone_power (startN 1 ds)))
noncomputable def g_slope (M_trimmed:List D→M D):DS→Option Fl:=
  (dSeq (dSet 2 (dOf (dComp 2 [1] (dEnum (dVar 0)) (sTup 2 (sCons (sName 0) (sCons (sName 1) sNil))) (fun _=>some (.ok true)) (dBin (opC2 okMod fun i j=>i % j) (dBin opMul (dVar 0) (dVar 1)) (dVar 2)))))
    (dRet (dCall 1 M_trimmed (dCons (dSlice (dVar 2) (dPart (dC (.int 1))) dNoPart) dNil))))
noncomputable def m_slope:List D→M D:=fun ds=>okM (fin (g_slope m_trimmed (startN 3 ds)))
noncomputable def c_cleared_1 (M_minus:List D→M D) (M_scaled:List D→M D):DS→M Bool:=
  (dAnd (dtB (dBin cGt (dUn uLen (dVar 3)) (dC (.int 0)))) (dtB (dBin cDIn (dUn uLen (dVar 3)) (dVar 1))))
noncomputable def b_cleared_2 (M_minus:List D→M D) (M_scaled:List D→M D):DS→Option Fl:=
  (dSeq (dSet 5 (dBin opGet (dVar 1) (dUn uLen (dVar 3))))
    (dSeq (dSet 6 (dBin opIx (dVar 3) (dUn uNeg (dC (.int 1)))))
    (dSeq (dSet 3 (dCall 3 M_minus (dCons (dVar 3) (dCons (dCall 3 M_scaled (dCons (dBin opIx (dVar 5) (dC (.int 0))) (dCons (dVar 6) (dCons (dVar 2) dNil)))) (dCons (dVar 2) dNil)))))
    (dSet 4 (dCall 3 M_minus (dCons (dVar 4) (dCons (dCall 3 M_scaled (dCons (dBin opIx (dVar 5) (dC (.int 1))) (dCons (dVar 6) (dCons (dVar 2) dNil)))) (dCons (dVar 2) dNil))))))))
noncomputable def g_cleared (M_minus:List D→M D) (M_scaled:List D→M D):DS→Option Fl:=
  (dSeq (dSet 3 (dBin opIx (dVar 0) (dC (.int 0))))
    (dSeq (dSet 4 (dBin opIx (dVar 0) (dC (.int 1))))
    (dSeq (whileD (c_cleared_1 M_minus M_scaled) (b_cleared_2 M_minus M_scaled) 200)
    (dRet (dTup (dCons (dVar 3) (dCons (dVar 4) dNil)))))))
noncomputable def m_cleared:List D→M D:=fun ds=>okM (fin (g_cleared m_minus m_scaled (startN 7 ds)))
noncomputable def b_steady_sum_1 (M_lone_power:List D→M D) (M_rest_by:List D→M D) (M_cleared:List D→M D) (M_minus:List D→M D) (M_turned_number:List D→M D) (M_scaled:List D→M D):DS→Option Fl:=
  (dSeq (dSet 4 (dCall 1 M_lone_power (dCons (dVar 3) dNil)))
    (dSeq (dSet 5 (dCall 3 M_rest_by (dCons (dCall 1 M_lone_power (dCons (dBin opMul (dVar 3) (dVar 1)) dNil)) (dCons (dVar 0) (dCons (dVar 1) dNil)))))
    (dSeq (dSet 6 (dCall 3 M_cleared (dCons (dTup (dCons (dCall 3 M_minus (dCons (dVar 5) (dCons (dVar 4) (dCons (dVar 1) dNil)))) (dCons (dVar 4) dNil))) (dCons (dVar 2) (dCons (dVar 1) dNil)))))
    (dSeq (dIf (dtB (dBin cEq (dUn uLen (dBin opIx (dVar 6) (dC (.int 0)))) (dC (.int 0)))) (dRet (dBin opIx (dVar 6) (dC (.int 1)))) dNext)
    (dSeq (dSet 7 (dCall 2 M_turned_number (dCons (dBin opIx (dBin opIx (dVar 6) (dC (.int 0))) (dUn uNeg (dC (.int 1)))) (dCons (dVar 1) dNil))))
    (dDPut 2 (dUn uLen (dBin opIx (dVar 6) (dC (.int 0)))) (dTup (dCons (dCall 3 M_scaled (dCons (dBin opIx (dVar 6) (dC (.int 0))) (dCons (dVar 7) (dCons (dVar 1) dNil)))) (dCons (dCall 3 M_scaled (dCons (dBin opIx (dVar 6) (dC (.int 1))) (dCons (dVar 7) (dCons (dVar 1) dNil)))) dNil)))))))))
noncomputable def g_steady_sum (M_lone_power:List D→M D) (M_rest_by:List D→M D) (M_cleared:List D→M D) (M_minus:List D→M D) (M_turned_number:List D→M D) (M_scaled:List D→M D):DS→Option Fl:=
  (dSeq (dOwd 2)
    (dSeq (dFor (dRange2 (dCons (dC (.int 1)) (dCons (dBin (opI2 fun i j=>i - j) (dUn uLen (dVar 0)) (dC (.int 1))) dNil))) (sName 3) (b_steady_sum_1 M_lone_power M_rest_by M_cleared M_minus M_turned_number M_scaled))
    (dRet (dC .non))))
noncomputable def m_steady_sum:List D→M D:=fun ds=>okM (fin (g_steady_sum m_lone_power m_rest_by m_cleared m_minus m_turned_number m_scaled (startN 8 ds)))
noncomputable def g_part_by_steady (M_steady_sum:List D→M D) (M_minus:List D→M D) (M_scaled:List D→M D) (M_common:List D→M D):DS→Option Fl:=
  (dSeq (dSet 2 (dCall 2 M_steady_sum (dCons (dVar 0) (dCons (dVar 1) dNil))))
    (dSeq (dIf (dtB (dUn uIsN (dVar 2))) (dRet (dC .non)) dNext)
    (dSeq (dSet 3 (dOf (dComp 1 [2,1] (dRange1 (dCons (dVar 1) dNil)) (sName 0) (fun _=>some (.ok true)) (dCall 3 M_minus (dCons (dVar 1) (dCons (dCall 3 M_scaled (dCons (dC (.tup (([1]:List Int).map .int))) (dCons (dVar 0) (dCons (dVar 2) dNil)))) (dCons (dVar 2) dNil)))))))
    (dRet (dUn uMaxLen (dOf (dComp 1 [0,1] (dIter (dVar 3)) (sName 0) (fun _=>some (.ok true)) (dBin opIx (dCall 3 M_common (dCons (dVar 1) (dCons (dVar 0) (dCons (dVar 2) dNil)))) (dC (.int 0))))))))))
noncomputable def m_part_by_steady:List D→M D:=fun ds=>okM (fin (g_part_by_steady m_steady_sum m_minus m_scaled m_common (startN 4 ds)))
noncomputable def g_part_of (M_roots:List D→M D) (M_slope:List D→M D) (M_common:List D→M D) (M_part_by_steady:List D→M D):DS→Option Fl:=
  (dSeq (dIf (dtB (dBin cLt (dUn uLen (dVar 0)) (dC (.int 3)))) (dRet (dC .non)) dNext)
    (dSeq (dSet 2 (dCall 2 M_roots (dCons (dVar 0) (dCons (dVar 1) dNil))))
    (dSeq (dIf (dtB (dBin cGt (dUn uLen (dVar 2)) (dC (.int 0)))) (dRet (dTup (dCons (dBin (opC2 okMod fun i j=>i % j) (dBin (opI2 fun i j=>i - j) (dVar 1) (dBin opIx (dVar 2) (dC (.int 0)))) (dVar 1)) (dCons (dC (.int 1)) dNil)))) dNext)
    (dSeq (dSet 3 (dCall 2 M_slope (dCons (dVar 0) (dCons (dVar 1) dNil))))
    (dSeq (dIf (dtB (dBin cEq (dUn uLen (dVar 3)) (dC (.int 0)))) (dRet (dBin opStep (dVar 0) (dVar 1))) dNext)
    (dSeq (dSet 4 (dBin opIx (dCall 3 M_common (dCons (dVar 0) (dCons (dVar 3) (dCons (dVar 1) dNil)))) (dC (.int 0))))
    (dSeq (dIf (dtB (dBin cGt (dUn uLen (dVar 4)) (dC (.int 1)))) (dRet (dVar 4)) dNext)
    (dRet (dCall 2 M_part_by_steady (dCons (dVar 0) (dCons (dVar 1) dNil)))))))))))
noncomputable def m_part_of:List D→M D:=fun ds=>okM (fin (g_part_of m_roots m_slope m_common m_part_by_steady (startN 5 ds)))
noncomputable def g_is_prime (M_part_of:List D→M D):DS→Option Fl:=
  (dRet (dAndV (dBin cGt (dUn uLen (dVar 0)) (dC (.int 1))) (dUn uIsN (dCall 2 M_part_of (dCons (dVar 0) (dCons (dVar 1) dNil))))))
noncomputable def m_is_prime:List D→M D:=fun ds=>okM (fin (g_is_prime m_part_of (startN 2 ds)))
noncomputable def b_l_wholes_1:DS→Option Fl:=
  (dSet 4 (dBin opAdd (dVar 4) (dOf (dComp 1 [5] (dRange1 (dCons (dVar 1) dNil)) (sName 0) (fun _=>some (.ok true)) (dBin opAdd (dVar 1) (dTup (dCons (dVar 0) dNil)))))))
noncomputable def b_l_wholes_2:DS→Option Fl:=
  (dSeq (dSet 4 (dOf (dLst dNil)))
    (dSeq (dFor (dIter (dVar 2)) (sName 5) (b_l_wholes_1))
    (dSet 2 (dVar 4))))
noncomputable def g_l_wholes:DS→Option Fl:=
  (dSeq (dSet 2 (dOf (dLst (dCons (dTup dNil) dNil))))
    (dSeq (dFor (dRange1 (dCons (dVar 0) dNil)) (sName 3) (b_l_wholes_2))
    (dRet (dOf (dComp 1 [] (dIter (dVar 2)) (sName 0) (fun _=>some (.ok true)) (dBin opAdd (dVar 0) (dTup (dCons (dC (.int 1)) dNil))))))))
noncomputable def m_l_wholes:List D→M D:=fun ds=>okM (fin (g_l_wholes (startN 6 ds)))
noncomputable def b_l_is_prime_1 (M_l_wholes:List D→M D) (M_l_rest:List D→M D):DS→Option Fl:=
  (dIf (dtB (dBin cNe (dOf (dComp 1 [0,1] (dIter (dCall 2 M_l_wholes (dCons (dVar 2) (dCons (dVar 1) dNil)))) (sName 0) (dtB (dBin cEq (dCall 3 M_l_rest (dCons (dVar 1) (dCons (dVar 0) (dCons (dVar 2) dNil)))) (dTup dNil))) (dVar 0))) (dOf (dLst dNil)))) (dRet (dC (.bl false))) dNext)
noncomputable def g_l_is_prime (M_l_wholes:List D→M D) (M_l_rest:List D→M D):DS→Option Fl:=
  (dSeq (dIf (dtB (dBin cLt (dUn uLen (dVar 0)) (dC (.int 2)))) (dRet (dC (.bl false))) dNext)
    (dSeq (dFor (dRange2 (dCons (dC (.int 1)) (dCons (dBin opAdd (dBin (opC2 okDiv fun i j=>i / j) (dBin (opI2 fun i j=>i - j) (dUn uLen (dVar 0)) (dC (.int 1))) (dC (.int 2))) (dC (.int 1))) dNil))) (sName 2) (b_l_is_prime_1 M_l_wholes M_l_rest))
    (dRet (dC (.bl true)))))
noncomputable def m_l_is_prime:List D→M D:=fun ds=>okM (fin (g_l_is_prime m_l_wholes m_l_rest (startN 3 ds)))
noncomputable def g_split (M_part_of:List D→M D) (M_parted:List D→M D):DS→Option Fl:=
  (dSeq (dSet 2 (dCall 2 M_part_of (dCons (dVar 0) (dCons (dVar 1) dNil))))
    (dSeq (dIf (dtB (dUn uIsN (dVar 2))) (dRet (dC .non)) dNext)
    (dRet (dTup (dCons (dVar 2) (dCons (dBin opIx (dCall 3 M_parted (dCons (dVar 0) (dCons (dVar 2) (dCons (dVar 1) dNil)))) (dC (.int 0))) dNil))))))
noncomputable def m_split:List D→M D:=fun ds=>okM (fin (g_split m_part_of m_parted (startN 3 ds)))
noncomputable def g_law_k21 (M_l_mixed:List D→M D) (M_l_sum:List D→M D) (M_l_times:List D→M D) (M_split:List D→M D) (M_is_prime:List D→M D) (M_l_is_prime:List D→M D) (M_l_is_long_sum:List D→M D):DS→Option Fl:=
  (dSeq (dSet 1 (dBin opIx (dTup (dCons (dC (.int 2)) (dCons (dC (.int 3)) (dCons (dC (.int 5)) dNil)))) (dBin (opC2 okMod fun i j=>i % j) (dCall 2 M_l_mixed (dCons (dVar 0) (dCons (dC (.int 0)) dNil))) (dC (.int 3)))))
    (dSeq (dSet 2 (dBin opGet (dC (.dic [.inl 2,.inl 3,.inl 5] [.int 9,.int 7,.int 6])) (dVar 1)))
    (dSeq (dSet 3 (dCall 3 M_l_sum (dCons (dCall 2 M_l_mixed (dCons (dVar 0) (dCons (dC (.int 1)) dNil))) (dCons (dVar 1) (dCons (dVar 2) dNil)))))
    (dSeq (dIf (dtB (dBin cEq (dBin (opC2 okMod fun i j=>i % j) (dCall 2 M_l_mixed (dCons (dVar 0) (dCons (dC (.int 2)) dNil))) (dC (.int 2))) (dC (.int 1)))) (dSeq (dSet 4 (dCall 3 M_l_sum (dCons (dCall 2 M_l_mixed (dCons (dVar 0) (dCons (dC (.int 3)) dNil))) (dCons (dVar 1) (dCons (dBin (opC2 okDiv fun i j=>i / j) (dVar 2) (dC (.int 2))) dNil)))))
    (dSeq (dSet 5 (dCall 3 M_l_sum (dCons (dCall 2 M_l_mixed (dCons (dVar 0) (dCons (dC (.int 4)) dNil))) (dCons (dVar 1) (dCons (dBin (opC2 okDiv fun i j=>i / j) (dVar 2) (dC (.int 2))) dNil)))))
    (dSet 3 (dCall 3 M_l_times (dCons (dVar 4) (dCons (dVar 5) (dCons (dVar 1) dNil))))))) dNext)
    (dSeq (dSet 6 (dCall 2 M_split (dCons (dVar 3) (dCons (dVar 1) dNil))))
    (dSeq (dSet 7 (dCall 2 M_is_prime (dCons (dVar 3) (dCons (dVar 1) dNil))))
    (dSeq (dIf (dOr (dNot (dtB (dUn (uIsiT "bool") (dVar 7)))) (dtB (dBin cNe (dVar 7) (dAndV (dBin cGt (dUn uLen (dVar 3)) (dC (.int 1))) (dUn uIsN (dVar 6)))))) (dRet (dC (.bl false))) dNext)
    (dSeq (dIf (dtB (dUn uIsN (dVar 6))) (dRet (dOrV (dBin cLt (dUn uLen (dVar 3)) (dC (.int 2))) (dCall 2 M_l_is_prime (dCons (dVar 3) (dCons (dVar 1) dNil))))) dNext)
    (dSeq (dIf (dOr (dNot (dtB (dUn (uIsiT "tuple") (dVar 6)))) (dtB (dBin cNe (dUn uLen (dVar 6)) (dC (.int 2))))) (dRet (dC (.bl false))) dNext)
    (dSeq (dIf (dtB (dBin cNe (dOf (dComp 1 [1] (dIter (dVar 6)) (sName 0) (dOr (dNot (dtB (dCall 2 M_l_is_long_sum (dCons (dVar 0) (dCons (dVar 1) dNil))))) (dtB (dBin cLt (dUn uLen (dVar 0)) (dC (.int 2))))) (dVar 0))) (dOf (dLst dNil)))) (dRet (dC (.bl false))) dNext)
    (dRet (dBin cEq (dCall 3 M_l_times (dCons (dBin opIx (dVar 6) (dC (.int 0))) (dCons (dBin opIx (dVar 6) (dC (.int 1))) (dCons (dVar 1) dNil)))) (dVar 3)))))))))))))
noncomputable def m_law_k21:List D→M D:=fun ds=>okM (fin (g_law_k21 m_l_mixed m_l_sum m_l_times m_split m_is_prime m_l_is_prime m_l_is_long_sum (startN 8 ds)))
end R
set_option Elab.async false
set_option linter.all false
set_option maxRecDepth 100000
set_option maxHeartbeats 4000000
namespace PF
open PySem L2
noncomputable def tupZ (l:List Int):D:=.tup (l.map .int)
noncomputable def cellZ (l:List Int) (k:Nat):Int:=l.getD k 0
theorem E_cell (l:List Int) (k:Nat) (j:Int) (hj:j=k):R.m_l_cell_at [.scr l,.int j]=some (.ok (.int (cellZ l k))):=by
  subst hj
  unfold R.m_l_cell_at R.g_l_cell_at
  by_cases h:k < l.length
  · have h':(k:Int) < l.length:=by (first|lia|omega)
    simp [h',atI_nat',cellZ,h]
  · have h':¬ (k:Int) < l.length:=by (first|lia|omega)
    simp [h',cellZ,h]
noncomputable def mixedZ (l:List Int) (k:Nat):Int:=
  let d:=(cellZ l k + 7919 * k + 1) * 48271 % 2147483647
  (d * d + 7 * d + k) % 2147483629
theorem mod_lt31 (a:Int):0 ≤ a % 2147483647∧a % 2147483647 < 2147483647:=⟨Int.emod_nonneg _ (by decide),Int.emod_lt_of_pos _ (by decide)⟩
theorem E_mixed (l:List Int) (k:Nat) (hk:k ≤ 100) (j:Int) (hj:j=k):R.m_l_mixed [.scr l,.int j]=some (.ok (.int (mixedZ l k))):=by
  subst hj
  unfold R.m_l_mixed R.g_l_mixed mixedZ
  have hd:=mod_lt31 ((cellZ l k + 7919 * k + 1) * 48271)
  have e1:okMul 7919 (k:Int)=true:=okMul_l (by decide) (by decide)
  have e2:∀ i:Int,okMul i 48271=true:=fun i=>okMul_r (by decide) (by decide)
  have e3:okMul ((cellZ l k + 7919 * k + 1) * 48271 % 2147483647) ((cellZ l k + 7919 * k + 1) * 48271 % 2147483647)=true:=okMul_l (by (clear e2 e1 hd hk; (first|lia|omega))) (by (clear e2 e1 hd hk; (first|lia|omega)))
  have e4:∀ i:Int,okMul 7 i=true:=fun i=>okMul_l (by decide) (by decide)
  simp [E_cell l k _ rfl,e1,e2,e3,e4]
theorem mixed_nn (l:List Int) (k:Nat):0 ≤ mixedZ l k∧mixedZ l k < 2147483629:=⟨Int.emod_nonneg _ (by decide),Int.emod_lt_of_pos _ (by decide)⟩
noncomputable def drawnZ (n k:Int):Int:=
  let d:=(n + 104729 * k + 17) * 69621 % 2147483647
  (d * d + 3 * d + k) % 2147483629
theorem E_drawn (n k:Int) (h0:0 ≤ k) (h1:k ≤ 100):R.m_l_drawn [.int n,.int k]=some (.ok (.int (drawnZ n k))):=by
  unfold R.m_l_drawn R.g_l_drawn drawnZ
  have hd:=mod_lt31 ((n + 104729 * k + 17) * 69621)
  have e1:okMul 104729 k=true:=okMul_l (by decide) (by decide)
  have e2:∀ i:Int,okMul i 69621=true:=fun i=>okMul_r (by decide) (by decide)
  have e3:okMul ((n + 104729 * k + 17) * 69621 % 2147483647) ((n + 104729 * k + 17) * 69621 % 2147483647)=true:=okMul_l (by (clear e2 e1 hd h1 h0; (first|lia|omega))) (by (clear e2 e1 hd h1 h0; (first|lia|omega)))
  have e4:∀ i:Int,okMul 3 i=true:=fun i=>okMul_l (by decide) (by decide)
  simp [e1,e2,e3,e4]
theorem drawn_nn (n k:Int):0 ≤ drawnZ n k∧drawnZ n k < 2147483629:=⟨Int.emod_nonneg _ (by decide),Int.emod_lt_of_pos _ (by decide)⟩
noncomputable def Red (p:Int) (l:List Int):Prop:=∀ x ∈ l,0 ≤ x∧x < p
noncomputable def Top (l:List Int):Prop:=l.getLast? ≠ some 0
noncomputable def Sm (p:Int) (l:List Int):Prop:=Red p l∧Top l
noncomputable def Clock (p:Int):Prop:=p=2∨p=3∨p=5
theorem Clock.two_le {p:Int} (h:Clock p):2 ≤ p∧p ≤ 5:=by rcases h with h | h | h <;> (first|lia|omega)
noncomputable def isNum (p:Int):D→Bool
  | .int i=>decide (0 ≤ i) && decide (i < p)
  | _=>false
theorem E_number (d:D) (p:Int):R.m_l_number [d,.int 0,.int (p - 1)]=some (.ok (.bl (isNum p d))):=by
  unfold R.m_l_number R.g_l_number
  cases d with
  | int i=>
    by_cases h:0 ≤ i
    · have e:(i ≤ p - 1)=(i < p):=by apply propext; (clear h; (first|lia|omega))
      simp [isNum,h,e]
    · simp [isNum,h]
  | _=>simp [isNum]
theorem loopD_cons {set:D→DS→Option DS} {g:DS→Option Fl} {d:D} {r:List D} {S S1 S2:DS} (h1:set d S=some S1) (h2:g S1=some (.next S2)):loopD set g (d :: r) S=loopD set g r S2:=by
  rw [loopD,h1]
  simp only
  rw [h2]
theorem loopD_inv {set:D→DS→Option DS} {g:DS→Option Fl} (P:Nat→DS→Prop):∀ (l:List D) (i:Nat) (S:DS),P i S→(∀ k d S,l[k]?=some d→P (i + k) S→∃ S1 S2,set d S=some S1∧g S1=some (.next S2)∧P (i + k + 1) S2)→
    ∃ S',loopD set g l S=some (.next S')∧P (i + l.length) S'
  | [],i,S,h0,_=>⟨S,rfl,h0⟩
  | d :: l,i,S,h0,hs=>by
    obtain ⟨S1,S2,e1,e2,p⟩:=hs 0 d S rfl h0
    rw [loopD_cons e1 e2]
    obtain ⟨S',e,q⟩:=loopD_inv P l (i + 1) S2 p fun k d S h hp=>by
      have z:i + 1 + k=i + (k + 1):=by (clear hp h p e2 e1 hs h0; (first|lia|omega))
      obtain ⟨S1,S2,e1,e2,p⟩:=hs (k + 1) d S (by simpa using h) (z ▸ hp)
      exact ⟨S1,S2,e1,e2,by rw [z]; exact p⟩
    have z:i + (d :: l).length=i + 1 + l.length:=by simp; (first|lia|omega)
    refine ⟨S',e,?_⟩
    rw [z]; exact q
theorem loopD_inv0 {set:D→DS→Option DS} {g:DS→Option Fl} (P:Nat→DS→Prop) {l:List D} {S:DS} (h0:P 0 S) (hs:∀ k d S,l[k]?=some d→P k S→∃ S1 S2,set d S=some S1∧g S1=some (.next S2)∧P (k + 1) S2) :
    ∃ S',loopD set g l S=some (.next S')∧P l.length S':=by
  have:=loopD_inv P l 0 S h0 (fun k d S h p=>by
    rw [Nat.zero_add] at p ⊢
    exact hs k d S h p)
  rw [Nat.zero_add] at this
  exact this
theorem rangeD_get {lo hi:Int} {k:Nat} {d:D} (h:(rangeD lo hi)[k]?=some d):d=.int (lo + k)∧(k:Int) < hi - lo:=by
  unfold rangeD at h
  rw [List.getElem?_map] at h
  cases q:(List.range (hi - lo).toNat)[k]? with
  | none=>rw [q] at h; cases h
  | some j=>
    rw [q] at h
    have q':=List.getElem?_eq_some_iff.mp q
    obtain ⟨h1,h2⟩:=q'
    rw [List.getElem_range] at h2
    rw [List.length_range] at h1
    subst h2
    simp at h
    exact ⟨h.symm,by (clear h q; (first|lia|omega))⟩
theorem rangeD_len (lo hi:Int):(rangeD lo hi).length=(hi - lo).toNat:=by simp [rangeD]
theorem ixN_neg1 {n:Nat} (h:0 < n):ixN n (-1)=some (n - 1):=by
  unfold ixN
  rw [if_neg (by (clear h; (first|lia|omega))),if_pos (by (first|lia|omega))]
  congr 1
  (clear h; (first|lia|omega))
theorem Red.set {p:Int} {l:List Int} (h:Red p l) {x:Int} (hx:0 ≤ x∧x < p) (i:Nat):Red p (l.set i x):=fun y hy=>by
  rcases List.mem_or_eq_of_mem_set hy with h1 | h1
  · exact h y h1
  · subst h1; exact hx
theorem Red.snoc {p:Int} {l:List Int} (h:Red p l) {x:Int} (hx:0 ≤ x∧x < p):Red p (l ++ [x]):=fun y hy=>by
  rcases List.mem_append.mp hy with h1 | h1
  · exact h y h1
  · simp at h1; subst h1; exact hx
theorem L_sum {p:Int} (hp:Clock p) (n most:Int) (m:Nat) (hm:m ≤ 90) :
    ∃ (l:List Int) (v5 v6:Option Slot),loopD (sName 5) (R.b_l_sum_1 R.m_l_drawn) (rangeD 0 m) [some (.val (.int n)),some (.val (.int p)),some (.val (.int most)),some (.val (.int m)),some (.own []),none,none] =
      some (.next [some (.val (.int n)),some (.val (.int p)),some (.val (.int most)),some (.val (.int m)),some (.own (l.map D.int)),v5,v6])∧l.length=m∧Red p l:=by
  have hp2:=hp.two_le
  obtain ⟨S',e,l,v5,v6,hS,hl,hr⟩:=loopD_inv0 (set:=sName 5) (g:=R.b_l_sum_1 R.m_l_drawn)
    (fun k S=>∃ (l:List Int) (v5 v6:Option Slot),S=[some (.val (.int n)),some (.val (.int p)),some (.val (.int most)),some (.val (.int m)),some (.own (l.map D.int)),v5,v6]∧l.length=k∧Red p l)
    (l:=rangeD 0 m) (S:=[some (.val (.int n)),some (.val (.int p)),some (.val (.int most)),some (.val (.int m)),some (.own []),none,none])
    ⟨[],none,none,rfl,rfl,fun x h=>by simp at h⟩ (fun k d S hk ⟨l,v5,v6,hS,hl,hr⟩=>by
      obtain ⟨rfl,hk2⟩:=rangeD_get hk
      subst hS
      have kb:(k:Int) ≤ 100:=by (clear hk hr hl hp2 hp; (first|lia|omega))
      rw [Int.zero_add]
      have hd:=drawn_nn n k
      have hz:0 ≤ drawnZ n k / 8 % p∧drawnZ n k / 8 % p < p:=⟨Int.emod_nonneg _ (by (clear hd kb hk hk2 hr hl hm hp; (first|lia|omega))),Int.emod_lt_of_pos _ (by (clear hd kb hk hk2 hr hl hm hp; (first|lia|omega)))⟩
      have hpp:0 < p:=by (clear hz hd kb hk hk2 hr hl hm hp; (first|lia|omega))
      refine ⟨_,_,rfl,?_,l ++ [drawnZ n k / 8 % p * (if (decide (n / 16 % 3 > 0) || (drawnZ n k % 3 == 0))=true then 1 else 0)],some (.val (.int k)),some (.val (.int (drawnZ n k))),rfl,?_,?_⟩
      · have e1:∀ j:Int,okMul (drawnZ n k / 8 % p) j=true:=fun j=>okMul_l (by (clear hpp hd kb hk hk2 hr hl hp2 hm hp; (first|lia|omega))) (by (clear hpp hd kb hk hk2 hr hl hm hp; (first|lia|omega)))
        have e2:l.length < 100000:=by (clear e1 hpp hz hd kb hk hr hp2 hp; (first|lia|omega))
        have e3:=E_drawn n k (by (clear e2 e1 hpp hz hd kb hk hk2 hr hl hp2 hm hp; (first|lia|omega))) (by (clear e2 e1 hpp hz hd kb hk hr hl hp2 hp; (first|lia|omega)))
        unfold R.b_l_sum_1
        by_cases c1:n / 16 % 3 > 0
        · simp [e3,hpp,c1,e1,e2]
        · by_cases c2:drawnZ n k % 3=0
          · simp [e3,hpp,c1,c2,e1,e2]
          · simp [e3,hpp,c1,c2,e1,e2]
      · simp [hl]
      · refine hr.snoc ?_
        split <;> (clear hpp hd kb hk hk2 hr hl hm hp; (first|lia|omega)))
  subst hS
  rw [rangeD_len] at hl
  exact ⟨l,v5,v6,e,by (clear e hr hp2 hm hp; (first|lia|omega)),hr⟩
theorem E_sum {p:Int} (hp:Clock p) (n most:Int) (h0:0 ≤ n) (m0:0 ≤ most) (m1:most ≤ 20) :
    ∃ l,Sm p l∧(l.length:Int)=n % (most + 1)∧R.m_l_sum [.int n,.int p,.int most]=some (.ok (tupZ l)):=by
  have hp2:=hp.two_le
  have hm:=Int.emod_nonneg n (show most + 1 ≠ 0 by (clear hp2 m1 h0 hp; (first|lia|omega)))
  have hm2:=Int.emod_lt_of_pos n (show 0 < most + 1 by (clear hm hp2 m1 h0 hp; (first|lia|omega)))
  have hq:(0:Int) < most + 1:=by (clear hm2 hm hp2 m1 h0 hp; (first|lia|omega))
  obtain ⟨m,em⟩:∃ m:Nat,n % (most + 1)=m:=⟨(n % (most + 1)).toNat,by (clear hq hm2 hp2 m1 m0 h0 hp; (first|lia|omega))⟩
  have hmm:m ≤ 90:=by (clear hq hm hp2 m0 h0 hp; (first|lia|omega))
  have hm9:-1000000000 ≤ (m:Int)∧(m:Int) ≤ 1000000000:=by (clear hmm hq hm hp2 m0 h0 hp; (first|lia|omega))
  obtain ⟨l,v5,v6,e,hl,hr⟩:=L_sum hp n most m hmm
  unfold R.m_l_sum R.g_l_sum
  rw [em]
  by_cases c:0 < m
  · have c':(0:Int) < m:=by (clear hr hl e hm9 hmm em hq hm2 hm hp2 m1 m0 h0 hp; (first|lia|omega))
    have hne:0 < l.length:=by (clear c' hr e hm9 hmm em hq hm2 hm hp2 m1 m0 h0 hp; (first|lia|omega))
    have hq2:0 < p - 1:=by (clear hne c' c hr hl e hm9 hmm em hq hm2 hm m1 m0 h0 hp; (first|lia|omega))
    have hz:0 ≤ drawnZ n 40 % (p - 1)∧drawnZ n 40 % (p - 1) < p - 1:=⟨Int.emod_nonneg _ (by (clear hq2 hne c' c hr hl e hm9 hmm em hq hm2 hm m1 m0 h0 hp; (first|lia|omega))),Int.emod_lt_of_pos _ (by (clear hq2 hne c' c hr hl e hm9 hmm em hq hm2 hm m1 m0 h0 hp; (first|lia|omega)))⟩
    refine ⟨l.set (l.length - 1) (1 + drawnZ n 40 % (p - 1)),⟨hr.set (by (clear hq2 hne c' c hr hl e hm9 hmm em hq hm2 hm hp2 m1 m0 h0 hp; (first|lia|omega))) _,?_⟩,by simp; (clear hz hq2 hne c' c hr e hm9 hmm em hq hm2 hm hp2 m1 m0 h0 hp; (first|lia|omega)),?_⟩
    · unfold Top
      rw [List.getLast?_eq_getElem?]
      simp
      rw [List.getElem?_set_self (by (clear hz hq2 hne c' hr e hm9 hmm em hq hm2 hm hp2 m1 m0 h0 hp; (first|lia|omega)))]
      simp
      (clear hq2 hne c' c hr hl e hm9 hmm em hq hm2 hm hp2 m1 m0 h0 hp; (first|lia|omega))
    · simp [show (1:Int) < p by (clear hz hq2 hne c' c hr hl e hm9 hmm em hq hm2 hm m1 m0 h0 hp; (first|lia|omega)),c,em,hq,hm9,e,c',ixN_neg1 hne,E_drawn n 40 (by decide) (by decide),hq2,tupZ]
  · have hz:l=[]:=List.eq_nil_of_length_eq_zero (by (clear hr e hm9 hmm em hq hm2 hm hp2 m1 m0 h0 hp; (first|lia|omega)))
    have hm0:m=0:=by (clear hz hr hl e hm9 hmm em hq hm2 hm hp2 m1 m0 h0 hp; (first|lia|omega))
    subst hz
    subst hm0
    refine ⟨[],⟨fun x h=>by simp at h,by simp [Top]⟩,by simp,?_⟩
    simp at e
    simp [em,hq,hm9,e,tupZ]
end PF
set_option Elab.async false
set_option linter.all false
set_option maxRecDepth 100000
set_option maxHeartbeats 4000000
namespace PF
open PySem L2
noncomputable def Fine (d:D):Prop:=dep d ≤ 40∧∀ l,d=.tup l→l.length ≤ 1000
noncomputable def isLong (p:Int):D→Bool
  | .tup l=>l.all (isNum p) && (l.isEmpty || (match l.getLast? with | some (.int i)=>!decide (i=0) | _=>true))
  | _=>false
theorem last_int {p:Int} {l:List D} (h:l.all (isNum p)=true) (hne:l ≠ []):∃ i:Int,l.getLast?=some (.int i):=by
  have hm:l.getLast hne ∈ l:=List.getLast_mem hne
  have q:=List.all_eq_true.mp h _ hm
  rw [List.getLast?_eq_some_getLast hne]
  cases z:l.getLast hne with
  | int i=>exact ⟨i,rfl⟩
  | _=>rw [z] at q; cases q
theorem dep_filter {l:List D} {f:D→Bool}:deps (l.filter f) ≤ deps l:=by
  induction l with
  | nil=>exact Nat.le_refl _
  | cons d l ih=>
    rw [List.filter_cons,deps]
    split
    · rw [deps]; (first|lia|omega)
    · (first|lia|omega)
theorem deq_lst_nil (l:List D):deq (.lst l) (.lst [])=l.isEmpty:=by
  cases l with
  | nil=>simp [deq,deqs]
  | cons a l=>simp [deq,deqs]
theorem deq_tup_nil (l:List D):deq (.tup l) (.tup [])=l.isEmpty:=by
  cases l with
  | nil=>simp [deq,deqs]
  | cons a l=>simp [deq,deqs]
theorem cNe_lst_nil (l:List D) (h:deps l ≤ 90):cNe (.lst l) (.lst [])=some (.bl (!l.isEmpty)):=by
  unfold cNe
  rw [if_pos (by simp [dep,deps]; (first|lia|omega)),deq_lst_nil]
theorem cEq_tup_nil (l:List D) (h:deps l ≤ 90):cEq (.tup l) (.tup [])=some (.bl l.isEmpty):=by
  unfold cEq
  rw [if_pos (by simp [dep,deps]; (first|lia|omega)),deq_tup_nil]
theorem filter_empty {α:Type} (l:List α) (f:α→Bool):(l.filter fun x=>!f x).isEmpty=l.all f:=by
  induction l with
  | nil=>rfl
  | cons a l ih=>
    rw [List.filter_cons,List.all_cons]
    cases q:f a <;> simp [ih]
theorem E_long (d:D) (p:Int) (h:Fine d):R.m_l_is_long_sum [d,.int p]=some (.ok (.bl (isLong p d))):=by
  unfold R.m_l_is_long_sum R.g_l_is_long_sum
  cases d with
  | tup l=>
    have hl:=h.2 l rfl
    have hd:deps l ≤ 39:=by have:=h.1; rw [dep] at this; (clear hl h; (first|lia|omega))
    have e3:l.length ≤ 100000:=by (clear hd h; (first|lia|omega))
    have e2:=compD_filter (set:=sName 0) (t:=dNot (dtB (dCall 3 R.m_l_number (dCons (dVar 0) (dCons (dC (.int 0)) (dCons (dBin (opI2 fun i j=>i - j) (dVar 1) (dC (.int 1))) dNil)))))) (fe:=dVar 0) (γ:=D) id id (fun d=>!isNum p d) (fun o=>[o,some (.val (.int p))]) l none
        (fun a o _=>rfl) (fun a _=>by simp [E_number]) (fun a _=>rfl)
    simp only [List.map_id] at e2
    have e4:=cNe_lst_nil (l.filter fun d=>!isNum p d) (by have:=dep_filter (l:=l) (f:=fun d=>!isNum p d); (clear e2 e3 hl h; (first|lia|omega)))
    rw [filter_empty] at e4
    have e5:=cEq_tup_nil l (by (clear e4 e2 e3 hl h; (first|lia|omega)))
    simp only [dSeq_e,dIf_e,dOr_e,dNot_e,dtB_e,dUn_e,dVar_e,startN_2,rep_0,List.getElem?_cons_zero,List.getElem?_cons_succ,mb_ok,toD_ok,uIsiT_e,tyN_tup,isi_tt,vr_some,dBin_e,uLen_tup,dC_e,cGt_e,dNext_e,dOf_e,dComp_e,dIter_e,items_tup,cap_e]
    by_cases c2:l.all (isNum p)=true
    · rw [c2] at e4
      by_cases c3:l=[]
      · subst c3
        simp at e2 e4 e5
        simp [e2,e4,e5,isLong]
      · obtain ⟨i,hi⟩:=last_int c2 c3
        have c3':l.isEmpty=false:=by simpa using c3
        rw [c3'] at e5
        simp [e2,e3,e4,e5,atI_last,hi,isLong,c2,c3']
    · have c2f:l.all (isNum p)=false:=by simpa using c2
      rw [c2f] at e4
      simp [e2,e3,e4,isLong,c2f]
  | _=>simp [isLong]
theorem deps_le {l:List D} {n:Nat} (h:∀ d ∈ l,dep d ≤ n):deps l ≤ n:=by
  induction l with
  | nil=>exact Nat.zero_le _
  | cons a l ih=>
    rw [deps]
    have:=h a (by simp)
    have:=ih fun d hd=>h d (by simp [hd])
    (clear h ih; (first|lia|omega))
noncomputable def Flat (n:Nat) (l:List D):Prop:=l.length ≤ n∧∀ d ∈ l,dep d ≤ 5
theorem Flat.ints {l:List Int} {n:Nat} (h:l.length ≤ n):Flat n (l.map D.int):=⟨by simpa using h,fun d hd=>by
  obtain ⟨i,_,rfl⟩:=List.mem_map.mp hd
  simp [dep]⟩
theorem Flat.one {d:D} (h:dep d ≤ 5):Flat 1 [d]:=⟨by simp,fun x hx=>by simp at hx; subst hx; exact h⟩
theorem Flat.fine {l:List D} {n:Nat} (h:Flat n l) (hn:n ≤ 1000):Fine (.tup l)∧Fine (.lst l):=by
  have:=deps_le h.2
  refine ⟨⟨by rw [dep]; (clear hn h; (first|lia|omega)),fun l' e=>?_⟩,⟨by rw [dep]; (clear hn h; (first|lia|omega)),fun l' e=>by cases e⟩⟩
  injection e with e; subst e
  exact Nat.le_trans h.1 hn
theorem size_of (ns:List Int):∃ p,Clock p∧∀ {S:DS} (hS:S[0]?=some (some (.val (.scr ns)))),dBin opIx (dTup (dCons (dC (.int 2)) (dCons (dC (.int 3)) (dCons (dC (.int 5)) dNil)))) (dBin (opC2 okMod fun i j=>i % j) (dCall 2 R.m_l_mixed (dCons (dVar 0) (dCons (dC (.int 0)) dNil))) (dC (.int 3))) S=some (.ok (.ok (.int p))):=by
  have h1:=Int.emod_nonneg (mixedZ ns 0) (show (3:Int) ≠ 0 by decide)
  have h2:=Int.emod_lt_of_pos (mixedZ ns 0) (show (0:Int) < 3 by decide)
  have e:=E_mixed ns 0 (by decide) 0 rfl
  have hk:mixedZ ns 0 % 3=0∨mixedZ ns 0 % 3=1∨mixedZ ns 0 % 3=2:=by (clear e h2 h1; (first|lia|omega))
  rcases hk with hk | hk | hk
  · exact ⟨2,.inl rfl,fun {S} hS=>by simp [hS,e,hk,atI_nat']⟩
  · exact ⟨3,.inr (.inl rfl),fun {S} hS=>by simp [hS,e,hk,atI_nat']⟩
  · exact ⟨5,.inr (.inr rfl),fun {S} hS=>by simp [hS,e,hk,atI_nat']⟩
end PF
namespace K01
open PySem L2 PF
end K01
set_option Elab.async false
set_option linter.all false
set_option maxRecDepth 10000
namespace PA
open Lean.Grind
structure Ser (R:Type) where
  c:Nat→R
section
variable {R:Type} [CommRing R]
@[ext] theorem Ser.ext {f g:Ser R} (h:∀ k,f.c k=g.c k):f=g:=by
  cases f; cases g; congr; exact funext h
noncomputable def sh (f:Nat→R):Nat→R:=fun k=>f (k + 1)
noncomputable def cv:(Nat→R)→(Nat→R)→Nat→R
  | f,g,0=>f 0 * g 0
  | f,g,n + 1=>f 0 * g (n + 1) + cv (sh f) g n
theorem cv_add (f f' g:Nat→R) (n:Nat):cv (fun k=>f k + f' k) g n=cv f g n + cv f' g n:=by
  induction n generalizing f f' with
  | zero=>simp only [cv]; grind
  | succ n ih=>
    rw [cv,cv,cv]
    have e:sh (fun k=>f k + f' k)=fun k=>sh f k + sh f' k:=rfl
    rw [e,ih (sh f) (sh f')]; grind
theorem cv_add' (f g g':Nat→R) (n:Nat):cv f (fun k=>g k + g' k) n=cv f g n + cv f g' n:=by
  induction n generalizing f with
  | zero=>simp only [cv]; grind
  | succ n ih=>simp only [cv]; rw [ih (sh f)]; grind
theorem cv_mul (a:R) (f g:Nat→R) (n:Nat):cv (fun k=>a * f k) g n=a * cv f g n:=by
  induction n generalizing f with
  | zero=>simp only [cv]; grind
  | succ n ih=>
    rw [cv,cv]
    have e:sh (fun k=>a * f k)=fun k=>a * sh f k:=rfl
    rw [e,ih (sh f)]; grind
theorem cv_last (f g:Nat→R) (n:Nat):cv f g (n + 1)=cv f (sh g) n + f (n + 1) * g 0:=by
  induction n generalizing f with
  | zero=>simp only [cv,sh]
  | succ n ih=>
    rw [cv,ih (sh f)]
    simp only [cv,sh]
    grind
theorem cv_comm (f g:Nat→R) (n:Nat):cv f g n=cv g f n:=by
  induction n generalizing f g with
  | zero=>simp only [cv]; grind
  | succ n ih=>
    rw [cv,cv_last g f,ih (sh f) g]; grind
theorem cv_assoc (f g h:Nat→R) (n:Nat):cv (cv f g) h n=cv f (cv g h) n:=by
  induction n generalizing f with
  | zero=>simp only [cv]; grind
  | succ n ih=>
    have e:sh (cv f g)=fun k=>f 0 * sh g k + cv (sh f) g k:=funext fun k=>by simp only [sh,cv]
    have e1:=cv_add (fun k=>f 0 * sh g k) (cv (sh f) g) h n
    have e2:=cv_mul (f 0) (sh g) h n
    have e3:=ih (sh f)
    rw [cv,e,e1,e2,e3]
    simp only [cv]
    grind
theorem cv_zero (g:Nat→R) (n:Nat):cv (fun _=>(0:R)) g n=0:=by
  induction n with
  | zero=>simp only [cv]; grind
  | succ n ih=>
    have e:sh (fun _:Nat=>(0:R))=fun _=>0:=rfl
    rw [cv,e,ih]; grind
noncomputable def onec:Nat→R:=fun k=>if k=0 then 1 else 0
theorem sh_one:sh (onec:Nat→R)=fun _=>0:=funext fun k=>by simp [sh,onec]
theorem cv_one (g:Nat→R) (n:Nat):cv onec g n=g n:=by
  cases n with
  | zero=>simp only [cv,onec]; grind
  | succ n=>
    rw [cv,sh_one,cv_zero]
    simp only [onec]; grind
noncomputable instance:Add (Ser R):=⟨fun f g=>⟨fun k=>f.c k + g.c k⟩⟩
noncomputable instance:Mul (Ser R):=⟨fun f g=>⟨cv f.c g.c⟩⟩
noncomputable instance:Neg (Ser R):=⟨fun f=>⟨fun k=>- f.c k⟩⟩
noncomputable instance:Sub (Ser R):=⟨fun f g=>⟨fun k=>f.c k - g.c k⟩⟩
noncomputable def Cn (a:R):Ser R:=⟨fun k=>if k=0 then a else 0⟩
noncomputable instance (n:Nat):OfNat (Ser R) n:=⟨Cn (OfNat.ofNat n)⟩
noncomputable def nc (n:Nat):R:=(Semiring.natCast (α:=R)).natCast n
noncomputable def ic (i:Int):R:=(Ring.intCast (α:=R)).intCast i
noncomputable instance:NatCast (Ser R):=⟨fun n=>Cn (nc n)⟩
noncomputable instance:IntCast (Ser R):=⟨fun n=>Cn (ic n)⟩
noncomputable def npw (f:Ser R):Nat→Ser R
  | 0=>1
  | n + 1=>npw f n * f
noncomputable instance:HPow (Ser R) Nat (Ser R):=⟨npw⟩
noncomputable instance:SMul Nat (Ser R):=⟨fun n f=>(n:Ser R) * f⟩
noncomputable instance:SMul Int (Ser R):=⟨fun n f=>(n:Ser R) * f⟩
theorem add_c (f g:Ser R) (k:Nat):(f + g).c k=f.c k + g.c k:=rfl
theorem sub_c (f g:Ser R) (k:Nat):(f - g).c k=f.c k - g.c k:=rfl
theorem neg_c (f:Ser R) (k:Nat):(-f).c k=- f.c k:=rfl
theorem mul_c (f g:Ser R) (k:Nat):(f * g).c k=cv f.c g.c k:=rfl
theorem zero_c (k:Nat):(0:Ser R).c k=0:=by
  show (if k=0 then (OfNat.ofNat 0:R) else 0)=0
  split <;> rfl
theorem zero_eq:(0:Ser R).c=fun _=>(0:R):=funext zero_c
theorem one_eq:(1:Ser R).c=onec:=rfl
theorem sm_mul (f g:Ser R):f * g=g * f:=Ser.ext fun k=>cv_comm _ _ k
theorem Cn_neg (a:R):Cn (-a)=- Cn a:=Ser.ext fun k=>by
  show (if k=0 then -a else 0)=-(if k=0 then a else 0)
  split <;> grind
noncomputable instance:CommRing (Ser R) where
  add_zero f:=Ser.ext fun k=>by rw [add_c,zero_c]; grind
  add_comm f g:=Ser.ext fun k=>by rw [add_c,add_c]; grind
  add_assoc f g h:=Ser.ext fun k=>by simp only [add_c]; grind
  mul_assoc f g h:=Ser.ext fun k=>cv_assoc _ _ _ k
  mul_one f:=by rw [sm_mul]; exact Ser.ext fun k=>by rw [mul_c,one_eq,cv_one]
  one_mul f:=Ser.ext fun k=>by rw [mul_c,one_eq,cv_one]
  left_distrib f g h:=Ser.ext fun k=>cv_add' _ _ _ k
  right_distrib f g h:=Ser.ext fun k=>cv_add _ _ _ k
  zero_mul f:=Ser.ext fun k=>by rw [mul_c,zero_eq,cv_zero]
  mul_zero f:=by rw [sm_mul]; exact Ser.ext fun k=>by rw [mul_c,zero_eq,cv_zero]
  pow_zero f:=rfl
  pow_succ f n:=rfl
  ofNat_succ n:=Ser.ext fun k=>by
    rw [add_c]
    show (if k=0 then (OfNat.ofNat (n + 1):R) else 0)=(if k=0 then (OfNat.ofNat n:R) else 0) + (if k=0 then (OfNat.ofNat 1:R) else 0)
    split
    · exact Semiring.ofNat_succ n
    · grind
  ofNat_eq_natCast n:=Ser.ext fun k=>by
    show (if k=0 then (OfNat.ofNat n:R) else 0)=(if k=0 then (nc n:R) else 0)
    rw [show (OfNat.ofNat n:R)=nc n from Semiring.ofNat_eq_natCast n]
  nsmul_eq_natCast_mul n f:=rfl
  neg_add_cancel f:=Ser.ext fun k=>by rw [add_c,neg_c,zero_c]; grind
  sub_eq_add_neg f g:=Ser.ext fun k=>by rw [add_c,neg_c,sub_c]; grind
  neg_zsmul i f:=by
    show ((-i:Int):Ser R) * f=-((i:Ser R) * f)
    have e:((-i:Int):Ser R)=- (i:Ser R):=by
      show Cn (ic (-i):R)=- Cn (ic i:R)
      rw [show (ic (-i):R)=- ic i from Ring.intCast_neg i,Cn_neg]
    rw [e]
    refine Ser.ext fun k=>?_
    rw [neg_c,mul_c,mul_c]
    have e2:(-(i:Ser R)).c=fun k=>(-1:R) * (i:Ser R).c k:=funext fun k=>by rw [neg_c]; grind
    rw [e2,cv_mul]; grind
  zsmul_natCast_eq_nsmul n f:=by
    show ((n:Int):Ser R) * f=(n:Ser R) * f
    have e:((n:Int):Ser R)=(n:Ser R):=by
      show Cn (ic (n:Int):R)=Cn (nc n:R)
      rw [show (ic (n:Int):R)=nc n from Ring.intCast_natCast n]
    rw [e]
  intCast_ofNat n:=by
    show Cn (ic (OfNat.ofNat n:Int):R)=Cn (OfNat.ofNat n:R)
    rw [show (ic (OfNat.ofNat n:Int):R)=OfNat.ofNat n from Ring.intCast_ofNat n]
  intCast_neg i:=by
    show Cn (ic (-i):R)=- Cn (ic i:R)
    rw [show (ic (-i):R)=- ic i from Ring.intCast_neg i,Cn_neg]
  mul_comm f g:=sm_mul f g
example (f g h:Ser R):(f + g) * h - g * h=h * f:=by grind
noncomputable def mn (a:R) (k:Nat):Ser R:=⟨fun n=>if n=k then a else 0⟩
theorem mn_sh (a:R) (k:Nat):sh (mn a (k + 1)).c=(mn a k).c:=funext fun n=>by simp [sh,mn]
theorem mn_mul (a:R) (k:Nat) (f:Ser R) (n:Nat):(mn a k * f).c n=if k ≤ n then a * f.c (n - k) else 0:=by
  rw [mul_c]
  induction k generalizing n with
  | zero=>
    have e:(mn a 0).c=fun j=>a * onec j:=funext fun j=>by simp only [mn,onec]; split <;> grind
    rw [e,cv_mul,cv_one]; simp
  | succ k ih=>
    cases n with
    | zero=>simp [cv,mn]; grind
    | succ n=>
      rw [cv,mn_sh,ih]
      have e:(mn a (k + 1)).c 0=0:=by simp [mn]
      rw [e]
      simp; grind
theorem mn_mn (a b:R) (j k:Nat):mn a j * mn b k=mn (a * b) (j + k):=Ser.ext fun n=>by
  rw [mn_mul]
  simp only [mn]
  by_cases h:n=j + k
  · subst h; simp
  · rw [if_neg h]
    split
    · rw [if_neg (by (first|lia|omega))]; grind
    · rfl
theorem mn_zero (k:Nat):(mn 0 k:Ser R)=0:=Ser.ext fun n=>by rw [zero_c]; simp [mn]
theorem mn_one:(mn 1 0:Ser R)=1:=rfl
noncomputable def Bd (f:Ser R) (n:Nat):Prop:=∀ k,n ≤ k→f.c k=0
theorem Bd.mono {f:Ser R} {n m:Nat} (h:Bd f n) (l:n ≤ m):Bd f m:=fun k hk=>h k (Nat.le_trans l hk)
theorem Bd.zero (n:Nat):Bd (0:Ser R) n:=fun k _=>zero_c k
theorem Bd.add {f g:Ser R} {n:Nat} (h:Bd f n) (h':Bd g n):Bd (f + g) n:=fun k hk=>by rw [add_c,h k hk,h' k hk]; grind
theorem Bd.sub {f g:Ser R} {n:Nat} (h:Bd f n) (h':Bd g n):Bd (f - g) n:=fun k hk=>by rw [sub_c,h k hk,h' k hk]; grind
theorem Bd.mn (a:R) (k:Nat):Bd (mn a k) (k + 1):=fun n hn=>by simp only [PA.mn]; rw [if_neg (by (first|lia|omega))]
theorem Bd.eq0 {f:Ser R} (h:Bd f 0):f=0:=Ser.ext fun k=>by rw [zero_c]; exact h k (Nat.zero_le _)
noncomputable def low (f:Ser R) (n:Nat):Ser R:=⟨fun k=>if k < n then f.c k else 0⟩
theorem low_bd (f:Ser R) (n:Nat):Bd (low f n) n:=fun k hk=>by simp only [low]; rw [if_neg (by (first|lia|omega))]
theorem split_top {f:Ser R} {n:Nat} (h:Bd f (n + 1)):f=low f n + mn (f.c n) n:=Ser.ext fun k=>by
  rw [add_c]; simp only [low,mn]
  by_cases h1:k < n
  · rw [if_pos h1,if_neg (by (first|lia|omega))]; grind
  · by_cases h2:k=n
    · subst h2; simp; grind
    · rw [if_neg h1,if_neg h2,h k (by (first|lia|omega))]; grind
theorem Bd.mul:∀ {n:Nat} {f g:Ser R} {m:Nat},Bd f n→Bd g m→Bd (f * g) (n + m - 1)
  | 0,f,g,m,h,h'=>by
    rw [Bd.eq0 h]
    have:(0:Ser R) * g=0:=by grind
    rw [this]; exact Bd.zero _
  | n + 1,f,g,m,h,h'=>fun k hk=>by
    rw [split_top h]
    have e:(low f n + PA.mn (f.c n) n) * g=low f n * g + PA.mn (f.c n) n * g:=by grind
    rw [e,add_c,mn_mul]
    have h1:=Bd.mul (low_bd f n) h' k (by (first|lia|omega))
    rw [h1]
    split
    · rw [h' (k - n) (by (first|lia|omega))]; grind
    · grind
theorem top_mul {n m:Nat} {f g:Ser R} (h:Bd f (n + 1)) (h':Bd g (m + 1)):(f * g).c (n + m)=f.c n * g.c m:=by
  rw [split_top h]
  have e:(low f n + PA.mn (f.c n) n) * g=low f n * g + PA.mn (f.c n) n * g:=by grind
  rw [e,add_c,mn_mul]
  have h1:(low f n * g).c (n + m)=0:=Bd.mul (low_bd f n) h' (n + m) (by (first|lia|omega))
  rw [h1,if_pos (by (first|lia|omega))]
  have e2:n + m - n=m:=by (first|lia|omega)
  have e3:(low f n + PA.mn (f.c n) n).c n=f.c n:=by rw [add_c]; simp [low,PA.mn]; grind
  rw [e2,e3]; grind
theorem exists_top {f:Ser R}:∀ {n:Nat},Bd f n→f ≠ 0→∃ k,k < n∧f.c k ≠ 0∧Bd f (k + 1)
  | 0,h,h0=>absurd (Bd.eq0 h) h0
  | n + 1,h,h0=>by
    rcases Classical.em (f.c n=0) with q | q
    · have h2:Bd f n:=fun k hk=>by
        rcases Nat.eq_or_lt_of_le hk with e | e
        · subst e; exact q
        · exact h k e
      obtain ⟨k,h3,h4,h5⟩:=exists_top h2 h0
      exact ⟨k,by (first|lia|omega),h4,h5⟩
    · exact ⟨n,by (first|lia|omega),q,h⟩
end
end PA
set_option Elab.async false
set_option linter.all false
set_option maxRecDepth 100000
set_option maxHeartbeats 4000000
namespace PF
open PySem L2 PA
section
variable {q:Nat} [NeZero q]
theorem ic_add (a b:Int):(ic (a + b):Fin q)=ic a + ic b:=Lean.Grind.Ring.intCast_add a b
theorem ic_mul (a b:Int):(ic (a * b):Fin q)=ic a * ic b:=Lean.Grind.Ring.intCast_mul a b
theorem ic_neg (a:Int):(ic (-a):Fin q)=- ic a:=Lean.Grind.Ring.intCast_neg a
theorem ic_sub (a b:Int):(ic (a - b):Fin q)=ic a - ic b:=by
  rw [Int.sub_eq_add_neg,ic_add,ic_neg]; grind
theorem ic_eq {a b:Int}:(ic a:Fin q)=ic b↔a % q=b % q:=Lean.Grind.IsCharP.intCast_ext_iff q
theorem ic_mod (a:Int):(ic (a % q):Fin q)=ic a:=ic_eq.mpr (Int.emod_emod_of_dvd _ (Int.dvd_refl _))
theorem ic_zero:(ic 0:Fin q)=0:=Lean.Grind.Ring.intCast_zero
theorem ic_one:(ic 1:Fin q)=1:=Lean.Grind.Ring.intCast_one
theorem ic_red {a b:Int} (ha:0 ≤ a∧a < q) (hb:0 ≤ b∧b < q) (h:(ic a:Fin q)=ic b):a=b:=by
  have:=ic_eq.mp h
  rwa [Int.emod_eq_of_lt ha.1 ha.2,Int.emod_eq_of_lt hb.1 hb.2] at this
noncomputable def co (l:List Int) (k:Nat):Int:=l.getD k 0
variable (q) in
noncomputable def ser (l:List Int):Ser (Fin q):=⟨fun k=>ic (co l k)⟩
theorem ser_c (l:List Int) (k:Nat):(ser q l).c k=ic (co l k):=rfl
theorem getD_lt {l:List Int} {k:Nat} (h:k < l.length):co l k=l[k]:=by simp [co,List.getD,h]
theorem getD_ge {l:List Int} {k:Nat} (h:l.length ≤ k):co l k=0:=by simp [co,List.getD,h]
theorem ser_nil:ser q []=0:=Ser.ext fun k=>by rw [ser_c,zero_c]; simp [co,ic_zero]
theorem ser_bd (l:List Int):Bd (ser q l) l.length:=fun k hk=>by rw [ser_c,getD_ge hk,ic_zero]
theorem ser_set (l:List Int) (k:Nat) (x:Int) (h:k < l.length):ser q (l.set k x)=ser q l + mn (ic x - ic (co l k)) k:=Ser.ext fun n=>by
  rw [add_c,ser_c,ser_c]
  simp only [mn]
  by_cases e:n=k
  · subst e
    rw [if_pos rfl]
    have:co (l.set n x) n=x:=by simp [co,List.getD,h]
    rw [this]; grind
  · rw [if_neg e]
    have:co (l.set k x) n=co l n:=by simp [co,List.getD,List.getElem?_set_ne (Ne.symm e)]
    rw [this]; grind
theorem ser_snoc (l:List Int) (x:Int):ser q (l ++ [x])=ser q l + mn (ic x) l.length:=Ser.ext fun n=>by
  rw [add_c,ser_c,ser_c]
  simp only [mn]
  by_cases e:n=l.length
  · subst e
    rw [if_pos rfl,getD_ge (l:=l) (Nat.le_refl _),ic_zero]
    have:co (l ++ [x]) l.length=x:=by simp [co,List.getD]
    rw [this]; grind
  · rw [if_neg e]
    have:co (l ++ [x]) n=co l n:=by
      by_cases h:n < l.length
      · simp [co,List.getD,List.getElem?_append_left h]
      · rw [getD_ge (l:=l) (by (clear e; (first|lia|omega))),getD_ge (by simp; (first|lia|omega))]
    rw [this]; grind
theorem ser_take (l:List Int) (k:Nat) (h:k < l.length):ser q (l.take (k + 1))=ser q (l.take k) + mn (ic l[k]) k:=by
  have e:l.take (k + 1)=l.take k ++ [l[k]]:=by rw [List.take_succ_eq_append_getElem h]
  rw [e,ser_snoc]
  simp [Nat.min_eq_left (Nat.le_of_lt h)]
theorem ser_zeros (n:Nat):ser q (List.replicate n 0)=0:=Ser.ext fun k=>by
  rw [ser_c,zero_c]
  have:co (List.replicate n (0:Int)) k=0:=by
    by_cases h:k < n
    · simp [co,List.getD,h]
    · rw [getD_ge (by simp; (first|lia|omega))]
  rw [this,ic_zero]
theorem ser_shift (n:Nat) (l:List Int):ser q (List.replicate n 0 ++ l)=mn 1 n * ser q l:=Ser.ext fun k=>by
  rw [mn_mul,ser_c,ser_c]
  by_cases h:n ≤ k
  · rw [if_pos h]
    have:co (List.replicate n (0:Int) ++ l) k=co l (k - n):=by
      simp [co,List.getD,List.getElem?_append_right (show (List.replicate n (0:Int)).length ≤ k by simpa using h)]
    rw [this]; grind
  · rw [if_neg h]
    have:co (List.replicate n (0:Int) ++ l) k=0:=by
      simp [co,List.getD,List.getElem?_append_left (show k < (List.replicate n (0:Int)).length by simp; (first|lia|omega)),show k < n by (first|lia|omega)]
    rw [this,ic_zero]
theorem ser_map (c:Int) (l:List Int):ser q (l.map fun x=>c * x % q)=mn (ic c) 0 * ser q l:=Ser.ext fun k=>by
  rw [mn_mul,ser_c,ser_c,if_pos (Nat.zero_le _)]
  by_cases h:k < l.length
  · have:co (l.map fun x=>c * x % (q:Int)) k=c * co l k % q:=by simp [co,List.getD,h]
    rw [this,ic_mod,ic_mul]; rfl
  · rw [getD_ge (by simp; (first|lia|omega)),Nat.sub_zero,getD_ge (l:=l) (by (first|lia|omega)),ic_zero]; grind
theorem ser_co (f:Nat→Int) (n:Nat) (k:Nat):(ser q ((List.range n).map f)).c k=if k < n then ic (f k) else 0:=by
  rw [ser_c]
  by_cases h:k < n
  · rw [if_pos h]; simp [co,List.getD,h]
  · rw [if_neg h,getD_ge (by simp; (first|lia|omega)),ic_zero]
noncomputable def Nm (l r:List Int):Prop:=∃ n,n ≤ l.length∧r=l.take n∧(∀ k,n ≤ k→co l k=0)∧Top r
theorem Nm.ser {l r:List Int} (h:Nm l r):PF.ser q r=PF.ser q l:=by
  obtain ⟨n,h1,rfl,h2,_⟩:=h
  refine Ser.ext fun k=>?_
  rw [ser_c,ser_c]
  by_cases hk:k < n
  · have:co (l.take n) k=co l k:=by simp [co,List.getD,hk]
    rw [this]
  · rw [getD_ge (by simp; (clear h2 h1; (first|lia|omega))),h2 k (by (clear h2 h1; (first|lia|omega)))]
theorem Nm.red {l r:List Int} {p:Int} (h:Nm l r) (hr:Red p l):Red p r:=by
  obtain ⟨n,h1,rfl,h2,_⟩:=h
  exact fun x hx=>hr x (List.mem_of_mem_take hx)
theorem Nm.sm {l r:List Int} {p:Int} (h:Nm l r) (hr:Red p l):Sm p r:=⟨h.red hr,by obtain ⟨n,_,_,_,t⟩:=h; exact t⟩
theorem Nm.len {l r:List Int} (h:Nm l r):r.length ≤ l.length:=by
  obtain ⟨n,h1,rfl,h2,_⟩:=h
  simp; (clear h2 h1; (first|lia|omega))
theorem Nm.bd {l r:List Int} (h:Nm l r) {m:Nat} (hm:∀ k,m ≤ k→co l k=0):r.length ≤ m:=by
  obtain ⟨n,h1,rfl,h2,t⟩:=h
  rcases Nat.lt_or_ge m n with c | c
  · exfalso
    apply t
    rw [List.getLast?_eq_getElem?]
    have e:(l.take n).length - 1=n - 1:=by simp; (clear c t h2 hm; (first|lia|omega))
    rw [e,List.getElem?_take_of_lt (by (clear e t h2 h1 hm; (first|lia|omega))),List.getElem?_eq_getElem (by (clear e t h2 hm; (first|lia|omega)))]
    have:=hm (n - 1) (by (clear e t h2 h1 hm; (first|lia|omega)))
    rw [getD_lt (by (clear this e t h2 hm; (first|lia|omega)))] at this
    rw [this]
  · simp; (clear t h2 h1 hm; (first|lia|omega))
theorem Top.last {l:List Int} (h:Top l) (hne:l ≠ []):co l (l.length - 1) ≠ 0:=by
  intro e
  apply h
  have hl:=List.length_pos_iff.mpr hne
  rw [List.getLast?_eq_getElem?,List.getElem?_eq_getElem (by (clear e hne h; (first|lia|omega)))]
  rw [getD_lt (by (clear e hne h; (first|lia|omega)))] at e
  rw [e]
theorem Red.getD {p:Int} {l:List Int} (h:Red p l) (hp:0 < p) (k:Nat):0 ≤ co l k∧co l k < p:=by
  by_cases c:k < l.length
  · rw [getD_lt c]; exact h _ (List.getElem_mem c)
  · rw [getD_ge (by (clear hp h; (first|lia|omega)))]; (clear c h; (first|lia|omega))
theorem Sm.top {l:List Int} (h:Sm q l) (hne:l ≠ []):(ser q l).c (l.length - 1) ≠ 0:=fun e=>by
  have hq:(0:Int) < q:=by have:=Nat.pos_of_ne_zero (NeZero.ne q); (clear this hne h; (first|lia|omega))
  rw [ser_c,← ic_zero] at e
  exact h.2.last hne (ic_red (h.1.getD hq _) ⟨by (clear hq e hne h; (first|lia|omega)),hq⟩ e)
theorem ser_inj {a b:List Int} (ha:Sm q a) (hb:Sm q b) (h:ser q a=ser q b):a=b:=by
  have hq:(0:Int) < q:=by have:=Nat.pos_of_ne_zero (NeZero.ne q); (clear h hb ha; (first|lia|omega))
  have key:∀ k,co a k=co b k:=fun k=>ic_red (ha.1.getD hq k) (hb.1.getD hq k) (by
    have:=congrArg (fun f=>f.c k) h
    exact this)
  have le:∀ {a b:List Int},Sm q a→Sm q b→(∀ k,co a k=co b k)→a.length ≤ b.length:=fun {a b} ha hb key=>by
    rcases Nat.lt_or_ge b.length a.length with c | c
    · exfalso
      refine ha.2.last (by rintro rfl; simp at c) ?_
      rw [key,getD_ge (by (clear hq h; (first|lia|omega)))]
    · exact c
  have hl:a.length=b.length:=Nat.le_antisymm (le ha hb key) (le hb ha fun k=>(key k).symm)
  refine List.ext_getElem hl fun i h1 h2=>?_
  rw [← getD_lt h1,← getD_lt h2]
  exact key i
theorem deqs_ints:∀ a b:List Int,deqs (a.map D.int) (b.map D.int)=decide (a=b)
  | [],[]=>by simp [deqs]
  | [],_ :: _=>by simp [deqs]
  | _ :: _,[]=>by simp [deqs]
  | x :: a,y :: b=>by
    simp only [List.map_cons,deqs,deq,deqs_ints a b]
    by_cases h:x=y
    · subst h; simp
    · simp [h]
theorem deps_i (l:List Int):deps (l.map D.int)=0:=by
  induction l with
  | nil=>rfl
  | cons a l ih=>simp [deps,dep,ih]
@[simp] theorem cEq_tupZ (a b:List Int):cEq (tupZ a) (tupZ b)=some (.bl (decide (a=b))):=by
  unfold cEq tupZ
  rw [if_pos (by simp [dep,deps_i]),deq,deqs_ints]
@[simp] theorem cNe_tupZ (a b:List Int):cNe (tupZ a) (tupZ b)=some (.bl (!decide (a=b))):=by
  unfold cNe tupZ
  rw [if_pos (by simp [dep,deps_i]),deq,deqs_ints]
@[simp] theorem cNe_lz_nil (a:List Int):cNe (.lst (a.map D.int)) (.lst [])=some (.bl (!decide (a=[]))):=by
  have:cNe (.lst (a.map D.int)) (.lst (([]:List Int).map D.int))=some (.bl (!decide (a=[]))):=by
    unfold cNe
    rw [if_pos (by simp [dep,deps_i,deps]),deq,deqs_ints]
  exact this
theorem atI_ints {l:List Int} {i:Int} (h0:0 ≤ i) (h1:i < l.length):atI (l.map D.int) i=some (.int (co l i.toNat)):=by
  rw [atI_nat' h0,List.getElem?_map,List.getElem?_eq_getElem (by (first|lia|omega)),getD_lt (by (first|lia|omega))]; rfl
theorem atI_intsL {l:List Int} (h:l ≠ []):atI (l.map D.int) (-1)=some (.int (co l (l.length - 1))):=by
  have hl:=List.length_pos_iff.mpr h
  rw [atI_last,List.getLast?_eq_getElem?,List.getElem?_map]
  simp only [List.length_map]
  rw [List.getElem?_eq_getElem (by (clear h; (first|lia|omega))),getD_lt (by (clear h; (first|lia|omega)))]; rfl
theorem cut_take {α:Type} (l:List α) (n:Nat):cutD l none (some (n:Int))=l.take n:=by
  unfold cutD
  simp only [HT.sIx]
  rw [if_neg (by (first|lia|omega)),List.drop_zero,Nat.sub_zero,Int.toNat_natCast]
  rcases Nat.le_total n l.length with c | c
  · rw [Nat.min_eq_left c]
  · rw [Nat.min_eq_right c,List.take_of_length_le (Nat.le_refl _),List.take_of_length_le c]
theorem rep0 (n:Nat):(List.replicate n [D.int 0]).flatten=(List.replicate n (0:Int)).map D.int:=by
  induction n with
  | zero=>rfl
  | succ n ih=>simp [List.replicate_succ,ih]
theorem while_t {c:DS→M Bool} {b:DS→Option Fl} {n:Nat} {S S2:DS} (h1:c S=some (.ok true)) (h2:b S=some (.next S2)):whileD c b (n + 1) S=whileD c b n S2:=by
  rw [whileD,h1]
  simp only
  rw [h2]
theorem while_f {c:DS→M Bool} {b:DS→Option Fl} {n:Nat} {S:DS} (h1:c S=some (.ok false)):whileD c b (n + 1) S=some (.next S):=by
  rw [whileD,h1]
theorem L_trimmed (l:List Int):∀ (m f:Nat),m ≤ l.length→m < f→∃ n,n ≤ m∧whileD R.c_trimmed_1 R.b_trimmed_2 f [some (Slot.val (D.lst (List.map D.int l))),some (Slot.val (D.int m))]=some (.next [some (Slot.val (D.lst (List.map D.int l))),some (Slot.val (D.int n))])∧(∀ k,n ≤ k→k < m→co l k=0)∧(n=0∨co l (n - 1) ≠ 0)
  | 0,f + 1,_,_=>⟨0,Nat.le_refl _,while_f (by simp [R.c_trimmed_1]),fun k h1 h2=>by (clear h1; (first|lia|omega)),.inl rfl⟩
  | m + 1,f + 1,h1,h2=>by
    have e:atI (l.map D.int) (((m + 1:Nat):Int) - 1)=some (.int (co l m)):=by
      rw [atI_ints (by (clear h2 h1; (first|lia|omega))) (by (clear h2; (first|lia|omega)))]
      congr 3
      (clear h2 h1; (first|lia|omega))
    have e':atI (l.map D.int) ((m:Int) + 1 - 1)=some (.int (co l m)):=e
    have e'':atI (l.map D.int) (m:Int)=some (.int (co l m)):=by rw [← e']; congr 1; (clear e' e h2 h1; (first|lia|omega))
    have hm:(0:Int) < (m:Int) + 1:=by (clear e'' e' e h2 h1; (first|lia|omega))
    by_cases c:co l m=0
    · obtain ⟨n,g1,g2,g3,g4⟩:=L_trimmed l m f (by (clear c hm e'' e' e h2; (first|lia|omega))) (by (clear c hm e'' e' e h1; (first|lia|omega)))
      refine ⟨n,by (clear g4 g3 g2 c hm e'' e' e h2 h1; (first|lia|omega)),?_,fun k k1 k2=>?_,g4⟩
      · rw [while_t (S2:=[some (Slot.val (D.lst (List.map D.int l))),some (Slot.val (D.int m))]) (by simp [R.c_trimmed_1,e'',hm,c]) (by simp [R.b_trimmed_2]),g2]
      · by_cases z:k=m
        · subst z; exact c
        · exact g3 k k1 (by (clear k1 g4 g3 g2 g1 c hm e'' e' e h2 h1; (first|lia|omega)))
    · exact ⟨m + 1,Nat.le_refl _,while_f (by simp [R.c_trimmed_1,e'',hm,c]),fun k h1 h2=>by (clear c hm e'' e' e; (first|lia|omega)),.inr (by simpa using c)⟩
theorem top_take {l:List Int} {n:Nat} (h:n ≤ l.length) (h':n=0∨co l (n - 1) ≠ 0):Top (l.take n):=by
  rcases h' with rfl | h'
  · simp [Top]
  · intro e
    rw [List.getLast?_eq_getElem?] at e
    rcases Nat.eq_zero_or_pos n with z | z
    · subst z; simp at e
    · have e1:(l.take n).length - 1=n - 1:=by simp; (clear z e h'; (first|lia|omega))
      rw [e1,List.getElem?_take_of_lt (by (clear e1 e h' h; (first|lia|omega))),List.getElem?_eq_getElem (by (clear e1 e h'; (first|lia|omega)))] at e
      rw [getD_lt (by (clear e1 e h'; (first|lia|omega)))] at h'
      exact h' (by simpa using e)
theorem E_trimmed (l:List Int) (h:l.length ≤ 190):∃ r,Nm l r∧R.m_trimmed [.lst (l.map D.int)]=some (.ok (tupZ r)):=by
  obtain ⟨n,g1,g2,g3,g4⟩:=L_trimmed l l.length 200 (Nat.le_refl _) (by (first|lia|omega))
  refine ⟨l.take n,⟨n,g1,rfl,fun k hk=>?_,top_take g1 g4⟩,?_⟩
  · by_cases c:k < l.length
    · exact g3 k hk c
    · exact getD_ge (by (clear hk g4 g3 g2 g1 h; (first|lia|omega)))
  · unfold R.m_trimmed R.g_trimmed
    simp [g2,cut_take,tupZ]
theorem L_l_trim (d:D):∀ (l:List Int) (f:Nat),l.length < f→∃ r,Nm l r∧whileD R.c_l_trim_1 R.b_l_trim_2 f [some (Slot.val d),some (Slot.own (List.map D.int l))]=some (.next [some (Slot.val d),some (Slot.own (List.map D.int r))]):=fun l=>by
  induction h:l.length generalizing l with
  | zero=>
    intro f hf
    have hl:=List.eq_nil_of_length_eq_zero h
    subst hl
    obtain ⟨f',rfl⟩:∃ f',f=f' + 1:=⟨f - 1,by (clear h; (first|lia|omega))⟩
    exact ⟨[],⟨0,Nat.le_refl _,rfl,fun k _=>by simp [co],by simp [Top]⟩,while_f (by simp [R.c_l_trim_1,cNe,dep,deps,deq,deqs])⟩
  | succ m ih=>
    intro f hf
    obtain ⟨f',rfl⟩:∃ f',f=f' + 1:=⟨f - 1,by (clear h ih; (first|lia|omega))⟩
    have hne:l ≠ []:=by rintro rfl; simp at h
    have e:=atI_intsL hne
    have e1:l.length - 1=m:=by (clear e hne hf ih; (first|lia|omega))
    rw [e1] at e
    by_cases c:co l m=0
    · have hd:l.dropLast.length=m:=by simp; (clear c e1 e hne hf ih; (first|lia|omega))
      obtain ⟨r,⟨n,g1,g2,g3,g4⟩,g5⟩:=ih l.dropLast hd f' (by (clear hd c e1 e hne h ih; (first|lia|omega)))
      refine ⟨r,⟨n,by (clear g4 g3 g2 g5 c e1 e hne hf ih; (first|lia|omega)),?_,fun k hk=>?_,g4⟩,?_⟩
      · rw [g2,List.dropLast_eq_take,List.take_take,Nat.min_eq_left (by (clear g4 g3 g2 g5 c e1 e hne hf ih; (first|lia|omega)))]
      · by_cases k1:k < m
        · have:=g3 k hk
          rw [getD_lt (by (clear this hk g4 g3 g2 g1 g5 c e1 e hne hf h ih; (first|lia|omega)))] at this
          rw [getD_lt (by (clear this hk g4 g3 g2 g1 g5 hd c e1 e hne hf ih; (first|lia|omega))),← this,List.getElem_dropLast]
        · by_cases k2:k=m
          · subst k2; exact c
          · exact getD_ge (by (clear hk g4 g3 g2 g1 g5 hd c e1 e hne hf ih; (first|lia|omega)))
      · have hl0:¬ l.length=0:=by (clear g4 g3 g2 g1 g5 hd c e1 e hne hf ih; (first|lia|omega))
        rw [while_t (S2:=[some (Slot.val d),some (Slot.own (List.map D.int l.dropLast))]) (by simp [R.c_l_trim_1,hne,e,c]) (by simp [R.b_l_trim_2,dPop,hl0,hne,List.map_dropLast]),g5]
    · refine ⟨l,⟨l.length,Nat.le_refl _,by simp,fun k hk=>getD_ge hk,?_⟩,while_f (by simp [R.c_l_trim_1,hne,e,c])⟩
      have:=top_take (l:=l) (n:=l.length) (Nat.le_refl _) (.inr (by rw [e1]; exact c))
      simpa using this
theorem E_l_trim (d:D) (l:List Int) (hd:d=.lst (l.map D.int)∨d=tupZ l) (h:l.length ≤ 190):∃ r,Nm l r∧R.m_l_trim [d]=some (.ok (tupZ r)):=by
  obtain ⟨r,g1,g2⟩:=L_l_trim d l 200 (by (clear hd; (first|lia|omega)))
  refine ⟨r,g1,?_⟩
  unfold R.m_l_trim R.g_l_trim
  rcases hd with rfl | rfl
  · simp [g2,tupZ]
  · unfold tupZ at g2 ⊢
    simp [g2]
end
end PF
set_option Elab.async false
set_option linter.all false
set_option maxRecDepth 100000
set_option maxHeartbeats 4000000
namespace PF
open PySem L2 PA
theorem enumZ_get {a:List Int} {k:Nat} {d:D} (h:(enumD (a.map D.int))[k]?=some d):∃ hk:k < a.length,d=.tup [.int k,.int a[k]]:=by
  obtain ⟨x,h1,h2⟩:=enumD_get h
  rw [List.getElem?_map] at h1
  cases z:a[k]? with
  | none=>rw [z] at h1; cases h1
  | some y=>
    rw [z] at h1
    obtain ⟨hk,e⟩:=List.getElem?_eq_some_iff.mp z
    refine ⟨hk,?_⟩
    rw [h2,e]
    simp at h1
    rw [h1]
theorem enumZ_len (a:List Int):(enumD (a.map D.int)).length=a.length:=by rw [enumD_len,List.length_map]
theorem ixN_nat {n:Nat} {i:Int} (h0:0 ≤ i) (h1:i < n):ixN n i=some i.toNat:=by
  unfold ixN
  rw [if_pos h0,if_pos h1]
@[simp] theorem dEnum_tup {S:DS} {f:DS→M VR} {l:List Int} (h:f S=some (.ok (.ok (tupZ l)))):dEnum f S=some (.ok (enumD (l.map D.int))):=by
  unfold dEnum; rw [h]; rfl
@[simp] theorem uLen_Z (l:List Int):uLen (tupZ l)=some (.int l.length):=by simp [tupZ]
@[simp] theorem noList_Z (l:List Int):noList (tupZ l)=true:=by simp [tupZ]
@[simp] theorem opIx_Z (l:List Int) (i:Int):opIx (tupZ l) (.int i)=atI (l.map D.int) i:=rfl
@[simp] theorem items_Z (l:List Int):items (.ok (tupZ l))=some (l.map D.int):=rfl
@[simp] theorem opMax_e (i j:Int):opMax (.int i) (.int j)=some (.int (if j > i then j else i)):=rfl
@[simp] theorem dEnum_e {S:DS} {f:DS→M VR}:dEnum f S=mb (f S) fun r=>match items r with
  | some l=>some (.ok (enumD l))
  | none=>none:=rfl
@[simp] theorem dPop_e {S:DS} (i:Nat):dPop i S=match S[i]? with
  | some (some (.own l))=>if l.length=0 then none else some (.next (S.set i (some (.own l.dropLast))))
  | _=>none:=rfl
@[simp] theorem asL_Z (l:List Int):asL (tupZ l)=some (.ok (l.map D.int)):=rfl
@[simp] theorem uTup_Z (l:List Int):uTup (tupZ l)=some (tupZ l):=rfl
theorem one_le_of {p:Int} (hp:Clock p) {q:Nat} (e:p=q):2 ≤ q∧q ≤ 5:=by
  have:=hp.two_le; (clear hp; (first|lia|omega))
theorem okRep_small {n:Nat} {k:Int} (h0:0 ≤ k) (h:k ≤ 1000):okRep 1 k=true:=by
  simp [okRep,big]; (first|lia|omega)
section
variable {q:Nat} [NeZero q]
theorem E_turned {p a:Int} (hp:Clock p) (h1:1 ≤ a) (h2:a < p):∃ t,0 ≤ t∧t < p∧a * t % p=1∧R.m_turned_number [.int a,.int p]=some (.ok (.int t)):=by
  rcases hp with rfl | rfl | rfl
  · have:a=1:=by (first|lia|omega)
    subst this
    exact ⟨1,by decide,by decide,by decide,rfl⟩
  · have:a=1∨a=2:=by (first|lia|omega)
    rcases this with rfl | rfl
    · exact ⟨1,by decide,by decide,by decide,rfl⟩
    · exact ⟨2,by decide,by decide,by decide,rfl⟩
  · have:a=1∨a=2∨a=3∨a=4:=by (first|lia|omega)
    rcases this with rfl | rfl | rfl | rfl
    · exact ⟨1,by decide,by decide,by decide,rfl⟩
    · exact ⟨3,by decide,by decide,by decide,rfl⟩
    · exact ⟨2,by decide,by decide,by decide,rfl⟩
    · exact ⟨4,by decide,by decide,by decide,rfl⟩
theorem Red.mapmod {p:Int} (hp:0 < p) (f:Int→Int) (l:List Int):Red p (l.map fun x=>f x % p):=fun x hx=>by
  obtain ⟨y,_,rfl⟩:=List.mem_map.mp hx
  exact ⟨Int.emod_nonneg _ (by (clear hx; (first|lia|omega))),Int.emod_lt_of_pos _ hp⟩
theorem E_scaled (hq:0 < q) (l:List Int) (c:Int) (hl:l.length ≤ 190) (h0:-1000 ≤ c) (h1:c ≤ 1000):∃ r,Sm q r∧r.length ≤ l.length∧ser q r=mn (ic c) 0 * ser q l∧R.m_scaled [tupZ l,.int c,.int q]=some (.ok (tupZ r)):=by
  obtain ⟨r,g1,g2⟩:=E_trimmed (l.map fun x=>c * x % (q:Int)) (by simpa using hl)
  have hq':(0:Int) < q:=by (clear g2 g1 h1 h0 hl; (first|lia|omega))
  refine ⟨r,g1.sm (Red.mapmod hq' (fun x=>c * x) l),by have:=g1.len; simpa using this,by rw [g1.ser,ser_map],?_⟩
  have e2:=compD_map (set:=sName 0) (t:=fun _=>some (.ok true)) (fe:=dBin (opC2 okMod fun i j=>i % j) (dBin opMul (dVar 2) (dVar 0)) (dVar 1)) (γ:=Int) D.int (fun x=>.int (c * x % (q:Int))) (fun o=>[o,some (Slot.val (D.int q)),some (Slot.val (D.int c))]) l none
    (fun a o _=>rfl) (fun a _=>rfl) (fun a _=>by simp [hq,okMul_l (show -18446744073709551616 < c by (clear hq' g2 g1 h1 hl hq; (first|lia|omega))) (show c < 18446744073709551616 by (clear hq' g2 g1 h0 hl hq; (first|lia|omega)))])
  have e3:(l.map D.int).length ≤ 100000:=by simp; (clear e2 hq' g2 g1 h1 h0 hq; (first|lia|omega))
  have e4:l.map (fun x=>D.int (c * x % (q:Int)))=(l.map fun x=>c * x % (q:Int)).map D.int:=by simp
  rw [e4] at e2
  have e5:l.length ≤ 100000:=by (clear e4 e3 e2 hq' g2 g1 h1 h0 hq; (first|lia|omega))
  unfold R.m_scaled R.g_scaled
  simp [e2,e5]
  simp at g2
  simp [g2]
theorem L_plus1 (a b:List Int) (n:Nat) (hn:a.length ≤ n) (ha:Red q a) (hq:0 < q):∃ (N:List Int) (v4 v5:Option Slot),loopD (sTup 2 (sCons (sName 4) (sCons (sName 5) sNil))) (R.b_plus_1 R.m_trimmed) (enumD (a.map D.int)) [some (Slot.val (tupZ a)),some (Slot.val (tupZ b)),some (Slot.val (D.int q)),some (Slot.own (List.map D.int (List.replicate n 0))),none,none] =
    some (.next [some (Slot.val (tupZ a)),some (Slot.val (tupZ b)),some (Slot.val (D.int q)),some (Slot.own (List.map D.int N)),v4,v5])∧N.length=n∧Red q N∧ser q N=ser q a:=by
  have hq':(0:Int) < q:=by (clear ha hn; (first|lia|omega))
  obtain ⟨S',e,N,v4,v5,hS,hl,hr,hs,_⟩:=loopD_inv0 (set:=sTup 2 (sCons (sName 4) (sCons (sName 5) sNil))) (g:=R.b_plus_1 R.m_trimmed)
    (fun k S=>∃ (N:List Int) (v4 v5:Option Slot),S=[some (Slot.val (tupZ a)),some (Slot.val (tupZ b)),some (Slot.val (D.int q)),some (Slot.own (List.map D.int N)),v4,v5]∧N.length=n∧Red q N∧ser q N=ser q (a.take k)∧∀ j,k ≤ j→co N j=0)
    (l:=enumD (a.map D.int)) (S:=[some (Slot.val (tupZ a)),some (Slot.val (tupZ b)),some (Slot.val (D.int q)),some (Slot.own (List.map D.int (List.replicate n 0))),none,none])
    ⟨List.replicate n 0,none,none,rfl,by simp,fun x hx=>by
      obtain ⟨_,rfl⟩:=List.mem_replicate.mp hx
      (clear hx hq' ha hn; (first|lia|omega)),by simp [ser_zeros,ser_nil],fun j _=>by
      by_cases h:j < n
      · rw [getD_lt (by simpa using h)]; simp
      · exact getD_ge (by simp; (clear hq' hq ha hn; (first|lia|omega)))⟩ (fun k d S hk ⟨N,v4,v5,hS,hl,hr,hs,hz⟩=>by
      obtain ⟨hk2,rfl⟩:=enumZ_get hk
      subst hS
      refine ⟨[some (Slot.val (tupZ a)),some (Slot.val (tupZ b)),some (Slot.val (D.int q)),some (Slot.own (List.map D.int N)),some (Slot.val (D.int k)),some (Slot.val (D.int (a[k])))],[some (Slot.val (tupZ a)),some (Slot.val (tupZ b)),some (Slot.val (D.int q)),some (Slot.own (List.map D.int (N.set k a[k]))),some (Slot.val (D.int k)),some (Slot.val (D.int (a[k])))],by simp,?_,N.set k a[k],some (Slot.val (D.int k)),some (Slot.val (D.int (a[k]))),rfl,by simpa using hl,hr.set (ha _ (List.getElem_mem hk2)) k,?_,fun j hj=>?_⟩
      · have z:=ixN_nat (n:=N.length) (i:=(k:Int)) (by (clear hk hk2 hz hs hr hl hq' hq ha hn; (first|lia|omega))) (by (clear hk hz hs hr hq' hq ha; (first|lia|omega)))
        simp [R.b_plus_1,z]
      · rw [ser_set _ _ _ (by (clear hk hz hs hr hq' hq ha; (first|lia|omega))),ser_take _ _ hk2,hs,hz k (Nat.le_refl _),ic_zero]
        congr 2
        grind
      · have:co (N.set k a[k]) j=co N j:=by simp [co,List.getD,List.getElem?_set_ne (show k ≠ j by (clear hk hk2 hz hs hr hl hq' hq ha hn; (first|lia|omega)))]
        rw [this]; exact hz j (by (clear this hk hk2 hz hs hr hl hq' hq ha hn; (first|lia|omega))))
  subst hS
  rw [enumZ_len,List.take_of_length_le (Nat.le_refl _)] at hs
  exact ⟨N,v4,v5,e,hl,hr,hs⟩
theorem L_plus2 (a b N0:List Int) (u4 u5:Option Slot) (hn:b.length ≤ N0.length) (h0:Red q N0) (hq:0 < q):∃ (N:List Int) (v4 v5:Option Slot),loopD (sTup 2 (sCons (sName 4) (sCons (sName 5) sNil))) (R.b_plus_2 R.m_trimmed) (enumD (b.map D.int)) [some (Slot.val (tupZ a)),some (Slot.val (tupZ b)),some (Slot.val (D.int q)),some (Slot.own (List.map D.int N0)),u4,u5] =
    some (.next [some (Slot.val (tupZ a)),some (Slot.val (tupZ b)),some (Slot.val (D.int q)),some (Slot.own (List.map D.int N)),v4,v5])∧N.length=N0.length∧Red q N∧ser q N=ser q N0 + ser q b:=by
  have hq':(0:Int) < q:=by (clear h0 hn; (first|lia|omega))
  obtain ⟨S',e,N,v4,v5,hS,hl,hr,hs⟩:=loopD_inv0 (set:=sTup 2 (sCons (sName 4) (sCons (sName 5) sNil))) (g:=R.b_plus_2 R.m_trimmed)
    (fun k S=>∃ (N:List Int) (v4 v5:Option Slot),S=[some (Slot.val (tupZ a)),some (Slot.val (tupZ b)),some (Slot.val (D.int q)),some (Slot.own (List.map D.int N)),v4,v5]∧N.length=N0.length∧Red q N∧ser q N=ser q N0 + ser q (b.take k))
    (l:=enumD (b.map D.int)) (S:=[some (Slot.val (tupZ a)),some (Slot.val (tupZ b)),some (Slot.val (D.int q)),some (Slot.own (List.map D.int N0)),u4,u5])
    ⟨N0,u4,u5,rfl,rfl,h0,by simp [ser_nil]; grind⟩ (fun k d S hk ⟨N,v4,v5,hS,hl,hr,hs⟩=>by
      obtain ⟨hk2,rfl⟩:=enumZ_get hk
      subst hS
      refine ⟨[some (Slot.val (tupZ a)),some (Slot.val (tupZ b)),some (Slot.val (D.int q)),some (Slot.own (List.map D.int N)),some (Slot.val (D.int k)),some (Slot.val (D.int (b[k])))],[some (Slot.val (tupZ a)),some (Slot.val (tupZ b)),some (Slot.val (D.int q)),some (Slot.own (List.map D.int (N.set k ((co N k + b[k]) % q)))),some (Slot.val (D.int k)),some (Slot.val (D.int (b[k])))],by simp,?_,N.set k ((co N k + b[k]) % q),some (Slot.val (D.int k)),some (Slot.val (D.int (b[k]))),rfl,by simpa using hl,hr.set ⟨Int.emod_nonneg _ (by (clear hk hk2 hs hr hl hq' h0 hn; (first|lia|omega))),Int.emod_lt_of_pos _ hq'⟩ k,?_⟩
      · have z:=ixN_nat (n:=N.length) (i:=(k:Int)) (by (clear hk hk2 hs hr hl hq' hq h0 hn; (first|lia|omega))) (by (clear hk hs hr hq' hq h0; (first|lia|omega)))
        have z2:=atI_ints (l:=N) (i:=(k:Int)) (by (clear z hk hk2 hs hr hl hq' hq h0 hn; (first|lia|omega))) (by (clear z hk hs hr hq' hq h0; (first|lia|omega)))
        simp [R.b_plus_2,z,z2,hq]
      · rw [ser_set _ _ _ (by (clear hk hs hr hq' hq h0; (first|lia|omega))),ser_take _ _ hk2,hs,ic_mod,ic_add]
        have:(ic (co N k) + ic b[k] - ic (co N k):Fin q)=ic b[k]:=by grind
        rw [this]; grind)
  subst hS
  rw [enumZ_len,List.take_of_length_le (Nat.le_refl _)] at hs
  exact ⟨N,v4,v5,e,hl,hr,hs⟩
theorem E_plus (hq:0 < q) (a b:List Int) (ha:Red q a) (hb:Red q b) (la:a.length ≤ 190) (lb:b.length ≤ 190):∃ r,Sm q r∧r.length ≤ max a.length b.length∧ser q r=ser q a + ser q b∧R.m_plus [tupZ a,tupZ b,.int q]=some (.ok (tupZ r)):=by
  obtain ⟨n,hn⟩:∃ n:Nat,n=max a.length b.length:=⟨_,rfl⟩
  have hn2:(if a.length < b.length then (b.length:Int) else (a.length:Int))=(n:Int):=by split <;> (clear lb la hb ha hq; (first|lia|omega))
  obtain ⟨N,v4,v5,e1,l1,r1,s1⟩:=L_plus1 a b n (by (clear hn2 lb la hb ha hq; (first|lia|omega))) ha hq
  obtain ⟨N2,w4,w5,e2,l2,r2,s2⟩:=L_plus2 a b N v4 v5 (by (clear s1 r1 e1 hn2 lb la hb ha hq; (first|lia|omega))) r1 hq
  obtain ⟨r,g1,g2⟩:=E_trimmed N2 (by (clear s2 r2 e2 s1 r1 e1 hn2 hb ha hq; (first|lia|omega)))
  refine ⟨r,g1.sm r2,by have:=g1.len; (clear g2 g1 s2 r2 e2 s1 r1 e1 hn2 lb la hb ha hq; (first|lia|omega)),by rw [g1.ser,s2,s1],?_⟩
  have ok:=okRep_small (n:=1) (k:=(n:Int)) (by (clear g2 g1 s2 r2 l2 e2 s1 r1 l1 e1 hn2 hn lb la hb ha hq; (first|lia|omega))) (by (clear g2 g1 s2 r2 l2 e2 s1 r1 l1 e1 hn2 hb ha hq; (first|lia|omega)))
  rw [List.map_replicate] at e1
  unfold R.m_plus R.g_plus
  simp [hn2,ok,e1,e2,g2]
theorem E_minus (hq:0 < q) (hq5:q ≤ 5) (a b:List Int) (ha:Red q a) (la:a.length ≤ 190) (lb:b.length ≤ 190):∃ r,Sm q r∧r.length ≤ max a.length b.length∧ser q r=ser q a - ser q b∧R.m_minus [tupZ a,tupZ b,.int q]=some (.ok (tupZ r)):=by
  obtain ⟨s,h1,h2,h3,h4⟩:=E_scaled hq b ((q:Int) - 1) lb (by (clear lb la ha hq5 hq; (first|lia|omega))) (by (clear lb la ha hq; (first|lia|omega)))
  obtain ⟨r,g1,g2,g3,g4⟩:=E_plus hq a s ha h1.1 la (by (clear h4 h3 h1 la ha hq5 hq; (first|lia|omega)))
  refine ⟨r,g1,by (clear g4 g3 g1 h4 h3 h1 lb la ha hq5 hq; (first|lia|omega)),?_,?_⟩
  · rw [g3,h3]
    have:(ic ((q:Int) - 1):Fin q)=-1:=by
      have e:(ic ((q:Int) - 1):Fin q)=ic (-1):=ic_eq.mpr (by
        rw [show ((q:Int) - 1)=-1 + q by (clear g4 g3 g2 g1 h4 h3 h2 h1 lb la ha hq5 hq; (first|lia|omega)),Int.add_emod_right])
      rw [e,ic_neg,ic_one]
    rw [this]
    have e:(mn (-1) 0:Ser (Fin q))=-1:=Ser.ext fun k=>by
      rw [neg_c]
      simp only [mn,one_eq,onec]
      split <;> grind
    rw [e]; grind
  · unfold R.m_minus R.g_minus
    simp [h4,g4]
theorem L_times1 (a b N0:List Int) (pw x:Int) (j:Nat) (hj:pw=j) (u6 u7:Option Slot) (hn:j + b.length ≤ N0.length) (h0:Red q N0) (hq:0 < q) (hx:0 ≤ x) (hx2:x ≤ 1000):∃ (N:List Int) (v6 v7:Option Slot),loopD (sTup 2 (sCons (sName 6) (sCons (sName 7) sNil))) (R.b_times_1 R.m_trimmed) (enumD (b.map D.int)) [some (Slot.val (tupZ a)),some (Slot.val (tupZ b)),some (Slot.val (D.int q)),some (Slot.own (List.map D.int N0)),some (Slot.val (D.int pw)),some (Slot.val (D.int x)),u6,u7] =
    some (.next [some (Slot.val (tupZ a)),some (Slot.val (tupZ b)),some (Slot.val (D.int q)),some (Slot.own (List.map D.int N)),some (Slot.val (D.int pw)),some (Slot.val (D.int x)),v6,v7])∧N.length=N0.length∧Red q N∧ser q N=ser q N0 + mn (ic x) j * ser q b:=by
  subst hj
  have hq':(0:Int) < q:=by (clear hx2 hx h0 hn; (first|lia|omega))
  obtain ⟨S',e,N,v6,v7,hS,hl,hr,hs⟩:=loopD_inv0 (set:=sTup 2 (sCons (sName 6) (sCons (sName 7) sNil))) (g:=R.b_times_1 R.m_trimmed)
    (fun k S=>∃ (N:List Int) (v6 v7:Option Slot),S=[some (Slot.val (tupZ a)),some (Slot.val (tupZ b)),some (Slot.val (D.int q)),some (Slot.own (List.map D.int N)),some (Slot.val (D.int j)),some (Slot.val (D.int x)),v6,v7]∧N.length=N0.length∧Red q N∧ser q N=ser q N0 + mn (ic x) j * ser q (b.take k))
    (l:=enumD (b.map D.int)) (S:=[some (Slot.val (tupZ a)),some (Slot.val (tupZ b)),some (Slot.val (D.int q)),some (Slot.own (List.map D.int N0)),some (Slot.val (D.int j)),some (Slot.val (D.int x)),u6,u7])
    ⟨N0,u6,u7,rfl,rfl,h0,by simp [ser_nil]; grind⟩ (fun k d S hk ⟨N,v6,v7,hS,hl,hr,hs⟩=>by
      obtain ⟨hk2,rfl⟩:=enumZ_get hk
      subst hS
      refine ⟨[some (Slot.val (tupZ a)),some (Slot.val (tupZ b)),some (Slot.val (D.int q)),some (Slot.own (List.map D.int N)),some (Slot.val (D.int j)),some (Slot.val (D.int x)),some (Slot.val (D.int k)),some (Slot.val (D.int (b[k])))],[some (Slot.val (tupZ a)),some (Slot.val (tupZ b)),some (Slot.val (D.int q)),some (Slot.own (List.map D.int (N.set (j + k) ((co N (j + k) + x * b[k]) % q)))),some (Slot.val (D.int j)),some (Slot.val (D.int x)),some (Slot.val (D.int k)),some (Slot.val (D.int (b[k])))],by simp,?_,N.set (j + k) ((co N (j + k) + x * b[k]) % q),some (Slot.val (D.int k)),some (Slot.val (D.int (b[k]))),rfl,by simpa using hl,hr.set ⟨Int.emod_nonneg _ (by (clear hk hk2 hs hr hl hq' hx2 hx h0 hn; (first|lia|omega))),Int.emod_lt_of_pos _ hq'⟩ _,?_⟩
      · have z:=ixN_nat (n:=N.length) (i:=(j:Int) + k) (by (clear hk hk2 hs hr hl hq' hx2 hx hq h0 hn; (first|lia|omega))) (by (clear hk hs hr hq' hx2 hx hq h0; (first|lia|omega)))
        have z2:=atI_ints (l:=N) (i:=(j:Int) + k) (by (clear z hk hk2 hs hr hl hq' hx2 hx hq h0 hn; (first|lia|omega))) (by (clear z hk hs hr hq' hx2 hx hq h0; (first|lia|omega)))
        have z3:((j:Int) + k).toNat=j + k:=by (clear z2 z hk hk2 hs hr hl hq' hx2 hx hq h0 hn; (first|lia|omega))
        rw [z3] at z z2
        have ok:okMul x b[k]=true:=okMul_l (by (clear z3 z2 z hk hk2 hs hr hl hq' hx2 hq h0 hn; (first|lia|omega))) (by (clear z3 z2 z hk hk2 hs hr hl hq' hx hq h0 hn; (first|lia|omega)))
        simp [R.b_times_1,z,z2,hq,ok]
      · rw [ser_set _ _ _ (by (clear hk hs hr hq' hx2 hx hq h0; (first|lia|omega))),ser_take _ _ hk2,hs,ic_mod,ic_add,ic_mul]
        have:(ic (co N (j + k)) + ic x * ic b[k] - ic (co N (j + k)):Fin q)=ic x * ic b[k]:=by grind
        rw [this,← mn_mn]; grind)
  subst hS
  rw [enumZ_len,List.take_of_length_le (Nat.le_refl _)] at hs
  exact ⟨N,v6,v7,e,hl,hr,hs⟩
theorem L_times2 (a b:List Int) (n:Nat) (hn:a.length + b.length ≤ n) (ha:Red q a) (hq:0 < q) (hq5:q ≤ 5):∃ (N:List Int) (v4 v5 v6 v7:Option Slot),loopD (sTup 2 (sCons (sName 4) (sCons (sName 5) sNil))) (R.b_times_2 R.m_trimmed) (enumD (a.map D.int)) [some (Slot.val (tupZ a)),some (Slot.val (tupZ b)),some (Slot.val (D.int q)),some (Slot.own (List.map D.int (List.replicate n 0))),none,none,none,none] =
    some (.next [some (Slot.val (tupZ a)),some (Slot.val (tupZ b)),some (Slot.val (D.int q)),some (Slot.own (List.map D.int N)),v4,v5,v6,v7])∧N.length=n∧Red q N∧ser q N=ser q a * ser q b:=by
  have hq':(0:Int) < q:=by (clear hq5 ha hn; (first|lia|omega))
  obtain ⟨S',e,N,v4,v5,v6,v7,hS,hl,hr,hs⟩:=loopD_inv0 (set:=sTup 2 (sCons (sName 4) (sCons (sName 5) sNil))) (g:=R.b_times_2 R.m_trimmed)
    (fun k S=>∃ (N:List Int) (v4 v5 v6 v7:Option Slot),S=[some (Slot.val (tupZ a)),some (Slot.val (tupZ b)),some (Slot.val (D.int q)),some (Slot.own (List.map D.int N)),v4,v5,v6,v7]∧N.length=n∧Red q N∧ser q N=ser q (a.take k) * ser q b)
    (l:=enumD (a.map D.int)) (S:=[some (Slot.val (tupZ a)),some (Slot.val (tupZ b)),some (Slot.val (D.int q)),some (Slot.own (List.map D.int (List.replicate n 0))),none,none,none,none])
    ⟨List.replicate n 0,none,none,none,none,rfl,by simp,fun x hx=>by
      obtain ⟨_,rfl⟩:=List.mem_replicate.mp hx
      (clear hx hq' hq5 ha hn; (first|lia|omega)),by simp [ser_zeros,ser_nil]; grind⟩ (fun k d S hk ⟨N,v4,v5,v6,v7,hS,hl,hr,hs⟩=>by
      obtain ⟨hk2,rfl⟩:=enumZ_get hk
      subst hS
      have hx:=ha _ (List.getElem_mem hk2)
      obtain ⟨N',w6,w7,e1,l1,r1,s1⟩:=L_times1 a b N (k:Int) a[k] k rfl v6 v7 (by (clear hx hk hs hr hq' hq5 hq ha; (first|lia|omega))) hr hq hx.1 (by (clear hk hs hr hl hq' hq ha hn; (first|lia|omega)))
      refine ⟨[some (Slot.val (tupZ a)),some (Slot.val (tupZ b)),some (Slot.val (D.int q)),some (Slot.own (List.map D.int N)),some (Slot.val (D.int k)),some (Slot.val (D.int (a[k]))),v6,v7],[some (Slot.val (tupZ a)),some (Slot.val (tupZ b)),some (Slot.val (D.int q)),some (Slot.own (List.map D.int N')),some (Slot.val (D.int k)),some (Slot.val (D.int (a[k]))),w6,w7],by simp,?_,N',some (Slot.val (D.int k)),some (Slot.val (D.int (a[k]))),w6,w7,rfl,by (clear s1 r1 e1 hx hk hk2 hs hr hq' hq5 hq ha hn; (first|lia|omega)),r1,?_⟩
      · simp [R.b_times_2,e1]
      · rw [s1,hs,ser_take _ _ hk2]; grind)
  subst hS
  rw [enumZ_len,List.take_of_length_le (Nat.le_refl _)] at hs
  exact ⟨N,v4,v5,v6,v7,e,hl,hr,hs⟩
theorem E_times (hq:0 < q) (hq5:q ≤ 5) (a b:List Int) (ha:Red q a) (la:a.length ≤ 90) (lb:b.length ≤ 90):∃ r,Sm q r∧r.length ≤ a.length + b.length∧ser q r=ser q a * ser q b∧R.m_times [tupZ a,tupZ b,.int q]=some (.ok (tupZ r)):=by
  obtain ⟨N,v4,v5,v6,v7,e1,l1,r1,s1⟩:=L_times2 a b (a.length + b.length) (Nat.le_refl _) ha hq hq5
  obtain ⟨r,g1,g2⟩:=E_trimmed N (by (clear s1 r1 e1 ha hq5 hq; (first|lia|omega)))
  refine ⟨r,g1.sm r1,by have:=g1.len; (clear g2 g1 s1 r1 e1 lb la ha hq5 hq; (first|lia|omega)),by rw [g1.ser,s1],?_⟩
  have ok:=okRep_small (n:=1) (k:=((a.length:Int) + b.length)) (by (clear g2 g1 s1 r1 l1 e1 lb la ha hq5 hq; (first|lia|omega))) (by (clear g2 g1 s1 r1 l1 e1 ha hq5 hq; (first|lia|omega)))
  have z3:((a.length:Int) + b.length).toNat=a.length + b.length:=by (clear ok g2 g1 s1 r1 l1 e1 lb la ha hq5 hq; (first|lia|omega))
  rw [List.map_replicate] at e1
  unfold R.m_times R.g_times
  simp [ok,z3,e1,g2]
theorem E_l_times (hq:0 < q) (hq5:q ≤ 5) (a b:List Int) (ha:Red q a) (la:a.length ≤ 90) (lb:b.length ≤ 90):∃ r,Sm q r∧r.length ≤ a.length + b.length∧ser q r=ser q a * ser q b∧R.m_l_times [tupZ a,tupZ b,.int q]=some (.ok (tupZ r)):=by
  obtain ⟨N,v4,v5,v6,v7,e1,l1,r1,s1⟩:=L_times2 a b (a.length + b.length) (Nat.le_refl _) ha hq hq5
  obtain ⟨r,g1,g2⟩:=E_l_trim (.lst (N.map D.int)) N (.inl rfl) (by (clear s1 r1 e1 ha hq5 hq; (first|lia|omega)))
  refine ⟨r,g1.sm r1,by have:=g1.len; (clear g2 g1 s1 r1 e1 lb la ha hq5 hq; (first|lia|omega)),by rw [g1.ser,s1],?_⟩
  have ok:=okRep_small (n:=1) (k:=((a.length:Int) + b.length)) (by (clear g2 g1 s1 r1 l1 e1 lb la ha hq5 hq; (first|lia|omega))) (by (clear g2 g1 s1 r1 l1 e1 ha hq5 hq; (first|lia|omega)))
  have z3:((a.length:Int) + b.length).toNat=a.length + b.length:=by (clear ok g2 g1 s1 r1 l1 e1 lb la ha hq5 hq; (first|lia|omega))
  have same:R.b_l_times_2 R.m_l_trim=R.b_times_2 R.m_trimmed:=rfl
  rw [List.map_replicate] at e1
  unfold R.m_l_times R.g_l_times
  rw [same]
  simp [ok,z3,e1,g2]
end
end PF
set_option Elab.async false
set_option linter.all false
set_option maxRecDepth 100000
set_option maxHeartbeats 4000000
namespace PF
open PySem L2 PA
section
variable {q:Nat} [NeZero q]
theorem L_parted1 (a b N0 W:List Int) (t sh o:Int) (j:Nat) (hj:sh=j) (u8 u9:Option Slot) (hn:j + b.length ≤ N0.length) (h0:Red q N0) (hq:0 < q) (hx:0 ≤ o) (hx2:o ≤ 1000) :
    ∃ (N:List Int) (v8 v9:Option Slot),loopD (sTup 2 (sCons (sName 8) (sCons (sName 9) sNil))) (R.b_parted_1 R.m_turned_number R.m_trimmed) (enumD (b.map D.int)) [some (Slot.val (tupZ a)),some (Slot.val (tupZ b)),some (Slot.val (D.int q)),some (Slot.val (D.int t)),some (Slot.own (List.map D.int N0)),some (Slot.own (List.map D.int W)),some (Slot.val (D.int sh)),some (Slot.val (D.int o)),u8,u9] =
    some (.next [some (Slot.val (tupZ a)),some (Slot.val (tupZ b)),some (Slot.val (D.int q)),some (Slot.val (D.int t)),some (Slot.own (List.map D.int N)),some (Slot.own (List.map D.int W)),some (Slot.val (D.int sh)),some (Slot.val (D.int o)),v8,v9])∧N.length=N0.length∧Red q N∧ser q N=ser q N0 - mn (ic o) j * ser q b:=by
  subst hj
  have hq':(0:Int) < q:=by (clear hx2 hx h0 hn; (first|lia|omega))
  obtain ⟨S',e,N,v8,v9,hS,hl,hr,hs⟩:=loopD_inv0 (set:=sTup 2 (sCons (sName 8) (sCons (sName 9) sNil))) (g:=R.b_parted_1 R.m_turned_number R.m_trimmed)
    (fun k S=>∃ (N:List Int) (v8 v9:Option Slot),S=[some (Slot.val (tupZ a)),some (Slot.val (tupZ b)),some (Slot.val (D.int q)),some (Slot.val (D.int t)),some (Slot.own (List.map D.int N)),some (Slot.own (List.map D.int W)),some (Slot.val (D.int j)),some (Slot.val (D.int o)),v8,v9]∧N.length=N0.length∧Red q N∧ser q N=ser q N0 - mn (ic o) j * ser q (b.take k))
    (l:=enumD (b.map D.int)) (S:=[some (Slot.val (tupZ a)),some (Slot.val (tupZ b)),some (Slot.val (D.int q)),some (Slot.val (D.int t)),some (Slot.own (List.map D.int N0)),some (Slot.own (List.map D.int W)),some (Slot.val (D.int j)),some (Slot.val (D.int o)),u8,u9])
    ⟨N0,u8,u9,rfl,rfl,h0,by simp [ser_nil]; grind⟩ (fun k d S hk ⟨N,v8,v9,hS,hl,hr,hs⟩=>by
      obtain ⟨hk2,rfl⟩:=enumZ_get hk
      subst hS
      refine ⟨[some (Slot.val (tupZ a)),some (Slot.val (tupZ b)),some (Slot.val (D.int q)),some (Slot.val (D.int t)),some (Slot.own (List.map D.int N)),some (Slot.own (List.map D.int W)),some (Slot.val (D.int j)),some (Slot.val (D.int o)),some (Slot.val (D.int k)),some (Slot.val (D.int (b[k])))],[some (Slot.val (tupZ a)),some (Slot.val (tupZ b)),some (Slot.val (D.int q)),some (Slot.val (D.int t)),some (Slot.own (List.map D.int (N.set (j + k) ((co N (j + k) - o * b[k]) % q)))),some (Slot.own (List.map D.int W)),some (Slot.val (D.int j)),some (Slot.val (D.int o)),some (Slot.val (D.int k)),some (Slot.val (D.int (b[k])))],by simp,?_,N.set (j + k) ((co N (j + k) - o * b[k]) % q),some (Slot.val (D.int k)),some (Slot.val (D.int (b[k]))),rfl,by simpa using hl,hr.set ⟨Int.emod_nonneg _ (by (clear hk hk2 hs hr hl hq' hx2 hx h0 hn; (first|lia|omega))),Int.emod_lt_of_pos _ hq'⟩ _,?_⟩
      · have z:=ixN_nat (n:=N.length) (i:=(j:Int) + k) (by (clear hk hk2 hs hr hl hq' hx2 hx hq h0 hn; (first|lia|omega))) (by (clear hk hs hr hq' hx2 hx hq h0; (first|lia|omega)))
        have z2:=atI_ints (l:=N) (i:=(j:Int) + k) (by (clear z hk hk2 hs hr hl hq' hx2 hx hq h0 hn; (first|lia|omega))) (by (clear z hk hs hr hq' hx2 hx hq h0; (first|lia|omega)))
        have z3:((j:Int) + k).toNat=j + k:=by (clear z2 z hk hk2 hs hr hl hq' hx2 hx hq h0 hn; (first|lia|omega))
        rw [z3] at z z2
        have ok:okMul o b[k]=true:=okMul_l (by (clear z3 z2 z hk hk2 hs hr hl hq' hx2 hq h0 hn; (first|lia|omega))) (by (clear z3 z2 z hk hk2 hs hr hl hq' hx hq h0 hn; (first|lia|omega)))
        simp [R.b_parted_1,z,z2,hq,ok]
      · rw [ser_set _ _ _ (by (clear hk hs hr hq' hx2 hx hq h0; (first|lia|omega))),ser_take _ _ hk2,hs,ic_mod,ic_sub,ic_mul]
        have:(ic (co N (j + k)) - ic o * ic b[k] - ic (co N (j + k)):Fin q)=(-1:Fin q) * (ic o * ic b[k]):=by grind
        rw [this]
        have e2:mn ((-1:Fin q) * (ic o * ic b[k])) (j + k)=- (mn (ic o) j * mn (ic b[k]) k):=by
          rw [mn_mn]
          refine Ser.ext fun n=>?_
          rw [neg_c]
          simp only [mn]
          split <;> grind
        rw [e2]; grind)
  subst hS
  rw [enumZ_len,List.take_of_length_le (Nat.le_refl _)] at hs
  exact ⟨N,v8,v9,e,hl,hr,hs⟩
theorem downD_get {lo hi:Int} {k:Nat} {d:D} (h:(downD lo hi)[k]?=some d):d=.int (lo - k)∧(k:Int) < lo - hi:=by
  unfold downD at h
  rw [List.getElem?_map] at h
  cases z:(List.range (lo - hi).toNat)[k]? with
  | none=>rw [z] at h; cases h
  | some j=>
    rw [z] at h
    obtain ⟨h1,h2⟩:=List.getElem?_eq_some_iff.mp z
    rw [List.getElem_range] at h2
    rw [List.length_range] at h1
    subst h2
    simp at h
    exact ⟨h.symm,by (clear h z; (first|lia|omega))⟩
theorem downD_len (lo hi:Int):(downD lo hi).length=(lo - hi).toNat:=by simp [downD]
theorem L_parted2 (a b:List Int) (t:Int) (ha:Red q a) (hb:Sm q b) (hne:b ≠ []) (hq:0 < q) (hq5:q ≤ 5) (ht:0 ≤ t∧t < q) (hinv:co b (b.length - 1) * t % q=1) (hl1:a.length ≤ 190) (hbl:b.length ≤ 190) :
    ∃ (N W:List Int) (v6 v7 v8 v9:Option Slot),loopD (sName 6) (R.b_parted_2 R.m_turned_number R.m_trimmed) (downD ((a.length:Int) - b.length) (-1)) [some (Slot.val (tupZ a)),some (Slot.val (tupZ b)),some (Slot.val (D.int q)),some (Slot.val (D.int t)),some (Slot.own (List.map D.int a)),some (Slot.own (List.map D.int (List.replicate a.length 0))),none,none,none,none] =
    some (.next [some (Slot.val (tupZ a)),some (Slot.val (tupZ b)),some (Slot.val (D.int q)),some (Slot.val (D.int t)),some (Slot.own (List.map D.int N)),some (Slot.own (List.map D.int W)),v6,v7,v8,v9])∧N.length=a.length∧W.length=a.length∧Red q N∧Red q W∧ser q a=ser q W * ser q b + ser q N∧∀ k,b.length - 1 ≤ k→co N k=0:=by
  have hq':(0:Int) < q:=by (clear hbl hl1 hinv ht hq5 hne hb ha; (first|lia|omega))
  have hb0:=List.length_pos_iff.mpr hne
  refine Classical.byContradiction fun hN=>?_
  obtain ⟨S',e,N,W,v6,v7,v8,v9,hS,hl,hw,hr,hrw,hs,hz,hzw⟩:=loopD_inv0 (set:=sName 6) (g:=R.b_parted_2 R.m_turned_number R.m_trimmed)
    (fun k S=>∃ (N W:List Int) (v6 v7 v8 v9:Option Slot),S=[some (Slot.val (tupZ a)),some (Slot.val (tupZ b)),some (Slot.val (D.int q)),some (Slot.val (D.int t)),some (Slot.own (List.map D.int N)),some (Slot.own (List.map D.int W)),v6,v7,v8,v9]∧N.length=a.length∧W.length=a.length∧Red q N∧Red q W∧ser q a=ser q W * ser q b + ser q N∧(∀ i,a.length ≤ i + k→co N i=0)∧∀ i,i + b.length + k ≤ a.length→co W i=0)
    (l:=downD ((a.length:Int) - b.length) (-1)) (S:=[some (Slot.val (tupZ a)),some (Slot.val (tupZ b)),some (Slot.val (D.int q)),some (Slot.val (D.int t)),some (Slot.own (List.map D.int a)),some (Slot.own (List.map D.int (List.replicate a.length 0))),none,none,none,none])
    ⟨a,List.replicate a.length 0,none,none,none,none,rfl,rfl,by simp,ha,fun x hx=>by
      obtain ⟨_,rfl⟩:=List.mem_replicate.mp hx
      (clear hx hN hb0 hq' hbl hl1 hinv ht hq5 hne hb ha; (first|lia|omega)),by rw [ser_zeros]; grind,fun i hi=>getD_ge (by (clear hN hb0 hq' hbl hl1 hinv ht hq5 hq hne hb ha; (first|lia|omega))),fun i hi=>by
      rw [getD_lt (by simp; (clear hN hq' hbl hl1 hinv ht hq5 hq hne hb ha; (first|lia|omega)))]; simp⟩ (fun k d S hk ⟨N,W,v6,v7,v8,v9,hS,hl,hw,hr,hrw,hs,hz,hzw⟩=>by
      obtain ⟨rfl,hk2⟩:=downD_get hk
      subst hS
      -- j: the shift
      obtain ⟨j,hj⟩:∃ j:Nat,(a.length:Int) - b.length - k=j:=⟨((a.length:Int) - b.length - k).toNat,by (clear hk hzw hz hs hrw hr hw hl hN hb0 hq' hbl hl1 hinv ht hq5 hq hne hb ha; (first|lia|omega))⟩
      rw [hj]
      have hjl:j + b.length + k=a.length:=by (clear hk hk2 hzw hz hs hrw hr hw hl hN hb0 hq' hbl hl1 hinv ht hq5 hq hne hb ha; (first|lia|omega))
      obtain ⟨x,hx⟩:∃ x,x=co N (j + b.length - 1):=⟨_,rfl⟩
      have hx0:0 ≤ x∧x < q:=by rw [hx]; exact hr.getD hq' _
      obtain ⟨o,ho⟩:∃ o,o=x * t % q:=⟨_,rfl⟩
      have ho0:0 ≤ o∧o < q:=by rw [ho]; exact ⟨Int.emod_nonneg _ (by (clear ho hx0 hx hjl hj hk hk2 hzw hz hs hrw hr hw hl hN hb0 hq' hbl hl1 hinv ht hq5 hne hb ha; (first|lia|omega))),Int.emod_lt_of_pos _ hq'⟩
      obtain ⟨N',w8,w9,e1,l1,r1,s1⟩:=L_parted1 a b N (W.set j o) t (j:Int) o j rfl v8 v9 (by (clear ho0 ho hx0 hx hjl hk hk2 hzw hz hs hrw hr hw hN hb0 hq' hbl hl1 hinv ht hq5 hq hne hb ha; (first|lia|omega))) hr hq ho0.1 (by (clear ho hx0 hx hjl hj hk hk2 hzw hz hs hrw hr hw hl hN hb0 hq' hbl hl1 hinv ht hq hne hb ha; (first|lia|omega)))
      refine ⟨[some (Slot.val (tupZ a)),some (Slot.val (tupZ b)),some (Slot.val (D.int q)),some (Slot.val (D.int t)),some (Slot.own (List.map D.int N)),some (Slot.own (List.map D.int W)),some (Slot.val (D.int j)),v7,v8,v9],[some (Slot.val (tupZ a)),some (Slot.val (tupZ b)),some (Slot.val (D.int q)),some (Slot.val (D.int t)),some (Slot.own (List.map D.int N')),some (Slot.own (List.map D.int (W.set j o))),some (Slot.val (D.int j)),some (Slot.val (D.int o)),w8,w9],by simp,?_,N',W.set j o,some (Slot.val (D.int j)),some (Slot.val (D.int o)),w8,w9,rfl,by (clear s1 r1 e1 ho0 ho hx0 hx hjl hj hk hk2 hzw hz hs hrw hr hw hN hb0 hq' hbl hl1 hinv ht hq5 hq hne hb ha; (first|lia|omega)),by simpa using hw,r1,hrw.set ho0 j,?_,fun i hi=>?_,fun i hi=>?_⟩
      · have z:=ixN_nat (n:=W.length) (i:=(j:Int)) (by (clear s1 r1 l1 e1 ho0 ho hx0 hx hjl hj hk hk2 hzw hz hs hrw hr hw hl hN hb0 hq' hbl hl1 hinv ht hq5 hq hne hb ha; (first|lia|omega))) (by (clear s1 r1 l1 e1 ho0 ho hx0 hx hjl hk hk2 hzw hz hs hrw hr hl hN hq' hbl hl1 hinv ht hq5 hq hne hb ha; (first|lia|omega)))
        have z2:=atI_ints (l:=N) (i:=(j:Int) + b.length - 1) (by (clear z s1 r1 l1 e1 ho0 ho hx0 hx hjl hj hk hk2 hzw hz hs hrw hr hw hl hN hq' hbl hl1 hinv ht hq5 hq hne hb ha; (first|lia|omega))) (by (clear z s1 r1 l1 e1 ho0 ho hx0 hx hjl hk hk2 hzw hz hs hrw hr hw hN hb0 hq' hbl hl1 hinv ht hq5 hq hne hb ha; (first|lia|omega)))
        have z3:((j:Int) + b.length - 1).toNat=j + b.length - 1:=by (clear z2 z s1 r1 l1 e1 ho0 ho hx0 hx hjl hj hk hk2 hzw hz hs hrw hr hw hl hN hb0 hq' hbl hl1 hinv ht hq5 hq hne hb ha; (first|lia|omega))
        rw [z3,← hx] at z2
        have ok:okMul x t=true:=okMul_l (by (clear z3 z2 z s1 r1 l1 e1 ho0 ho hx hjl hj hk hk2 hzw hz hs hrw hr hw hl hN hb0 hq' hbl hl1 hinv ht hq5 hq hne hb ha; (first|lia|omega))) (by (clear z3 z2 z s1 r1 l1 e1 ho0 ho hx hjl hj hk hk2 hzw hz hs hrw hr hw hl hN hb0 hq' hbl hl1 hinv ht hq hne hb ha; (first|lia|omega)))
        simp only [List.map_set] at e1
        simp [R.b_parted_2,z,z2,hq,ok,← ho,e1]
      · rw [s1,ser_set _ _ _ (by (clear s1 r1 l1 e1 ho0 ho hx0 hx hjl hk hk2 hzw hz hs hrw hr hl hN hq' hbl hl1 hinv ht hq5 hq hne hb ha; (first|lia|omega))),hzw j (by (clear s1 r1 l1 e1 ho0 ho hx0 hx hjl hk hk2 hzw hz hs hrw hr hw hl hN hb0 hq' hbl hl1 hinv ht hq5 hq hne hb ha; (first|lia|omega))),ic_zero,hs]
        have:(ic o - 0:Fin q)=ic o:=by grind
        rw [this]; grind
      · -- what stands at the top goes
        by_cases c:a.length ≤ i + k
        · have h1:(ser q N').c i=0:=by
            rw [s1,sub_c,mn_mul,ser_c,hz i c,ic_zero,if_pos (by (clear c s1 r1 l1 e1 ho0 ho hx0 hx hjl hk hk2 hzw hz hs hrw hr hw hl hN hq' hbl hl1 hinv ht hq5 hq hne hb ha; (first|lia|omega))),ser_c,getD_ge (l:=b) (by (clear hi s1 r1 l1 e1 ho0 ho hx0 hx hjl hk hk2 hzw hz hs hrw hr hw hl hN hb0 hq' hbl hl1 hinv ht hq5 hq hne hb ha; (first|lia|omega))),ic_zero]; grind
          rw [ser_c,← ic_zero] at h1
          exact ic_red (r1.getD hq' i) ⟨by (clear h1 c hi s1 r1 l1 e1 ho0 ho hx0 hx hjl hj hk hk2 hzw hz hs hrw hr hw hl hN hb0 hq' hbl hl1 hinv ht hq5 hq hne hb ha; (first|lia|omega)),hq'⟩ h1
        · have hi2:i=j + b.length - 1:=by (clear s1 r1 l1 e1 ho0 ho hx0 hx hjl hk hk2 hzw hz hs hrw hr hw hl hN hb0 hq' hbl hl1 hinv ht hq5 hq hne hb ha; (first|lia|omega))
          have h1:(ser q N').c i=0:=by
            rw [s1,sub_c,mn_mul,ser_c,if_pos (by (clear hi2 c s1 r1 l1 e1 ho0 ho hx0 hx hjl hk hk2 hzw hz hs hrw hr hw hl hN hq' hbl hl1 hinv ht hq5 hq hne hb ha; (first|lia|omega))),ser_c,hi2,← hx]
            have e3:j + b.length - 1 - j=b.length - 1:=by (clear hi2 c hi s1 r1 l1 e1 ho0 ho hx0 hx hjl hj hk hk2 hzw hz hs hrw hr hw hl hN hb0 hq' hbl hl1 hinv ht hq5 hq hne hb ha; (first|lia|omega))
            rw [e3,ho,ic_mod,ic_mul]
            have e4:(ic (co b (b.length - 1)) * ic t:Fin q)=1:=by
              rw [← ic_mul,← ic_one]
              refine ic_eq.mpr ?_
              rw [hinv]
              have:(2:Int) ≤ q:=by
                rcases Nat.lt_or_ge q 2 with c | c
                · exfalso
                  have:q=1:=by (clear e3 hi2 hi s1 r1 l1 e1 ho0 ho hx0 hx hjl hj hk hk2 hzw hz hs hrw hr hw hl hN hb0 hq' hbl hl1 hinv ht hq5 hne hb ha; (first|lia|omega))
                  rw [this] at hinv
                  (clear this e3 hi2 hi s1 r1 l1 e1 ho0 ho hx0 hx hjl hj hk hk2 hzw hz hs hrw hr hw hl hN hb0 hq' hbl hl1 ht hq5 hq hne hb ha; (first|lia|omega))
                · (clear e3 hi2 hi s1 r1 l1 e1 ho0 ho hx0 hx hjl hj hk hk2 hzw hz hs hrw hr hw hl hN hb0 hq' hbl hl1 hinv ht hq5 hq hne hb ha; (first|lia|omega))
              rw [Int.emod_eq_of_lt (by (clear this e3 hi2 c hi s1 r1 l1 e1 ho0 ho hx0 hx hjl hj hk hk2 hzw hz hs hrw hr hw hl hN hb0 hq' hbl hl1 hinv ht hq5 hq hne hb ha; (first|lia|omega))) (by (clear e3 hi2 c hi s1 r1 l1 e1 ho0 ho hx0 hx hjl hj hk hk2 hzw hz hs hrw hr hw hl hN hb0 hq' hbl hl1 hinv ht hq5 hq hne hb ha; (first|lia|omega)))]
            have:(ic x * ic t * ic (co b (b.length - 1)):Fin q)=ic x * (ic (co b (b.length - 1)) * ic t):=by grind
            rw [this,e4]; grind
          rw [ser_c,← ic_zero] at h1
          exact ic_red (r1.getD hq' i) ⟨by (clear h1 hi2 c hi s1 r1 l1 e1 ho0 ho hx0 hx hjl hj hk hk2 hzw hz hs hrw hr hw hl hN hb0 hq' hbl hl1 hinv ht hq5 hq hne hb ha; (first|lia|omega)),hq'⟩ h1
      · have:co (W.set j o) i=co W i:=by simp [co,List.getD,List.getElem?_set_ne (show j ≠ i by (clear s1 r1 l1 e1 ho0 ho hx0 hx hjl hk hk2 hzw hz hs hrw hr hw hl hN hb0 hq' hbl hl1 hinv ht hq5 hq hne hb ha; (first|lia|omega)))]
        rw [this]; exact hzw i (by (clear this s1 r1 l1 e1 ho0 ho hx0 hx hjl hj hk hk2 hzw hz hs hrw hr hw hl hN hb0 hq' hbl hl1 hinv ht hq5 hq hne hb ha; (first|lia|omega))))
  subst hS
  rw [downD_len] at hz
  refine hN ⟨N,W,v6,v7,v8,v9,e,hl,hw,hr,hrw,hs,fun k hk=>hz k (by (clear e hzw hz hs hrw hr hw hl hN hb0 hq' hbl hl1 hinv ht hq5 hq hne hb ha; (first|lia|omega)))⟩
theorem E_parted {p:Int} (hp:Clock p) (hpq:p=q) (a b:List Int) (ha:Red q a) (hb:Sm q b) (hne:b ≠ []) (la:a.length ≤ 190) (lb:b.length ≤ 190) :
    ∃ m r,Sm q m∧Sm q r∧m.length ≤ a.length∧r.length < b.length∧ser q a=ser q m * ser q b + ser q r∧R.m_parted [tupZ a,tupZ b,.int q]=some (.ok (.tup [tupZ m,tupZ r])):=by
  have h25:=one_le_of hp hpq
  have hq':(0:Int) < q:=by (clear lb la hne hb ha hpq hp; (first|lia|omega))
  have hb0:=List.length_pos_iff.mpr hne
  have hbt:=hb.1.getD hq' (b.length - 1)
  have hbt0:=hb.2.last hne
  obtain ⟨t,t0,t1,t2,t3⟩:=E_turned hp (a:=co b (b.length - 1)) (by (clear hb0 hq' h25 lb la hne hb ha hpq hp; (first|lia|omega))) (by (clear hbt0 hb0 hq' h25 lb la hne hb ha hp; (first|lia|omega)))
  rw [hpq] at t1 t2 t3
  obtain ⟨N,W,v6,v7,v8,v9,e,hl,hw,hr,hrw,hs,hz⟩:=L_parted2 a b t ha hb hne (by (clear t3 t2 t1 t0 hbt0 hbt hb0 hq' lb la hne hb ha hpq hp; (first|lia|omega))) (by (clear t3 t2 t1 t0 hbt0 hbt hb0 hq' lb la hne hb ha hpq hp; (first|lia|omega))) ⟨t0,t1⟩ t2 la lb
  obtain ⟨m,m1,m2⟩:=E_trimmed W (by (clear hz hs hrw hr hl e t3 t2 t1 t0 hbt0 hbt hb0 hq' h25 lb hne hb ha hpq hp; (first|lia|omega)))
  obtain ⟨r,r1,r2⟩:=E_trimmed N (by (clear m2 m1 hz hs hrw hr hw e t3 t2 t1 t0 hbt0 hbt hb0 hq' h25 lb hne hb ha hpq hp; (first|lia|omega)))
  refine ⟨m,r,m1.sm hrw,r1.sm hr,by have:=m1.len; (clear r2 r1 m2 m1 hz hs hrw hr hl e t3 t2 t1 t0 hbt0 hbt hb0 hq' h25 lb la hne hb ha hpq hp; (first|lia|omega)),?_,by rw [hs,m1.ser,r1.ser],?_⟩
  · have:=r1.bd hz
    (clear r2 r1 m2 m1 hz hs hrw hr hw hl e t3 t2 t1 t0 hbt0 hbt hq' h25 lb la hne hb ha hpq hp; (first|lia|omega))
  · have ok:=okRep_small (n:=1) (k:=(a.length:Int)) (by (clear r2 r1 m2 m1 hz hs hrw hr hw hl e t3 t2 t1 t0 hbt0 hbt hb0 hq' h25 lb la hne hb ha hpq hp; (first|lia|omega))) (by (clear r2 r1 m2 m1 hz hs hrw hr hw hl e t3 t2 t1 t0 hbt0 hbt hb0 hq' h25 lb hne hb ha hpq hp; (first|lia|omega)))
    have z1:¬ ((b.length:Int)=0):=by (clear ok r2 r1 m2 m1 hz hs hrw hr hw hl e t3 t2 t1 t0 hbt0 hbt hq' h25 lb la hne hb ha hpq hp; (first|lia|omega))
    have z2:¬ b=[]:=hne
    have z3:=atI_intsL hne
    have dn:down3 (some ((a.length:Int) - b.length)) (some (-1)) (some (-1))=some (.ok (downD ((a.length:Int) - b.length) (-1))):=by
      simp only [down3]
      rw [if_pos ⟨by simp; (clear z3 z2 z1 ok r2 r1 m2 m1 hz hs hrw hr hw hl e t3 t2 t1 t0 hbt0 hbt hb0 hq' h25 hne hb ha hpq hp; (first|lia|omega)),by simp,trivial⟩]
    rw [List.map_replicate] at e
    unfold R.m_parted R.g_parted
    unfold tupZ at *
    simp [z2,z3,t3,ok,dRange3,asInt,dn,e,m2,r2]
end
end PF
set_option Elab.async false
set_option linter.all false
set_option maxRecDepth 100000
set_option maxHeartbeats 4000000
namespace PF
open PySem L2 PA
theorem compD_map2 {set:D→DS→Option DS} {t:DS→M Bool} {fe:DS→M VR} {γ:Type} (f:γ→D) (k:γ→D) (st:Option Slot→Option Slot→DS) (v:γ→Option Slot × Option Slot) (l:List γ) (o o':Option Slot)
    (h1:∀ a o o',a ∈ l→set (f a) (st o o')=some (st (v a).1 (v a).2)) (h2:∀ a,a ∈ l→t (st (v a).1 (v a).2)=some (.ok true)) (h3:∀ a,a ∈ l→fe (st (v a).1 (v a).2)=some (.ok (.ok (k a)))) :
    compD set t fe (l.map f) (st o o')=some (l.map k):=by
  induction l generalizing o o' with
  | nil=>rfl
  | cons a l ih=>
    rw [List.map_cons,compD,h1 a o o' (by simp)]
    simp only
    rw [h2 a (by simp)]
    simp only
    rw [h3 a (by simp)]
    simp only
    rw [ih _ _ (fun a o o' h=>h1 a o o' (by simp [h])) (fun a h=>h2 a (by simp [h])) (fun a h=>h3 a (by simp [h]))]
    rfl
theorem nz2:∀ a b:Fin 2,a * b=0→a=0∨b=0:=by decide
theorem nz3:∀ a b:Fin 3,a * b=0→a=0∨b=0:=by decide
theorem nz5:∀ a b:Fin 5,a * b=0→a=0∨b=0:=by decide
theorem nzd {p:Int} (hp:Clock p) {q:Nat} [NeZero q] (e:p=q):∀ a b:Fin q,a * b=0→a=0∨b=0:=by
  have:q=2∨q=3∨q=5:=by rcases hp with h | h | h <;> (first|lia|omega)
  rcases this with rfl | rfl | rfl
  · exact nz2
  · exact nz3
  · exact nz5
section
variable {q:Nat} [NeZero q]
theorem div_unique (nz:∀ a b:Fin q,a * b=0→a=0∨b=0) {b:List Int} (hb:Sm q b) (hne:b ≠ []) {f g r s:Ser (Fin q)} {n:Nat} (hf:Bd f n) (hg:Bd g n) (hr:Bd r (b.length - 1)) (hs:Bd s (b.length - 1)) (h:f * ser q b + r=g * ser q b + s):f=g∧r=s:=by
  have hb0:=List.length_pos_iff.mpr hne
  rcases Classical.em (f - g=0) with z | z
  · have e:f=g:=by grind
    subst e
    exact ⟨rfl,by grind⟩
  · exfalso
    obtain ⟨k,k1,k2,k3⟩:=exists_top (hf.sub hg) z
    have e:(f - g) * ser q b=s - r:=by grind
    have hbd:Bd (ser q b) (b.length - 1 + 1):=(ser_bd b).mono (by (clear e k3 k2 k1 z hb0 h hs hr hg hf hne hb nz; (first|lia|omega)))
    have t:=top_mul k3 hbd
    rw [e,(hs.sub hr) (k + (b.length - 1)) (by (clear t hbd e k3 k2 k1 z hb0 h hs hr hg hf hne hb nz; (first|lia|omega)))] at t
    rcases nz _ _ t.symm with h1 | h1
    · exact k2 h1
    · exact hb.top hne h1
theorem lead_of {p a:Int} (hp:Clock p) (hpq:p=q) (h1:1 ≤ a) (h2:a < p):∃ t:Nat,(t:Int) < p∧a * t % p=1∧(List.range q).filter (fun (k:Nat)=>decide ((k:Int) * a % (q:Int)=1))=[t]:=by
  have hq:q=2∧p=2∨q=3∧p=3∨q=5∧p=5:=by rcases hp with h | h | h <;> (clear h2 h1; (first|lia|omega))
  rcases hq with ⟨rfl,rfl⟩ | ⟨rfl,rfl⟩ | ⟨rfl,rfl⟩
  · have:a=1:=by (clear hpq hp; (first|lia|omega))
    subst this
    exact ⟨1,by decide,by decide,by decide⟩
  · have:a=1∨a=2:=by (clear hpq hp; (first|lia|omega))
    rcases this with rfl | rfl
    · exact ⟨1,by decide,by decide,by decide⟩
    · exact ⟨2,by decide,by decide,by decide⟩
  · have:a=1∨a=2∨a=3∨a=4:=by (clear hpq hp; (first|lia|omega))
    rcases this with rfl | rfl | rfl | rfl
    · exact ⟨1,by decide,by decide,by decide⟩
    · exact ⟨3,by decide,by decide,by decide⟩
    · exact ⟨2,by decide,by decide,by decide⟩
    · exact ⟨4,by decide,by decide,by decide⟩
theorem L_rest (a b:List Int) (t:Int) (ht:0 ≤ t∧t < q) (hb:Sm q b) (hne:b ≠ []) (hq:2 ≤ q) (hq5:q ≤ 5) (hinv:co b (b.length - 1) * t % q=1) (lb:b.length ≤ 190):∀ (n:Nat) (l:List Int) (f:Nat) (v5 v6:Option Slot),l.length=n→l.length ≤ 190→l.length < f→Sm q l→
    ∃ (r:List Int) (w5 w6:Option Slot) (Q:Ser (Fin q)),whileD (R.c_l_rest_1 R.m_l_trim) (R.b_l_rest_2 R.m_l_trim) f [some (Slot.val (tupZ a)),some (Slot.val (tupZ b)),some (Slot.val (D.int q)),some (Slot.val (D.lst (List.map D.int l))),some (Slot.val (D.int t)),v5,v6]=some (.next [some (Slot.val (tupZ a)),some (Slot.val (tupZ b)),some (Slot.val (D.int q)),some (Slot.val (D.lst (List.map D.int r))),some (Slot.val (D.int t)),w5,w6])∧Sm q r∧r.length < b.length∧r.length ≤ l.length∧Bd Q 200∧ser q l=Q * ser q b + ser q r:=fun n=>by
  have hq':(0:Int) < q:=by (clear lb hinv hq5 hq hne hb; (first|lia|omega))
  have hb0:=List.length_pos_iff.mpr hne
  induction n using Nat.strongRecOn with
  | ind n ih=>
    intro l f v5 v6 hn hl hf hs
    obtain ⟨f',rfl⟩:∃ f',f=f' + 1:=⟨f - 1,by (clear hs hl hn ih hb0 hq' lb hinv hq5 hq hne hb ht; (first|lia|omega))⟩
    refine Classical.byContradiction fun hN=>?_
    by_cases c:b.length ≤ l.length
    · have hlne:l ≠ []:=by rintro rfl; simp at c; exact hne c
      obtain ⟨x,hx⟩:∃ x,x=co l (l.length - 1):=⟨_,rfl⟩
      have hx0:0 ≤ x∧x < q:=by rw [hx]; exact hs.1.getD hq' _
      obtain ⟨w,hw⟩:∃ w,w=l.length - b.length:=⟨_,rfl⟩
      have hxt:0 ≤ x * t∧x * t ≤ 1000:=by
        refine ⟨Int.mul_nonneg hx0.1 ht.1,?_⟩
        have:=Int.mul_le_mul (show x ≤ 5 by (clear hw hx hlne c hN hf hs hl hn ih hb0 hq' lb hinv hq hne hb ht; (first|lia|omega))) (show t ≤ 5 by (clear hw hx0 hx hlne c hN hf hs hl hn ih hb0 hq' lb hinv hq hne hb; (first|lia|omega))) ht.1 (by decide)
        (clear hw hx0 hx hlne c hN hf hs hl hn ih hb0 hq' lb hinv hq5 hq hne hb ht; (first|lia|omega))
      have cw:∀ k,co (List.replicate w 0 ++ b) k=if w ≤ k then co b (k - w) else 0:=fun k=>by
        by_cases h:w ≤ k
        · rw [if_pos h]; simp [co,List.getD,List.getElem?_append_right (show (List.replicate w (0:Int)).length ≤ k by simpa using h)]
        · rw [if_neg h]; simp [co,List.getD,List.getElem?_append_left (show k < (List.replicate w (0:Int)).length by simp; (clear hxt hw hx0 hx hlne c hN hf hs hl hn ih hb0 hq' lb hinv hq5 hq hne hb ht; (first|lia|omega))),show k < w by (clear hxt hw hx0 hx hlne c hN hf hs hl hn ih hb0 hq' lb hinv hq5 hq hne hb ht; (first|lia|omega))]
      obtain ⟨L,hL⟩:∃ L:List Int,L=(List.range l.length).map fun i=>(co l i - x * t * co (List.replicate w 0 ++ b) i) % (q:Int):=⟨_,rfl⟩
      have hLr:Red q L:=fun y hy=>by
        rw [hL] at hy
        obtain ⟨k,_,rfl⟩:=List.mem_map.mp hy
        exact ⟨Int.emod_nonneg _ (by (clear hy hL cw hxt hw hx0 hx hlne c hN hf hs hl hn ih hb0 hq' lb hinv hq5 hq hne hb; (first|lia|omega))),Int.emod_lt_of_pos _ hq'⟩
      have hLl:L.length=l.length:=by rw [hL]; simp
      obtain ⟨r0,g1,g2⟩:=E_l_trim _ L (.inl rfl) (by (clear hLr hL cw hxt hw hx0 hx hlne c hN hf hs hn ih hb0 hq' lb hinv hq5 hq hne hb ht; (first|lia|omega)))
      have e4:(ic (co b (b.length - 1)) * ic t:Fin q)=1:=by
        rw [← ic_mul,← ic_one]
        refine ic_eq.mpr ?_
        rw [hinv,Int.emod_eq_of_lt (by (clear g2 g1 hLl hLr hL cw hxt hw hx0 hx hlne c hN hf hs hl hn ih hb0 hq' lb hinv hq5 hq hne hb ht; (first|lia|omega))) (by (clear g2 g1 hLl hLr hL cw hxt hw hx0 hx hlne c hN hf hs hl hn ih hb0 hq' lb hinv hq5 hne hb ht; (first|lia|omega)))]
      have hLs:ser q L=ser q l - mn (ic (x * t)) w * ser q b:=by
        refine Ser.ext fun k=>?_
        rw [hL,ser_co,sub_c,mn_mul,ser_c,ser_c]
        by_cases hk:k < l.length
        · rw [if_pos hk,ic_mod,ic_sub,ic_mul (x * t),cw]
          split
          · rfl
          · rw [ic_zero]; grind
        · rw [if_neg hk,getD_ge (l:=l) (by (clear e4 g2 g1 hLl hLr hL cw hxt hw hx0 hx hlne c hN hf hs hl hn ih hb0 hq' lb hinv hq5 hq hne hb ht; (first|lia|omega))),if_pos (by (clear e4 g2 g1 hLl hLr hL cw hxt hx0 hx hlne c hN hf hs hl hn ih hb0 hq' lb hinv hq5 hq hne hb ht; (first|lia|omega))),getD_ge (l:=b) (by (clear e4 g2 g1 hLl hLr hL cw hxt hx0 hx hlne hN hf hs hl hn ih hb0 hq' lb hinv hq5 hq hne hb ht; (first|lia|omega))),ic_zero]; grind
      have hz:∀ k,l.length - 1 ≤ k→co L k=0:=fun k hk=>by
        by_cases h:l.length ≤ k
        · exact getD_ge (by (clear hk hLs e4 g2 g1 hLr hL cw hxt hw hx0 hx hlne c hN hf hs hl hn ih hb0 hq' lb hinv hq5 hq hne hb ht; (first|lia|omega)))
        · have hk2:k=l.length - 1:=by (clear hLs e4 g2 g1 hLl hLr hL cw hxt hw hx0 hx hlne c hN hf hs hl hn ih hb0 hq' lb hinv hq5 hq hne hb ht; (first|lia|omega))
          have h1:(ser q L).c k=0:=by
            rw [hLs,sub_c,mn_mul,ser_c,if_pos (by (clear hk2 h hLs e4 g2 g1 hLl hLr hL cw hxt hx0 hx hlne c hN hf hs hl hn ih hq' lb hinv hq5 hq hne hb ht; (first|lia|omega))),ser_c,hk2,← hx]
            have e3:l.length - 1 - w=b.length - 1:=by (clear hk2 h hk hLs e4 g2 g1 hLl hLr hL cw hxt hx0 hx hlne hN hf hs hl hn ih hb0 hq' lb hinv hq5 hq hne hb ht; (first|lia|omega))
            rw [e3,ic_mul]
            have:(ic x * ic t * ic (co b (b.length - 1)):Fin q)=ic x * (ic (co b (b.length - 1)) * ic t):=by grind
            rw [this,e4]; grind
          rw [ser_c,← ic_zero] at h1
          exact ic_red (hLr.getD hq' k) ⟨by (clear h1 hk2 h hk hLs e4 g2 g1 hLl hLr hL cw hxt hw hx0 hx hlne c hN hf hs hl hn ih hb0 hq' lb hinv hq5 hq hne hb ht; (first|lia|omega)),hq'⟩ h1
      have hlt:r0.length < l.length:=by have:=g1.bd hz; (clear hz hLs e4 g2 g1 hLl hLr hL cw hxt hw hx0 hx hlne hN hf hs hl hn ih hq' lb hinv hq5 hq hne hb ht; (first|lia|omega))
      obtain ⟨r,w5,w6,Q,i1,i2,i3,i3',i4,i5⟩:=ih r0.length (by (clear hz hLs e4 g2 g1 hLl hLr hL cw hxt hw hx0 hx hlne c hN hf hs hl ih hb0 hq' lb hinv hq5 hq hne hb ht; (first|lia|omega))) r0 f' (some (Slot.val (D.int (x * t)))) (some (Slot.val (D.int w))) rfl (by (clear hz hLs e4 g2 g1 hLl hLr hL cw hxt hw hx0 hx hlne c hN hf hs hn ih hb0 hq' lb hinv hq5 hq hne hb ht; (first|lia|omega))) (by (clear hz hLs e4 g2 g1 hLl hLr hL cw hxt hw hx0 hx hlne c hN hs hl hn ih hb0 hq' lb hinv hq5 hq hne hb ht; (first|lia|omega))) (g1.sm hLr)
      refine hN ⟨r,w5,w6,Q + mn (ic (x * t)) w,?_,i2,i3,by (clear i5 i4 i3' i2 i1 hlt hz hLs e4 g2 g1 hLl hLr hL cw hxt hw hx0 hx hlne hN hf hs hl hn ih hb0 hq' lb hinv hq5 hq hne hb ht; (first|lia|omega)),i4.add ((Bd.mn _ _).mono (by (clear i5 i4 i3' i3 i2 i1 hlt hz hLs e4 g2 g1 hLl hLr hL cw hxt hx0 hx hlne c hN hf hs hn ih hb0 hq' lb hinv hq5 hq hne hb ht; (first|lia|omega)))),?_⟩
      · have z:=atI_intsL hlne
        rw [← hx] at z
        have okm:okMul x t=true:=okMul_l (by (clear z i5 i4 i3' i3 i2 i1 hlt hz hLs e4 g2 g1 hLl hLr hL cw hxt hw hx hlne c hN hf hs hl hn ih hb0 hq' lb hinv hq5 hq hne hb ht; (first|lia|omega))) (by (clear z i5 i4 i3' i3 i2 i1 hlt hz hLs e4 g2 g1 hLl hLr hL cw hxt hw hx hlne c hN hf hs hl hn ih hb0 hq' lb hinv hq hne hb ht; (first|lia|omega)))
        have okm2:∀ y,okMul (x * t) y=true:=fun y=>okMul_l (by (clear okm z i5 i4 i3' i3 i2 i1 hlt hz hLs e4 g2 g1 hLl hLr hL cw hw hx0 hx hlne c hN hf hs hl hn ih hb0 hq' lb hinv hq5 hq hne hb ht; (first|lia|omega))) (by (clear okm z i5 i4 i3' i3 i2 i1 hlt hz hLs e4 g2 g1 hLl hLr hL cw hw hx0 hx hlne c hN hf hs hl hn ih hb0 hq' lb hinv hq5 hq hne hb ht; (first|lia|omega)))
        have okr:=okRep_small (n:=1) (k:=(w:Int)) (by (clear okm2 okm z i5 i4 i3' i3 i2 i1 hlt hz hLs e4 g2 g1 hLl hLr hL cw hxt hw hx0 hx hlne c hN hf hs hl hn ih hb0 hq' lb hinv hq5 hq hne hb ht; (first|lia|omega))) (by (clear okm2 okm z i5 i4 i3' i3 i2 i1 hlt hz hLs e4 g2 g1 hLl hLr hL cw hxt hx0 hx hlne c hN hf hs hn ih hb0 hq' lb hinv hq5 hq hne hb ht; (first|lia|omega)))
        have hwi:(l.length:Int) - b.length=w:=by (clear okr okm2 okm z i5 i4 i3' i3 i2 i1 hlt hz hLs e4 g2 g1 hLl hLr hL cw hxt hx0 hx hlne hN hf hs hl hn ih hb0 hq' lb hinv hq5 hq hne hb ht; (first|lia|omega))
        have c1:w + b.length ≤ 100000:=by (clear hwi okr okm2 okm z i5 i4 i3' i3 i2 i1 hlt hz hLs e4 g2 g1 hLl hLr hL cw hxt hx0 hx hlne c hN hf hs hn ih hb0 hq' hinv hq5 hq hne hb ht; (first|lia|omega))
        have cge:(b.length:Int) ≤ l.length:=by (clear c1 hwi okr okm2 okm z i5 i4 i3' i3 i2 i1 hlt hz hLs e4 g2 g1 hLl hLr hL cw hxt hw hx0 hx hlne hN hf hs hl hn ih hb0 hq' lb hinv hq5 hq hne hb ht; (first|lia|omega))
        have e2:=compD_map2 (set:=sTup 2 (sCons (sName 0) (sCons (sName 1) sNil))) (t:=fun _=>some (.ok true)) (fe:=dBin (opC2 okMod fun i j=>i % j) (dBin (opI2 fun i j=>i - j) (dVar 1) (dBin opMul (dVar 3) (dBin opIx (dBin opAdd (dBin opMul (dTup (dCons (dC (.int 0)) dNil)) (dVar 5)) (dVar 4)) (dVar 0)))) (dVar 2)) (γ:=Nat)
          (fun i=>D.tup [.int i,.int (co l i)]) (fun i=>.int ((co l i - x * t * co (List.replicate w 0 ++ b) i) % (q:Int))) (fun o o'=>[o,o',some (Slot.val (D.int q)),some (Slot.val (D.int (x * t))),some (Slot.val (tupZ b)),some (Slot.val (D.int w))]) (fun i=>(some (Slot.val (D.int i)),some (Slot.val (D.int (co l i))))) (List.range l.length) none none
          (fun i o o' _=>by simp) (fun i _=>rfl) (fun i hi=>by
            have hi:=List.mem_range.mp hi
            have x1:atI (List.replicate w (D.int 0) ++ b.map D.int) (i:Int)=some (.int (co (List.replicate w 0 ++ b) i)):=by
              have:=atI_ints (l:=List.replicate w 0 ++ b) (i:=(i:Int)) (by (clear cge c1 hwi okr okm2 okm z i5 i4 i3' i3 i2 i1 hlt hz hLs e4 g2 g1 hLl hLr hL cw hxt hw hx0 hx hlne c hN hf hs hl hn ih hb0 hq' lb hinv hq5 hq hne hb ht; (first|lia|omega))) (by simp; (clear cge c1 hwi okr okm2 okm z i5 i4 i3' i3 i2 i1 hlt hz hLs e4 g2 g1 hLl hLr hL cw hxt hx0 hx hlne c hN hf hs hl hn ih hb0 hq' lb hinv hq5 hq hne hb ht; (first|lia|omega)))
              rw [Int.toNat_natCast] at this
              simpa using this
            unfold tupZ
            simp [okr,c1,x1,okm2,show 0 < q by (clear x1 cge c1 hwi okr okm2 okm z i5 i4 i3' i3 i2 i1 hlt hz hLs e4 g2 g1 hLl hLr hL cw hxt hw hx0 hx hlne c hN hf hs hl hn ih hb0 hq' lb hinv hq5 hq hne hb; (first|lia|omega))])
        have e3:enumD (l.map D.int)=(List.range l.length).map fun (i:Nat)=>D.tup [.int i,.int (co l i)]:=by
          unfold enumD
          rw [List.length_map]
          refine List.map_congr_left fun i hi=>?_
          have hi:=List.mem_range.mp hi
          simp [co,List.getD,hi]
        have e6:(List.range l.length).map (fun i=>D.int ((co l i - x * t * co (List.replicate w 0 ++ b) i) % (q:Int)))=L.map D.int:=by rw [hL]; simp
        rw [← e3,e6] at e2
        have e5:(enumD (l.map D.int)).length ≤ 100000:=by rw [enumZ_len]; (clear e6 e3 e2 cge c1 hwi okr okm2 okm z i5 i4 i3' i3 i2 i1 hlt hz hLs e4 g2 g1 hLl hLr hL cw hxt hw hx0 hx hlne c hN hf hs hn ih hb0 hq' lb hinv hq5 hq hne hb ht; (first|lia|omega))
        simp only [tupZ] at e2 g2
        rw [while_t (S2:=[some (Slot.val (tupZ a)),some (Slot.val (tupZ b)),some (Slot.val (D.int q)),some (Slot.val (D.lst (List.map D.int r0))),some (Slot.val (D.int t)),some (Slot.val (D.int (x * t))),some (Slot.val (D.int w))]) (by simp [R.c_l_rest_1,c]) (by simp [R.b_l_rest_2,z,okm,hwi,e5,e2,g2,tupZ]),i1]
      · have:=g1.ser (q:=q)
        rw [hLs] at this
        rw [this] at i5
        grind
    · refine hN ⟨l,v5,v6,0,while_f (by simp [R.c_l_rest_1]; (clear hN hf hs hl hn ih hb0 hq' lb hinv hq5 hq hne hb ht; (first|lia|omega))),hs,by (clear hN hf hs hl hn ih hb0 hq' lb hinv hq5 hq hne hb ht; (first|lia|omega)),Nat.le_refl _,Bd.zero _,by grind⟩
theorem E_l_rest {p:Int} (hp:Clock p) (hpq:p=q) (a b:List Int) (ha:Sm q a) (hb:Sm q b) (hne:b ≠ []) (la:a.length ≤ 190) (lb:b.length ≤ 190) :
    ∃ r Q,Sm q r∧r.length < b.length∧r.length ≤ a.length∧Bd Q 200∧ser q a=Q * ser q b + ser q r∧R.m_l_rest [tupZ a,tupZ b,.int q]=some (.ok (tupZ r)):=by
  have h25:=one_le_of hp hpq
  have hq':(0:Int) < q:=by (clear lb la hne hb ha hpq hp; (first|lia|omega))
  have hb0:=List.length_pos_iff.mpr hne
  have hbt:=hb.1.getD hq' (b.length - 1)
  have hbt0:=hb.2.last hne
  obtain ⟨t,t1,t2,t3⟩:=lead_of hp hpq (a:=co b (b.length - 1)) (by (clear hb0 hq' h25 lb la hne hb ha hpq hp; (first|lia|omega))) (by (clear hbt0 hb0 hq' h25 lb la hne hb ha hp; (first|lia|omega)))
  rw [hpq] at t1 t2
  obtain ⟨r,w5,w6,Q,i1,i2,i3,i3',i4,i5⟩:=L_rest a b t ⟨by (clear t3 t2 t1 hbt0 hbt hb0 hq' h25 lb la hne hb ha hpq hp; (first|lia|omega)),t1⟩ hb hne h25.1 h25.2 t2 lb a.length a 200 none none rfl la (by (clear t3 t2 t1 hbt0 hbt hb0 hq' h25 lb hne hb ha hpq hp; (first|lia|omega))) ha
  refine ⟨r,Q,i2,i3,i3',i4,i5,?_⟩
  have z3:=atI_intsL hne
  have h2:∀ i:Int,0 ≤ i→i < q→dtB (dBin cEq (dBin (opC2 okMod fun i j=>i % j) (dBin opMul (dVar 0) (dBin opIx (dVar 2) (dUn uNeg (dC (.int 1))))) (dVar 1)) (dC (.int 1))) [some (Slot.val (D.int i)),some (Slot.val (D.int q)),some (Slot.val (tupZ b))]=some (.ok (decide (i * co b (b.length - 1) % (q:Int)=1))):=fun i h0 h1=>by
    have o:okMul i (co b (b.length - 1))=true:=okMul_l (by (clear h1 z3 i5 i4 i3' i3 i2 i1 t3 t2 t1 hbt0 hbt hb0 hq' h25 lb la hne hb ha hpq hp; (first|lia|omega))) (by (clear h0 z3 i5 i4 i3' i3 i2 i1 t3 t2 t1 hbt0 hbt hb0 hq' lb la hne hb ha hpq hp; (first|lia|omega)))
    simp [z3,o,show 0 < q by (clear o h1 h0 z3 i5 i4 i3' i3 i2 i1 t3 t2 t1 hbt0 hbt hb0 hq' lb la hne hb ha hpq hp; (first|lia|omega))]
  have e2:=compD_filter (set:=sName 0) (t:=dtB (dBin cEq (dBin (opC2 okMod fun i j=>i % j) (dBin opMul (dVar 0) (dBin opIx (dVar 2) (dUn uNeg (dC (.int 1))))) (dVar 1)) (dC (.int 1)))) (fe:=dVar 0) (γ:=Nat) (fun (k:Nat)=>D.int (k:Int)) (fun (k:Nat)=>D.int (k:Int)) (fun (k:Nat)=>decide ((k:Int) * co b (b.length - 1) % (q:Int)=1)) (fun o=>[o,some (Slot.val (D.int q)),some (Slot.val (tupZ b))]) (List.range q) none
    (fun a o _=>rfl) (fun k hk=>h2 k (by (clear hk h2 z3 i5 i4 i3' i3 i2 i1 t3 t2 t1 hbt0 hbt hb0 hq' h25 lb la hne hb ha hpq hp; (first|lia|omega))) (by have:=List.mem_range.mp hk; (clear hk h2 z3 i5 i4 i3' i3 i2 i1 t3 t2 t1 hbt0 hbt hb0 hq' h25 lb la hne hb ha hpq hp; (first|lia|omega)))) (fun k _=>rfl)
  have e3:rangeD 0 (q:Int)=(List.range q).map fun (k:Nat)=>D.int (k:Int):=by simp [rangeD]
  rw [t3,← e3] at e2
  have e5:(rangeD 0 (q:Int)).length ≤ 100000:=by rw [rangeD_len]; (clear e3 e2 h2 z3 i5 i4 i3' i3 i2 i1 t3 t2 t1 hbt0 hbt hb0 hq' lb la hne hb ha hpq hp; (first|lia|omega))
  have ok3:-1000000000 ≤ (q:Int)∧(q:Int) ≤ 1000000000:=by (clear e5 e3 e2 h2 z3 i5 i4 i3' i3 i2 i1 t3 t2 t1 hbt0 hbt hb0 hq' lb la hne hb ha hpq hp; (first|lia|omega))
  unfold R.m_l_rest R.g_l_rest
  have fin:uTup (.lst (r.map D.int))=some (tupZ r):=rfl
  simp [-uTup_lst,e5,ok3,e2,atI_nat',i1,fin]
end
end PF
set_option Elab.async false
set_option linter.all false
set_option maxRecDepth 100000
set_option maxHeartbeats 4000000
namespace PF
open PySem L2 PA
section
variable {q:Nat} [NeZero q]
noncomputable def Pl (f:Ser (Fin q)):Prop:=∃ n,Bd f n
theorem Pl.ser (l:List Int):Pl (ser q l):=⟨_,ser_bd l⟩
theorem Pl.add {f g:Ser (Fin q)} (h:Pl f) (h':Pl g):Pl (f + g):=by
  obtain ⟨n,h⟩:=h
  obtain ⟨m,h'⟩:=h'
  exact ⟨max n m,(h.mono (by (clear h' h; (first|lia|omega)))).add (h'.mono (by (clear h' h; (first|lia|omega))))⟩
theorem Pl.sub {f g:Ser (Fin q)} (h:Pl f) (h':Pl g):Pl (f - g):=by
  obtain ⟨n,h⟩:=h
  obtain ⟨m,h'⟩:=h'
  exact ⟨max n m,(h.mono (by (clear h' h; (first|lia|omega)))).sub (h'.mono (by (clear h' h; (first|lia|omega))))⟩
theorem Pl.mul {f g:Ser (Fin q)} (h:Pl f) (h':Pl g):Pl (f * g):=by
  obtain ⟨n,h⟩:=h
  obtain ⟨m,h'⟩:=h'
  exact ⟨_,h.mul h'⟩
theorem Pl.zero:Pl (0:Ser (Fin q)):=⟨0,Bd.zero _⟩
theorem Pl.one:Pl (1:Ser (Fin q)):=⟨1,by rw [← mn_one]; exact Bd.mn 1 0⟩
theorem Pl.mn (a:Fin q) (k:Nat):Pl (mn a k):=⟨_,Bd.mn a k⟩
theorem div_uniq (nz:∀ a b:Fin q,a * b=0→a=0∨b=0) {b:List Int} (hb:Sm q b) (hne:b ≠ []) {f g r s:Ser (Fin q)} (hf:Pl f) (hg:Pl g) (hr:Bd r (b.length - 1)) (hs:Bd s (b.length - 1)) (h:f * ser q b + r=g * ser q b + s):f=g∧r=s:=by
  obtain ⟨n,hf⟩:=hf
  obtain ⟨m,hg⟩:=hg
  exact div_unique nz hb hne (hf.mono (show n ≤ max n m by (clear hg hf h hs hr hne hb nz; (first|lia|omega)))) (hg.mono (by (clear hg hf h hs hr hne hb nz; (first|lia|omega)))) hr hs h
theorem Sm.len_le {l:List Int} (h:Sm q l) {n:Nat} (hb:Bd (ser q l) n):l.length ≤ n:=by
  rcases Nat.lt_or_ge n l.length with c | c
  · exfalso
    have hne:l ≠ []:=by rintro rfl; simp at c
    exact h.top hne (hb _ (by (clear hne hb h; (first|lia|omega))))
  · exact c
theorem Sm.nil_of {l:List Int} (h:Sm q l) (e:ser q l=0):l=[]:=by
  have:=h.len_le (n:=0) (by rw [e]; exact Bd.zero _)
  exact List.eq_nil_of_length_eq_zero (by (clear e h; (first|lia|omega)))
theorem mul_len (nz:∀ a b:Fin q,a * b=0→a=0∨b=0) {a b c:List Int} (ha:Sm q a) (hb:Sm q b) (hc:Sm q c) (na:a ≠ []) (nb:b ≠ []) (h:ser q c=ser q a * ser q b):c.length + 1=a.length + b.length:=by
  have a0:=List.length_pos_iff.mpr na
  have b0:=List.length_pos_iff.mpr nb
  have h1:c.length ≤ a.length + b.length - 1:=hc.len_le (by rw [h]; exact (ser_bd a).mul (ser_bd b))
  have t:=top_mul ((ser_bd (q:=q) a).mono (show a.length ≤ a.length - 1 + 1 by (clear h1 b0 a0 h nb na hc hb ha nz; (first|lia|omega)))) ((ser_bd (q:=q) b).mono (show b.length ≤ b.length - 1 + 1 by (clear h1 b0 a0 h nb na hc hb ha nz; (first|lia|omega))))
  rcases Nat.lt_or_ge c.length (a.length + b.length - 1) with z | z
  · exfalso
    rw [← h,ser_bd c _ (by (clear t h1 b0 a0 h nb na hc hb ha nz; (first|lia|omega)))] at t
    rcases nz _ _ t.symm with e | e
    · exact ha.top na e
    · exact hb.top nb e
  · (clear t b0 h nb na hc hb ha nz; (first|lia|omega))
theorem mul_nil (nz:∀ a b:Fin q,a * b=0→a=0∨b=0) {a b c:List Int} (ha:Sm q a) (hb:Sm q b) (hc:Sm q c) (h:ser q c=ser q a * ser q b):c.length + 1 ≤ a.length + b.length + 1∧(a ≠ []→b ≠ []→c.length + 1=a.length + b.length)∧((a=[]∨b=[])→c=[]):=by
  refine ⟨?_,fun na nb=>mul_len nz ha hb hc na nb h,fun z=>?_⟩
  · have:c.length ≤ a.length + b.length - 1:=hc.len_le (by rw [h]; exact (ser_bd a).mul (ser_bd b))
    (clear h hc hb ha nz; (first|lia|omega))
  · refine hc.nil_of ?_
    rw [h]
    rcases z with rfl | rfl
    · rw [ser_nil]; grind
    · rw [ser_nil]; grind
theorem part_len (nz:∀ a b:Fin q,a * b=0→a=0∨b=0) {a b m r:List Int} (ha:Bd (ser q a) a.length) (hb:Sm q b) (hm:Sm q m) (hne:b ≠ []) (hr:r.length < b.length) (h:ser q a=ser q m * ser q b + ser q r):m=[]∨m.length + b.length ≤ a.length + 1:=by
  rcases Classical.em (m=[]) with z | z
  · exact .inl z
  · right
    have m0:=List.length_pos_iff.mpr z
    have b0:=List.length_pos_iff.mpr hne
    have t:=top_mul ((ser_bd (q:=q) m).mono (show m.length ≤ m.length - 1 + 1 by (clear b0 m0 z h hr hne hm hb ha nz; (first|lia|omega)))) ((ser_bd (q:=q) b).mono (show b.length ≤ b.length - 1 + 1 by (clear b0 m0 z h hr hne hm hb ha nz; (first|lia|omega))))
    have e:ser q m * ser q b=ser q a - ser q r:=by grind
    rcases Nat.lt_or_ge (a.length + 1) (m.length + b.length) with c | c
    · exfalso
      rw [e,sub_c,ser_bd a _ (by (clear e t b0 m0 z h hr hne hm hb ha nz; (first|lia|omega))),ser_bd r _ (by (clear c e t b0 m0 z h hne hm hb ha nz; (first|lia|omega)))] at t
      have t':(ser q m).c (m.length - 1) * (ser q b).c (b.length - 1)=0:=by rw [← t]; grind
      rcases nz _ _ t' with e | e
      · exact hm.top z e
      · exact hb.top hne e
    · exact c
theorem E_row_less {p:Int} (hp:Clock p) (hpq:p=q) (r0 r1 r2 b0 b1 b2:List Int) (C:Nat) (hC:C ≤ 60) (s0:Sm q r0) (s1:Sm q r1) (s2:Sm q r2) (t0:Sm q b0) (t1:Sm q b1) (t2:Sm q b2) (hne:b0 ≠ [])
    (l1:b1.length + r0.length ≤ C) (l1':r1.length + b0.length ≤ C) (l2:b2.length + r0.length ≤ C) (l2':r2.length + b0.length ≤ C) :
    ∃ n0 n1 n2 m,Sm q n0∧Sm q n1∧Sm q n2∧n0.length < b0.length∧n0.length ≤ r0.length∧n1.length + b0.length ≤ C∧n2.length + b0.length ≤ C∧ser q r0=ser q m * ser q b0 + ser q n0∧ser q n1=ser q r1 - ser q m * ser q b1∧ser q n2=ser q r2 - ser q m * ser q b2∧
      R.m_row_less [.lst [tupZ r0,tupZ r1,tupZ r2],.lst [tupZ b0,tupZ b1,tupZ b2],.int q]=some (.ok (.lst [tupZ n0,tupZ n1,tupZ n2])):=by
  have h25:=one_le_of hp hpq
  have nz:=nzd hp hpq
  have b00:=List.length_pos_iff.mpr hne
  refine Classical.byContradiction fun hN=>?_
  obtain ⟨m,r,m1,m2,m3,m4,m5,m6⟩:=E_parted hp hpq r0 b0 s0.1 t0 hne (by (clear hN b00 nz h25 l2' l2 l1' hne t2 t1 t0 s2 s1 s0 hpq hp; (first|lia|omega))) (by (clear hN b00 nz h25 l2' l2 l1 hne t2 t1 t0 s2 s1 s0 hpq hp; (first|lia|omega)))
  have pl:=part_len nz (ser_bd r0) t0 m1 hne m4 m5
  obtain ⟨x0,x01,x02,x03,x04⟩:=E_times (by (clear pl m6 m5 m4 m3 m2 m1 hN b00 nz l2' l2 l1' l1 hne t2 t1 t0 s2 s1 s0 hC hpq hp; (first|lia|omega))) h25.2 m b0 m1.1 (by (clear pl m6 m5 m4 m2 m1 hN b00 nz h25 l2' l2 l1' hne t2 t1 t0 s2 s1 s0 hpq hp; (first|lia|omega))) (by (clear pl m6 m5 m4 m3 m2 m1 hN b00 nz h25 l2' l2 l1 hne t2 t1 t0 s2 s1 s0 hpq hp; (first|lia|omega)))
  obtain ⟨x1,x11,x12,x13,x14⟩:=E_times (by (clear x04 x03 x02 x01 pl m6 m5 m4 m3 m2 m1 hN b00 nz l2' l2 l1' l1 hne t2 t1 t0 s2 s1 s0 hC hpq hp; (first|lia|omega))) h25.2 m b1 m1.1 (by (clear x04 x03 x02 x01 pl m6 m5 m4 m2 m1 hN b00 nz h25 l2' l2 l1' hne t2 t1 t0 s2 s1 s0 hpq hp; (first|lia|omega))) (by (clear x04 x03 x02 x01 pl m6 m5 m4 m3 m2 m1 hN b00 nz h25 l2' l2 l1' hne t2 t1 t0 s2 s1 s0 hpq hp; (first|lia|omega)))
  obtain ⟨x2,x21,x22,x23,x24⟩:=E_times (by (clear x14 x13 x12 x11 x04 x03 x02 x01 pl m6 m5 m4 m3 m2 m1 hN b00 nz l2' l2 l1' l1 hne t2 t1 t0 s2 s1 s0 hC hpq hp; (first|lia|omega))) h25.2 m b2 m1.1 (by (clear x14 x13 x12 x11 x04 x03 x02 x01 pl m6 m5 m4 m2 m1 hN b00 nz h25 l2' l2 l1' hne t2 t1 t0 s2 s1 s0 hpq hp; (first|lia|omega))) (by (clear x14 x13 x12 x11 x04 x03 x02 x01 pl m6 m5 m4 m3 m2 m1 hN b00 nz h25 l2' l1' l1 hne t2 t1 t0 s2 s1 s0 hpq hp; (first|lia|omega)))
  obtain ⟨n0,n01,n02,n03,n04⟩:=E_minus (by (clear x24 x23 x22 x21 x14 x13 x12 x11 x04 x03 x02 x01 pl m6 m5 m4 m3 m2 m1 hN b00 nz l2' l2 l1' l1 hne t2 t1 t0 s2 s1 s0 hC hpq hp; (first|lia|omega))) h25.2 r0 x0 s0.1 (by (clear x24 x23 x22 x21 x14 x13 x12 x11 x04 x03 x02 x01 pl m6 m5 m4 m3 m2 m1 hN b00 nz h25 l2' l2 l1' hne t2 t1 t0 s2 s1 s0 hpq hp; (first|lia|omega))) (by (clear x24 x23 x22 x21 x14 x13 x12 x11 x04 x03 x01 pl m6 m5 m4 m2 m1 hN b00 nz h25 l2' l2 hne t2 t1 t0 s2 s1 s0 hpq hp; (first|lia|omega)))
  obtain ⟨n1,n11,n12,n13,n14⟩:=E_minus (by (clear n04 n03 n02 n01 x24 x23 x22 x21 x14 x13 x12 x11 x04 x03 x02 x01 pl m6 m5 m4 m3 m2 m1 hN b00 nz l2' l2 l1' l1 hne t2 t1 t0 s2 s1 s0 hC hpq hp; (first|lia|omega))) h25.2 r1 x1 s1.1 (by (clear n04 n03 n02 n01 x24 x23 x22 x21 x14 x13 x12 x11 x04 x03 x02 x01 pl m6 m5 m4 m3 m2 m1 hN b00 nz h25 l2' l2 l1 hne t2 t1 t0 s2 s1 s0 hpq hp; (first|lia|omega))) (by (clear n04 n03 n02 n01 x24 x23 x22 x21 x14 x13 x11 x04 x03 x02 x01 pl m6 m5 m4 m2 m1 hN b00 nz h25 l2' l2 l1' hne t2 t1 t0 s2 s1 s0 hpq hp; (first|lia|omega)))
  obtain ⟨n2,n21,n22,n23,n24⟩:=E_minus (by (clear n14 n13 n12 n11 n04 n03 n02 n01 x24 x23 x22 x21 x14 x13 x12 x11 x04 x03 x02 x01 pl m6 m5 m4 m3 m2 m1 hN b00 nz l2' l2 l1' l1 hne t2 t1 t0 s2 s1 s0 hC hpq hp; (first|lia|omega))) h25.2 r2 x2 s2.1 (by (clear n14 n13 n12 n11 n04 n03 n02 n01 x24 x23 x22 x21 x14 x13 x12 x11 x04 x03 x02 x01 pl m6 m5 m4 m3 m2 m1 hN b00 nz h25 l2 l1' l1 hne t2 t1 t0 s2 s1 s0 hpq hp; (first|lia|omega))) (by (clear n14 n13 n12 n11 n04 n03 n02 n01 x24 x23 x21 x14 x13 x12 x11 x04 x03 x02 x01 pl m6 m5 m4 m2 m1 hN b00 nz h25 l2' l1' l1 hne t2 t1 t0 s2 s1 s0 hpq hp; (first|lia|omega)))
  have e0:n0=r:=ser_inj n01 m2 (by rw [n03,x03]; grind)
  subst e0
  have k1:=mul_nil nz m1 t1 x11 x13
  have k2:=mul_nil nz m1 t2 x21 x23
  have q1:n1.length + b0.length ≤ C:=by
    rcases Classical.em (m=[]∨b1=[]) with z | z
    · have:=k1.2.2 z
      subst this
      simp at n12
      (clear k1 n14 n13 x14 x13 x12 x11 z k2 m6 m5 m4 m2 n24 n23 n22 n21 n11 n04 n03 n02 n01 x24 x23 x22 x21 x04 x03 x02 x01 pl m3 m1 hN b00 nz h25 l2' l2 l1 hne t2 t1 t0 s2 s1 s0 hC hpq hp; (first|lia|omega))
    · have z1:m ≠ []:=fun e=>z (.inl e)
      have z2:b1 ≠ []:=fun e=>z (.inr e)
      have:=k1.2.1 z1 z2
      rcases pl with e | e
      · exact absurd e z1
      · (clear z2 z1 z k2 k1 m6 m5 m4 m2 n24 n23 n22 n21 n14 n13 n11 n04 n03 n02 n01 x24 x23 x22 x21 x14 x13 x12 x11 x04 x03 x02 x01 m3 m1 hN b00 nz h25 l2' l2 hne t2 t1 t0 s2 s1 s0 hC hpq hp; (first|lia|omega))
  have q2:n2.length + b0.length ≤ C:=by
    rcases Classical.em (m=[]∨b2=[]) with z | z
    · have:=k2.2.2 z
      subst this
      simp at n22
      (clear k2 n24 n23 x24 x23 x22 x21 z q1 k1 m6 m5 m4 m2 n21 n14 n13 n12 n11 n04 n03 n02 n01 x14 x13 x12 x11 x04 x03 x02 x01 pl m3 m1 hN b00 nz h25 l2 l1' l1 hne t2 t1 t0 s2 s1 s0 hC hpq hp; (first|lia|omega))
    · have z1:m ≠ []:=fun e=>z (.inl e)
      have z2:b2 ≠ []:=fun e=>z (.inr e)
      have:=k2.2.1 z1 z2
      rcases pl with e | e
      · exact absurd e z1
      · (clear z2 z1 z q1 k2 k1 m6 m5 m4 m2 n24 n23 n21 n14 n13 n12 n11 n04 n03 n02 n01 x24 x23 x22 x21 x14 x13 x12 x11 x04 x03 x02 x01 m3 m1 hN b00 nz h25 l1' l1 hne t2 t1 t0 s2 s1 s0 hC hpq hp; (first|lia|omega))
  have q0:n0.length ≤ r0.length:=by
    rcases pl with e | e
    · subst e
      have:x0=[]:=(mul_nil nz m1 t0 x01 x03).2.2 (.inl rfl)
      subst this
      simp at n02
      (clear x04 x03 x02 n04 n03 x01 k2 k1 m6 m5 x24 x23 x22 x14 x13 x12 m3 m1 q2 q1 m4 m2 n24 n23 n22 n21 n14 n13 n12 n11 n01 x21 x11 hN b00 nz h25 l2' l2 l1' l1 hne t2 t1 t0 s2 s1 s0 hC hpq hp; (first|lia|omega))
    · (clear q2 q1 k2 k1 m6 m5 m2 n24 n23 n22 n21 n14 n13 n12 n11 n04 n03 n02 n01 x24 x23 x22 x21 x14 x13 x12 x11 x04 x03 x02 x01 m3 m1 hN b00 nz h25 l2' l2 l1' l1 hne t2 t1 t0 s2 s1 s0 hC hpq hp; (first|lia|omega))
  refine hN ⟨n0,n1,n2,m,n01,n11,n21,m4,q0,q1,q2,m5,by rw [n13,x13],by rw [n23,x23],?_⟩
  unfold R.m_row_less R.g_row_less
  simp [atI_nat',m6,dZip,asLst,zip2,zipD,compD,x04,x14,x24,n04,n14,n24]
theorem L_common {p:Int} (hp:Clock p) (hpq:p=q) (a b:List Int) (A B:Ser (Fin q)) (C:Nat) (hC:C ≤ 60):∀ (n:Nat) (r0 r1 r2 b0 b1 b2:List Int) (f:Nat) (v5 v6:Option Slot),b0.length=n→n < f→Sm q r0→Sm q r1→Sm q r2→Sm q b0→Sm q b1→Sm q b2→
    b1.length + r0.length ≤ C→r1.length + b0.length ≤ C→b2.length + r0.length ≤ C→r2.length + b0.length ≤ C→ser q r0=ser q r1 * A + ser q r2 * B→ser q b0=ser q b1 * A + ser q b2 * B→
    (∃ u v,Pl u∧Pl v∧A=u * ser q r0 + v * ser q b0)→(∃ u v,Pl u∧Pl v∧B=u * ser q r0 + v * ser q b0)→
    ∃ (g0 g1 g2:List Int) (w:D) (w5:Option Slot),whileD (R.c_common_1 R.m_row_less R.m_turned_number R.m_scaled) (R.b_common_2 R.m_row_less R.m_turned_number R.m_scaled) f [some (Slot.val (tupZ a)),some (Slot.val (tupZ b)),some (Slot.val (D.int q)),some (Slot.val (D.lst [tupZ r0,tupZ r1,tupZ r2])),some (Slot.val (D.lst [tupZ b0,tupZ b1,tupZ b2])),v5,v6] =
        some (.next [some (Slot.val (tupZ a)),some (Slot.val (tupZ b)),some (Slot.val (D.int q)),some (Slot.val (D.lst [tupZ g0,tupZ g1,tupZ g2])),some (Slot.val w),w5,v6])∧Sm q g0∧Sm q g1∧Sm q g2∧g0.length ≤ C∧g1.length ≤ C∧g2.length ≤ C∧ser q g0=ser q g1 * A + ser q g2 * B∧(∃ u,Pl u∧A=u * ser q g0)∧∃ u,Pl u∧B=u * ser q g0:=fun n=>by
  induction n using Nat.strongRecOn with
  | ind n ih=>
    intro r0 r1 r2 b0 b1 b2 f v5 v6 hn hf s0 s1 s2 t0 t1 t2 l1 l1' l2 l2' er eb eA eB
    obtain ⟨f',rfl⟩:∃ f',f=f' + 1:=⟨f - 1,by (clear eB eA eb er l2' l2 l1' l1 t2 t1 t0 s2 s1 s0 hn ih hC hpq hp; (first|lia|omega))⟩
    refine Classical.byContradiction fun hN=>?_
    obtain ⟨u,v,pu,pv,eA⟩:=eA
    obtain ⟨u',v',pu',pv',eB⟩:=eB
    by_cases c:b0=[]
    · subst c
      rw [ser_nil] at eA eB
      refine hN ⟨r0,r1,r2,_,v5,while_f (by simp [R.c_common_1,atI_nat']),s0,s1,s2,by (clear eB eA hN eb l2' l1' t0 hn pv' pu' pv pu hf er l2 t2 t1 s2 s1 s0 ih hC hpq hp; (first|lia|omega)),by (clear eB eA hN eb l2' t0 hn pv' pu' pv pu hf er l2 l1 t2 t1 s2 s1 s0 ih hC hpq hp; (first|lia|omega)),by (clear eB eA hN eb l1' t0 hn pv' pu' pv pu hf er l2 l1 t2 t1 s2 s1 s0 ih hC hpq hp; (first|lia|omega)),er,⟨u,pu,by rw [eA]; grind⟩,⟨u',pu',by rw [eB]; grind⟩⟩
    · obtain ⟨n0,n1,n2,m,k0,k1,k2,k3,k4,k5,k6,k7,k8,k9,k10⟩:=E_row_less hp hpq r0 r1 r2 b0 b1 b2 C hC s0 s1 s2 t0 t1 t2 c l1 l1' l2 l2'
      obtain ⟨g0,g1,g2,w,w5,i1,i⟩:=ih n0.length (by (clear k10 k9 k8 k7 k6 k5 k4 k2 k1 k0 c eB pv' pu' eA pv pu hN hf eb er l2' l2 l1' l1 t2 t1 t0 s2 s1 s0 ih hC hpq hp; (first|lia|omega))) b0 b1 b2 n0 n1 n2 f' (some (Slot.val (D.lst [tupZ n0,tupZ n1,tupZ n2]))) v6 rfl (by (clear k10 k9 k8 k7 k6 k5 k4 k2 k1 k0 c eB pv' pu' eA pv pu hN eb er l2' l2 l1' l1 t2 t1 t0 s2 s1 s0 ih hC hpq hp; (first|lia|omega))) t0 t1 t2 k0 k1 k2 k5 (by (clear k10 k9 k8 k7 k6 k5 k3 k2 k1 k0 c eB pv' pu' eA pv pu hN hf eb er l2' l2 l1' t2 t1 t0 s2 s1 s0 hn ih hC hpq hp; (first|lia|omega))) k6 (by (clear k10 k9 k8 k7 k6 k5 k3 k2 k1 k0 c eB pv' pu' eA pv pu hN hf eb er l2' l1' l1 t2 t1 t0 s2 s1 s0 hn ih hC hpq hp; (first|lia|omega))) eb (by grind)
        ⟨u * ser q m + v,u,(pu.mul (Pl.ser m)).add pv,pu,by rw [eA,k7]; grind⟩ ⟨u' * ser q m + v',u',(pu'.mul (Pl.ser m)).add pv',pu',by rw [eB,k7]; grind⟩
      refine hN ⟨g0,g1,g2,w,w5,?_,i⟩
      have c':0 < b0.length:=List.length_pos_iff.mpr c
      rw [while_t (S2:=[some (Slot.val (tupZ a)),some (Slot.val (tupZ b)),some (Slot.val (D.int q)),some (Slot.val (D.lst [tupZ b0,tupZ b1,tupZ b2])),some (Slot.val (D.lst [tupZ n0,tupZ n1,tupZ n2])),some (Slot.val (D.lst [tupZ n0,tupZ n1,tupZ n2])),v6]) (by simp [R.c_common_1,atI_nat',c']) (by simp [R.b_common_2,k10]),i1]
end
end PF
set_option Elab.async false
set_option linter.all false
set_option maxRecDepth 100000
set_option maxHeartbeats 4000000
namespace PF
open PySem L2 PA
section
variable {q:Nat} [NeZero q]
theorem ser_one:ser q [1]=1:=Ser.ext fun k=>by
  rw [ser_c,one_eq]
  cases k with
  | zero=>simp [co,onec,ic_one]
  | succ k=>simp [co,onec,ic_zero]
theorem Sm.nil:Sm q []:=⟨fun x h=>by simp at h,by simp [Top]⟩
theorem Sm.one (h:2 ≤ q):Sm q [1]:=⟨fun x hx=>by simp at hx; subst hx; (first|lia|omega),by simp [Top]⟩
theorem inv_mul {c t:Int} (h2:2 ≤ q) (h:c * t % q=1):(ic c * ic t:Fin q)=1:=by
  rw [← ic_mul,← ic_one]
  refine ic_eq.mpr ?_
  rw [h,Int.emod_eq_of_lt (by (clear h h2; (first|lia|omega))) (by (clear h; (first|lia|omega)))]
theorem whole_of (h2:2 ≤ q) {g0 g:List Int} {c t:Int} (hc:c=co g0 (g0.length - 1)) (hinv:c * t % q=1) (s0:Sm q g0) (sg:Sm q g) (hne:g0 ≠ []) (hl:g.length ≤ g0.length) (h:ser q g=mn (ic t) 0 * ser q g0):g.length=g0.length∧co g (g.length - 1)=1∧ser q g0=mn (ic c) 0 * ser q g:=by
  have g00:=List.length_pos_iff.mpr hne
  have hq':(0:Int) < q:=by (clear g00 h hl hne sg s0 hinv hc; (first|lia|omega))
  have e1:(ser q g).c (g0.length - 1)=1:=by
    rw [h,mn_mul,if_pos (Nat.zero_le _),Nat.sub_zero,ser_c,← hc]
    have:=inv_mul h2 hinv
    grind
  have e2:g.length=g0.length:=by
    rcases Nat.lt_or_ge g.length g0.length with z | z
    · exfalso
      rw [ser_bd g _ (by (clear e1 hq' g00 h hl hne sg s0 hinv hc h2; (first|lia|omega))),← ic_zero,← ic_one] at e1
      have:=ic_eq.mp e1
      rw [Int.emod_eq_of_lt (by (clear this z e1 hq' g00 h hl hne sg s0 hinv hc h2; (first|lia|omega))) (by (clear this z e1 hq' g00 h hl hne sg s0 hinv hc; (first|lia|omega))),Int.emod_eq_of_lt (by (clear this z e1 hq' g00 h hl hne sg s0 hinv hc h2; (first|lia|omega))) (by (clear this z e1 hq' g00 h hl hne sg s0 hinv hc; (first|lia|omega)))] at this
      (clear z e1 hq' g00 h hl hne sg s0 hinv hc h2; (first|lia|omega))
    · (clear e1 hq' g00 h hne sg s0 hinv hc h2; (first|lia|omega))
  refine ⟨e2,?_,?_⟩
  · rw [← e2,ser_c,← ic_one] at e1
    exact ic_red (sg.1.getD hq' _) ⟨by (clear e2 e1 hq' g00 h hl hne sg s0 hinv hc h2; (first|lia|omega)),by (clear e2 e1 hq' g00 h hl hne sg s0 hinv hc; (first|lia|omega))⟩ e1
  · have e3:mn (ic c) 0 * mn (ic t) 0=(1:Ser (Fin q)):=by
      rw [mn_mn,inv_mul h2 hinv,← mn_one]
    rw [h]
    have:mn (ic c) 0 * (mn (ic t) 0 * ser q g0)=(mn (ic c) 0 * mn (ic t) 0) * ser q g0:=by grind
    rw [this,e3]; grind
theorem E_common {p:Int} (hp:Clock p) (hpq:p=q) (a b:List Int) (sa:Sm q a) (sb:Sm q b) (la:a.length ≤ 50) (lb:b.length ≤ 50) :
    ∃ g x y,Sm q g∧Sm q x∧Sm q y∧g.length ≤ 60∧x.length ≤ 60∧y.length ≤ 60∧ser q g=ser q x * ser q a + ser q y * ser q b∧(∃ u,Pl u∧ser q a=u * ser q g)∧(∃ u,Pl u∧ser q b=u * ser q g)∧(g ≠ []→co g (g.length - 1)=1)∧(g=[]→x=[]∧y=[])∧
      R.m_common [tupZ a,tupZ b,.int q]=some (.ok (.tup [tupZ g,tupZ x,tupZ y])):=by
  have h25:=one_le_of hp hpq
  have hq':(0:Int) < q:=by (clear lb la sb sa hpq hp; (first|lia|omega))
  refine Classical.byContradiction fun hN=>?_
  obtain ⟨g0,g1,g2,w,w5,i1,s0,s1,s2,l0,l1,l2,e0,⟨u,pu,eA⟩,⟨v,pv,eB⟩⟩:=L_common hp hpq a b (ser q a) (ser q b) 60 (by (clear hN hq' h25 lb la sb sa hpq hp; (first|lia|omega))) b.length a [1] [] b [] [1] 200 none none rfl (by (clear hN hq' h25 la sb sa hpq hp; (first|lia|omega))) sa (Sm.one h25.1) Sm.nil sb Sm.nil (Sm.one h25.1)
    (by simp; (clear hN hq' h25 lb sb sa hpq hp; (first|lia|omega))) (by simp; (clear hN hq' h25 la sb sa hpq hp; (first|lia|omega))) (by simp; (clear hN hq' h25 lb sb sa hpq hp; (first|lia|omega))) (by simp; (clear hN hq' h25 la sb sa hpq hp; (first|lia|omega))) (by rw [ser_one,ser_nil]; grind) (by rw [ser_one,ser_nil]; grind) ⟨1,0,Pl.one,Pl.zero,by grind⟩ ⟨0,1,Pl.zero,Pl.one,by grind⟩
  have z1:tupZ [1]=D.tup [D.int 1]:=rfl
  have z0:tupZ []=D.tup []:=rfl
  rw [z1,z0] at i1
  by_cases c:g0=[]
  · subst c
    refine hN ⟨[],[],[],Sm.nil,Sm.nil,Sm.nil,by simp,by simp,by simp,by rw [ser_nil]; grind,⟨u,pu,eA⟩,⟨v,pv,eB⟩,fun h=>absurd rfl h,fun _=>⟨rfl,rfl⟩,?_⟩
    unfold R.m_common R.g_common
    simp [i1,atI_nat',z0]
  · have g00:=List.length_pos_iff.mpr c
    have ht:=s0.1.getD hq' (g0.length - 1)
    have ht0:=s0.2.last c
    obtain ⟨t,t0,t1,t2,t3⟩:=E_turned hp (a:=co g0 (g0.length - 1)) (by (clear g00 c z0 z1 eB pv eA pu e0 l2 l1 l0 s2 s1 s0 i1 hN hq' h25 lb la sb sa hpq hp; (first|lia|omega))) (by (clear ht0 g00 c z0 z1 eB pv eA pu e0 l2 l1 l0 s2 s1 s0 i1 hN hq' h25 lb la sb sa hp; (first|lia|omega)))
    rw [hpq] at t1 t2 t3
    obtain ⟨g,a1,a2,a3,a4⟩:=E_scaled (q:=q) (by (clear t3 t2 t1 t0 ht0 ht g00 c z0 z1 eB pv eA pu e0 l2 l1 l0 s2 s1 s0 i1 hN hq' lb la sb sa hpq hp; (first|lia|omega))) g0 t (by (clear t3 t2 t1 t0 ht0 ht g00 c z0 z1 eB pv eA pu e0 l2 l1 s2 s1 s0 i1 hN hq' h25 lb la sb sa hpq hp; (first|lia|omega))) (by (clear t3 t2 t1 ht0 ht g00 c z0 z1 eB pv eA pu e0 l2 l1 l0 s2 s1 s0 i1 hN hq' h25 lb la sb sa hpq hp; (first|lia|omega))) (by (clear t3 t2 t0 ht0 ht g00 c z0 z1 eB pv eA pu e0 l2 l1 l0 s2 s1 s0 i1 hN hq' lb la sb sa hpq hp; (first|lia|omega)))
    obtain ⟨x,b1,b2,b3,b4⟩:=E_scaled (q:=q) (by (clear a4 a3 a2 a1 t3 t2 t1 t0 ht0 ht g00 c z0 z1 eB pv eA pu e0 l2 l1 l0 s2 s1 s0 i1 hN hq' lb la sb sa hpq hp; (first|lia|omega))) g1 t (by (clear a4 a3 a2 a1 t3 t2 t1 t0 ht0 ht g00 c z0 z1 eB pv eA pu e0 l2 l0 s2 s1 s0 i1 hN hq' h25 lb la sb sa hpq hp; (first|lia|omega))) (by (clear a4 a3 a2 a1 t3 t2 t1 ht0 ht g00 c z0 z1 eB pv eA pu e0 l2 l1 l0 s2 s1 s0 i1 hN hq' h25 lb la sb sa hpq hp; (first|lia|omega))) (by (clear a4 a3 a2 a1 t3 t2 t0 ht0 ht g00 c z0 z1 eB pv eA pu e0 l2 l1 l0 s2 s1 s0 i1 hN hq' lb la sb sa hpq hp; (first|lia|omega)))
    obtain ⟨y,c1,c2,c3,c4⟩:=E_scaled (q:=q) (by (clear b4 b3 b2 b1 a4 a3 a2 a1 t3 t2 t1 t0 ht0 ht g00 c z0 z1 eB pv eA pu e0 l2 l1 l0 s2 s1 s0 i1 hN hq' lb la sb sa hpq hp; (first|lia|omega))) g2 t (by (clear b4 b3 b2 b1 a4 a3 a2 a1 t3 t2 t1 t0 ht0 ht g00 c z0 z1 eB pv eA pu e0 l1 l0 s2 s1 s0 i1 hN hq' h25 lb la sb sa hpq hp; (first|lia|omega))) (by (clear b4 b3 b2 b1 a4 a3 a2 a1 t3 t2 t1 ht0 ht g00 c z0 z1 eB pv eA pu e0 l2 l1 l0 s2 s1 s0 i1 hN hq' h25 lb la sb sa hpq hp; (first|lia|omega))) (by (clear b4 b3 b2 b1 a4 a3 a2 a1 t3 t2 t0 ht0 ht g00 c z0 z1 eB pv eA pu e0 l2 l1 l0 s2 s1 s0 i1 hN hq' lb la sb sa hpq hp; (first|lia|omega)))
    obtain ⟨k1,k2,k3⟩:=whole_of h25.1 rfl t2 s0 a1 c a2 a3
    refine hN ⟨g,x,y,a1,b1,c1,by (clear k3 k2 k1 c4 c3 c2 c1 b4 b3 b2 b1 a4 a3 a1 t3 t2 t1 t0 ht0 ht g00 c z0 z1 eB pv eA pu e0 l2 l1 s2 s1 s0 i1 hN hq' h25 lb la sb sa hpq hp; (first|lia|omega)),by (clear k3 k2 k1 c4 c3 c2 c1 b4 b3 b1 a4 a3 a2 a1 t3 t2 t1 t0 ht0 ht g00 c z0 z1 eB pv eA pu e0 l2 l0 s2 s1 s0 i1 hN hq' h25 lb la sb sa hpq hp; (first|lia|omega)),by (clear k3 k2 k1 c4 c3 c1 b4 b3 b2 b1 a4 a3 a2 a1 t3 t2 t1 t0 ht0 ht g00 c z0 z1 eB pv eA pu e0 l1 l0 s2 s1 s0 i1 hN hq' h25 lb la sb sa hpq hp; (first|lia|omega)),by rw [a3,b3,c3,e0]; grind,⟨u * mn (ic (co g0 (g0.length - 1))) 0,pu.mul (Pl.mn _ _),by rw [eA,k3]; grind⟩,⟨v * mn (ic (co g0 (g0.length - 1))) 0,pv.mul (Pl.mn _ _),by rw [eB,k3]; grind⟩,fun _=>k2,fun h=>by rw [h] at k1; simp at k1; (clear h k3 k2 c4 c3 c2 c1 b4 b3 b2 b1 a4 a3 a2 a1 t3 t2 t1 t0 ht0 ht c z0 z1 eB pv eA pu e0 l2 l1 l0 s2 s1 s0 i1 hN hq' h25 lb la sb sa hpq hp; (first|lia|omega)),?_⟩
    have z3:=atI_intsL c
    have nc:¬ ((g0.length:Int)=0):=by (clear z3 k3 k2 k1 c4 c3 c2 c1 b4 b3 b2 b1 a4 a3 a2 a1 t3 t2 t1 t0 ht0 ht c z0 z1 eB pv eA pu e0 l2 l1 l0 s2 s1 s0 i1 hN hq' h25 lb la sb sa hpq hp; (first|lia|omega))
    unfold R.m_common R.g_common
    simp [i1,atI_nat',nc,c,z3,t3,compD,a4,b4,c4]
theorem isLong_Sm {l:List Int} (h:Sm q l):isLong q (tupZ l)=true:=by
  unfold isLong tupZ
  simp only [Bool.and_eq_true,Bool.or_eq_true,List.all_eq_true]
  refine ⟨fun d hd=>?_,?_⟩
  · obtain ⟨i,hi,rfl⟩:=List.mem_map.mp hd
    have:=h.1 i hi
    simp [isNum,this.1,this.2]
  · by_cases c:l=[]
    · subst c; simp
    · right
      rw [List.getLast?_eq_getElem?,List.getElem?_map]
      have l0:=List.length_pos_iff.mpr c
      simp only [List.length_map]
      rw [List.getElem?_eq_getElem (by (clear c h; (first|lia|omega)))]
      have:=h.2.last c
      rw [getD_lt (by (clear this c h; (first|lia|omega)))] at this
      simp [this]
theorem Fine_Z {l:List Int} (h:l.length ≤ 1000):Fine (tupZ l):=((Flat.ints h).fine (Nat.le_refl _)).1
theorem E_longZ {l:List Int} (h:Sm q l) (hl:l.length ≤ 1000):R.m_l_is_long_sum [tupZ l,.int q]=some (.ok (.bl true)):=by
  rw [E_long _ _ (Fine_Z hl),isLong_Sm h]
end
end PF
set_option Elab.async false
set_option linter.all false
set_option maxRecDepth 100000
set_option maxHeartbeats 4000000
namespace PF
open PySem L2 PA
theorem clock_nat {p:Int} (hp:Clock p):∃ q:Nat,p=q∧2 ≤ q∧q ≤ 5:=by
  rcases hp with rfl | rfl | rfl
  · exact ⟨2,rfl,by decide,by decide⟩
  · exact ⟨3,rfl,by decide,by decide⟩
  · exact ⟨5,rfl,by decide,by decide⟩
@[simp] theorem sliceZ (l:List Int) (n:Nat):sliceD (tupZ l) none (some (n:Int))=some (tupZ (l.take n)):=by
  show some (D.tup (cutD (l.map D.int) none (some (n:Int))))=_
  rw [cut_take]; simp [tupZ]
@[simp] theorem opAddZ (a b:List Int):opAdd (tupZ a) (tupZ b)=if a.length + b.length ≤ 100000 then some (tupZ (a ++ b)) else none:=by
  unfold tupZ; simp
theorem Sm.snoc {q:Nat} {l:List Int} (h:Red q l) {x:Int} (hx:0 < x∧x < q):Sm q (l ++ [x]):=⟨h.snoc ⟨by (clear h; (first|lia|omega)),hx.2⟩,by simp [Top]; (clear h; (first|lia|omega))⟩
theorem Red.take {p:Int} {l:List Int} (h:Red p l) (n:Nat):Red p (l.take n):=fun x hx=>h x (List.mem_of_mem_take hx)
theorem seq_next {g h:DS→Option Fl} {S S':DS} (e:g S=some (.next S')):dSeq g h S=h S':=by rw [dSeq_e,e]
theorem tupZ_nil:D.tup []=tupZ []:=rfl
theorem tupZ_one (x:Int):D.tup [D.int x]=tupZ [x]:=rfl
end PF
namespace K20
open PySem L2 PF PA
end K20
set_option Elab.async false
set_option linter.all false
set_option maxRecDepth 100000
set_option maxHeartbeats 4000000
namespace PF
open PySem L2 PA
section
variable {q:Nat} [NeZero q]
noncomputable def Eqv (G f g:Ser (Fin q)):Prop:=∃ u,Pl u∧f - g=u * G
theorem Eqv.refl {G f:Ser (Fin q)}:Eqv G f f:=⟨0,Pl.zero,by grind⟩
theorem Eqv.symm {G f g:Ser (Fin q)} (h:Eqv G f g):Eqv G g f:=by
  obtain ⟨u,pu,e⟩:=h
  exact ⟨0 - u,Pl.zero.sub pu,by grind⟩
theorem Eqv.trans {G f g h:Ser (Fin q)} (a:Eqv G f g) (b:Eqv G g h):Eqv G f h:=by
  obtain ⟨u,pu,e⟩:=a
  obtain ⟨v,pv,e'⟩:=b
  exact ⟨u + v,pu.add pv,by grind⟩
theorem Eqv.mul {G f g f' g':Ser (Fin q)} (a:Eqv G f g) (b:Eqv G f' g') (pf:Pl f') (pg:Pl g):Eqv G (f * f') (g * g'):=by
  obtain ⟨u,pu,e⟩:=a
  obtain ⟨v,pv,e'⟩:=b
  refine ⟨u * f' + g * v,(pu.mul pf).add (pg.mul pv),?_⟩
  have:f * f' - g * g'=(f - g) * f' + g * (f' - g'):=by grind
  rw [this,e,e']; grind
theorem Eqv.add {G f g f' g':Ser (Fin q)} (a:Eqv G f g) (b:Eqv G f' g'):Eqv G (f + f') (g + g'):=by
  obtain ⟨u,pu,e⟩:=a
  obtain ⟨v,pv,e'⟩:=b
  exact ⟨u + v,pu.add pv,by grind⟩
theorem Pl.pow {f:Ser (Fin q)} (h:Pl f):∀ n:Nat,Pl (f ^ n)
  | 0=>Pl.one
  | n + 1=>by
    have e:f ^ (n + 1)=f ^ n * f:=Lean.Grind.Semiring.pow_succ f n
    rw [e]; exact (Pl.pow h n).mul h
theorem Eqv.pow {G f g:Ser (Fin q)} (a:Eqv G f g) (pf:Pl f) (pg:Pl g):∀ n:Nat,Eqv G (f ^ n) (g ^ n)
  | 0=>Eqv.refl
  | n + 1=>by
    have e:f ^ (n + 1)=f ^ n * f:=Lean.Grind.Semiring.pow_succ f n
    have e':g ^ (n + 1)=g ^ n * g:=Lean.Grind.Semiring.pow_succ g n
    rw [e,e']; exact (Eqv.pow a pf pg n).mul a pf (pg.pow n)
theorem Eqv.eq {p:Int} (hp:Clock p) (hpq:p=q) {b r s:List Int} (hb:Sm q b) (hne:b ≠ []) (hr:Sm q r) (hs:Sm q s) (lr:r.length < b.length) (ls:s.length < b.length) (h:Eqv (ser q b) (ser q r) (ser q s)):r=s:=by
  obtain ⟨u,pu,e⟩:=h
  have:=div_uniq (nzd hp hpq) hb hne Pl.zero pu ((ser_bd (q:=q) r).mono (by (clear e pu ls hs hr hne hb hpq hp; (first|lia|omega)))) ((ser_bd (q:=q) s).mono (by (clear e pu lr hs hr hne hb hpq hp; (first|lia|omega)))) (show (0:Ser (Fin q)) * ser q b + ser q r=u * ser q b + ser q s by grind)
  exact ser_inj hr hs this.2
theorem E_rest_by {p:Int} (hp:Clock p) (hpq:p=q) (a b:List Int) (ha:Red q a) (hb:Sm q b) (hne:b ≠ []) (la:a.length ≤ 190) (lb:b.length ≤ 190) :
    ∃ r,Sm q r∧r.length < b.length∧Eqv (ser q b) (ser q a) (ser q r)∧R.m_rest_by [tupZ a,tupZ b,.int q]=some (.ok (tupZ r)):=by
  obtain ⟨m,r,m1,m2,m3,m4,m5,m6⟩:=E_parted hp hpq a b ha hb hne la lb
  refine ⟨r,m2,m4,⟨ser q m,Pl.ser m,by rw [m5]; grind⟩,?_⟩
  unfold R.m_rest_by R.g_rest_by
  simp [m6,atI_nat']
end
end PF
set_option Elab.async false
set_option linter.all false
set_option maxRecDepth 100000
set_option maxHeartbeats 4000000
namespace PF
open PySem L2 PA
@[simp] theorem atI2_0 {α:Type} (x y:α):atI [x,y] 0=some x:=rfl
@[simp] theorem atI2_1 {α:Type} (x y:α):atI [x,y] 1=some y:=rfl
@[simp] theorem atI3_0 {α:Type} (x y z:α):atI [x,y,z] 0=some x:=rfl
@[simp] theorem atI3_1 {α:Type} (x y z:α):atI [x,y,z] 1=some y:=rfl
@[simp] theorem atI3_2 {α:Type} (x y z:α):atI [x,y,z] 2=some z:=rfl
@[simp] theorem uIsN_non:uIsN .non=some (.bl true):=rfl
@[simp] theorem uIsN_tup (l:List D):uIsN (.tup l)=some (.bl false):=rfl
@[simp] theorem uIsN_tupZ (l:List Int):uIsN (tupZ l)=some (.bl false):=rfl
@[simp] theorem uIsN_int (i:Int):uIsN (.int i)=some (.bl false):=rfl
@[simp] theorem deq_tupZ (a b:List Int):deq (tupZ a) (tupZ b)=decide (a=b):=by unfold tupZ; rw [deq,deqs_ints]
@[simp] theorem dep_tupZ (a:List Int):dep (tupZ a)=1:=by unfold tupZ; simp [dep,deps_i]
end PF
set_option Elab.async false
set_option linter.all false
set_option maxRecDepth 100000
set_option maxHeartbeats 4000000
namespace PF
open PySem L2 PA
section
variable {q:Nat} [NeZero q]
theorem dvd_len (nz:∀ a b:Fin q,a * b=0→a=0∨b=0) {a d:List Int} (sa:Sm q a) (sd:Sm q d) (na:a ≠ []) (nd:d ≠ []) {u:Ser (Fin q)} (pu:Pl u) (h:ser q a=u * ser q d):d.length ≤ a.length:=by
  rcases Nat.lt_or_ge a.length d.length with c | c
  · exfalso
    have:=div_uniq nz sd nd Pl.zero pu ((ser_bd a).mono (show a.length ≤ d.length - 1 by (clear h pu nd na sd sa nz; (first|lia|omega)))) (Bd.zero _) (show 0 * ser q d + ser q a=u * ser q d + 0 by rw [h]; grind)
    exact na (sa.nil_of this.2)
  · exact c
end
end PF
set_option Elab.async false
set_option linter.all false
set_option maxRecDepth 100000
set_option maxHeartbeats 4000000
namespace PF
open PySem L2 PA
section
variable {q:Nat} [NeZero q]
theorem common_or {p:Int} (hp:Clock p) (hpq:p=q) (a b:List Int) (sa:Sm q a) (sb:Sm q b) (nb:b ≠ []) (la:a.length ≤ 50) (lb:b.length ≤ 50) :
    ∃ g x y,Sm q g∧Sm q x∧Sm q y∧x.length ≤ 60∧y.length ≤ 60∧R.m_common [tupZ a,tupZ b,.int q]=some (.ok (.tup [tupZ g,tupZ x,tupZ y]))∧
      ((g ≠ [1]∧2 ≤ g.length∧(∃ u,Pl u∧ser q a=u * ser q g)∧(∃ u,Pl u∧ser q b=u * ser q g))∨(g=[1]∧1=ser q x * ser q a + ser q y * ser q b)):=by
  obtain ⟨g,x,y,sg,sx,sy,lg,lx,ly,eg,hu,hv,hw,hz,run⟩:=E_common hp hpq a b sa sb la lb
  refine ⟨g,x,y,sg,sx,sy,lx,ly,run,?_⟩
  by_cases c:g=[1]
  · right
    refine ⟨c,?_⟩
    rw [← eg,c,ser_one]
  · left
    have ng:g ≠ []:=by
      rintro rfl
      obtain ⟨v,_,ev⟩:=hv
      rw [ser_nil] at ev
      exact nb (sb.nil_of (by rw [ev]; grind))
    refine ⟨c,?_,hu,hv⟩
    have g0:=List.length_pos_iff.mpr ng
    rcases Nat.lt_or_ge g.length 2 with z | z
    · exfalso
      match g,g0,z,hw ng with
      | [t],_,_,e=>
        have:t=1:=by simpa [co] using e
        exact c (by rw [this])
    · exact z
end
end PF
namespace K33
open PySem L2 PF PA
variable {q:Nat} [NeZero q]
end K33
set_option Elab.async false
set_option linter.all false
set_option maxRecDepth 100000
set_option maxHeartbeats 4000000
namespace PF
open PySem L2 PA
section
variable {q:Nat} [NeZero q]
theorem ser_cons (a:Int) (l:List Int):ser q (a :: l)=mn (ic a) 0 + mn 1 1 * ser q l:=Ser.ext fun k=>by
  rw [add_c,ser_c,mn_mul]
  cases k with
  | zero=>simp [mn,co]
  | succ k=>
    have:co (a :: l) (k + 1)=co l k:=by simp [co,List.getD]
    rw [this,if_pos (by (first|lia|omega)),ser_c]
    simp [mn]
    grind
theorem char_zero:((q:Nat):Ser (Fin q))=0:=Ser.ext fun k=>by
  show (if k=0 then (nc q:Fin q) else 0)=(0:Ser (Fin q)).c k
  rw [zero_c]
  split
  · have:=Lean.Grind.IsCharP.natCast_ext_iff (α:=Fin q) q (x:=q) (y:=0)
    have h:=this.mpr (by simp)
    exact h.trans Lean.Grind.Semiring.natCast_zero
  · rfl
end
theorem frob2 (f g:Ser (Fin 2)):(f + g) ^ 2=f ^ 2 + g ^ 2:=by
  have h:(2:Ser (Fin 2))=0:=char_zero (q:=2)
  grind
theorem frob3 (f g:Ser (Fin 3)):(f + g) ^ 3=f ^ 3 + g ^ 3:=by
  have h:(3:Ser (Fin 3))=0:=char_zero (q:=3)
  grind
theorem frob5 (f g:Ser (Fin 5)):(f + g) ^ 5=f ^ 5 + g ^ 5:=by
  have h:(5:Ser (Fin 5))=0:=char_zero (q:=5)
  grind
theorem fermat2:∀ a:Fin 2,a * a=a:=by decide
theorem fermat3:∀ a:Fin 3,a * a * a=a:=by decide
theorem fermat5:∀ a:Fin 5,a * a * a * a * a=a:=by decide
section
variable {q:Nat} [NeZero q]
theorem frob {p:Int} (hp:Clock p) (hpq:p=q) (f g:Ser (Fin q)):(f + g) ^ q=f ^ q + g ^ q:=by
  rcases hp with rfl | rfl | rfl
  · obtain rfl:q=2:=by (first|lia|omega)
    exact frob2 f g
  · obtain rfl:q=3:=by (first|lia|omega)
    exact frob3 f g
  · obtain rfl:q=5:=by (first|lia|omega)
    exact frob5 f g
theorem psucc (f:Ser (Fin q)) (n:Nat):f ^ (n + 1)=f ^ n * f:=Lean.Grind.Semiring.pow_succ f n
theorem pzero (f:Ser (Fin q)):f ^ 0=1:=Lean.Grind.Semiring.pow_zero f
theorem mulp (f g:Ser (Fin q)) (n:Nat):(f * g) ^ n=f ^ n * g ^ n:=by
  induction n with
  | zero=>rw [pzero,pzero,pzero]; grind
  | succ n ih=>rw [psucc,psucc,psucc,ih]; grind
theorem mn0_mul (a b:Fin q):mn a 0 * mn b 0=mn (a * b) 0:=mn_mn a b 0 0
theorem fermat {p:Int} (hp:Clock p) (hpq:p=q) (a:Fin q):(mn a 0) ^ q=mn a 0:=by
  have e1:∀ h:Ser (Fin q),h ^ 1=h:=fun h=>by rw [psucc,pzero]; grind
  rcases hp with rfl | rfl | rfl
  · obtain rfl:q=2:=by (first|lia|omega)
    rw [psucc,e1,mn0_mul,fermat2]
  · obtain rfl:q=3:=by (first|lia|omega)
    rw [psucc,psucc,e1,mn0_mul,mn0_mul,fermat3]
  · obtain rfl:q=5:=by (first|lia|omega)
    rw [psucc,psucc,psucc,psucc,e1,mn0_mul,mn0_mul,mn0_mul,mn0_mul,fermat5]
end
end PF
set_option Elab.async false
set_option linter.all false
set_option maxRecDepth 100000
set_option maxHeartbeats 4000000
namespace PF
open PySem L2 PA
section
variable {q:Nat} [NeZero q]
noncomputable def dv (f:Ser (Fin q)):Ser (Fin q):=⟨fun k=>ic ((k:Int) + 1) * f.c (k + 1)⟩
theorem dv_c (f:Ser (Fin q)) (k:Nat):(dv f).c k=ic ((k:Int) + 1) * f.c (k + 1):=rfl
theorem dv_add (f g:Ser (Fin q)):dv (f + g)=dv f + dv g:=Ser.ext fun k=>by simp only [dv_c,add_c]; grind
theorem dv_cn (a:Fin q) (g:Ser (Fin q)):dv (mn a 0 * g)=mn a 0 * dv g:=Ser.ext fun k=>by
  rw [dv_c,mn_mul,mn_mul,if_pos (by (first|lia|omega)),if_pos (by (first|lia|omega)),dv_c]
  simp only [Nat.sub_zero]
  grind
theorem dv_x (h:Ser (Fin q)):dv (mn 1 1 * h)=h + mn 1 1 * dv h:=Ser.ext fun k=>by
  rw [dv_c,add_c,mn_mul,mn_mul,if_pos (by (first|lia|omega))]
  cases k with
  | zero=>
    rw [if_neg (by (first|lia|omega))]
    have:(ic (((0:Nat):Int) + 1):Fin q)=1:=ic_one
    rw [this]
    simp only [Nat.zero_add,Nat.sub_self]
    grind
  | succ k=>
    rw [if_pos (by (first|lia|omega)),dv_c]
    have e1:k + 1 + 1 - 1=k + 1:=by (first|lia|omega)
    have e2:k + 1 - 1=k:=by (clear e1; (first|lia|omega))
    rw [e1,e2]
    have e3:(ic (((k + 1:Nat):Int) + 1):Fin q)=ic ((k:Int) + 1) + 1:=by
      have:((k + 1:Nat):Int) + 1=((k:Int) + 1) + 1:=by (clear e2 e1; (first|lia|omega))
      rw [this,ic_add,ic_one]
    rw [e3]
    grind
theorem dv_c0 (a:Fin q):dv (mn a 0)=0:=Ser.ext fun k=>by
  rw [dv_c,zero_c]
  simp [mn]
  grind
theorem dv_mul:∀ (l:List Int) (g:Ser (Fin q)),dv (ser q l * g)=dv (ser q l) * g + ser q l * dv g
  | [],g=>by
    rw [ser_nil]
    have e:dv (0:Ser (Fin q))=0:=Ser.ext fun k=>by rw [dv_c,zero_c,zero_c]; grind
    have e2:(0:Ser (Fin q)) * g=0:=by grind
    rw [e2,e]; grind
  | a :: l,g=>by
    have e1:ser q (a :: l) * g=mn (ic a) 0 * g + mn 1 1 * (ser q l * g):=by rw [ser_cons]; grind
    have e2:dv (ser q (a :: l))=ser q l + mn 1 1 * dv (ser q l):=by rw [ser_cons,dv_add,dv_c0,dv_x]; grind
    rw [e1,dv_add,dv_cn,dv_x,dv_mul l g,e2,ser_cons]
    grind
theorem dv_bd {f:Ser (Fin q)} {n:Nat} (h:Bd f (n + 1)):Bd (dv f) n:=fun k hk=>by
  rw [dv_c,h (k + 1) (by (clear h; (first|lia|omega)))]; grind
theorem dv_square {d u v g h:List Int} (eg:ser q g=ser q u * ser q d) (eh:ser q h=ser q v * ser q d):∃ w,Pl w∧dv (ser q g * ser q h)=w * ser q d:=by
  refine ⟨dv (ser q g) * ser q v + ser q u * dv (ser q h),?_,?_⟩
  · have pd:∀ l:List Int,Pl (dv (ser q l)):=fun l=>⟨l.length,dv_bd ((ser_bd l).mono (by (clear eh eg; (first|lia|omega))))⟩
    exact ((pd g).mul (Pl.ser v)).add ((Pl.ser u).mul (pd h))
  · rw [dv_mul]
    have:dv (ser q g) * ser q h + ser q g * dv (ser q h)=dv (ser q g) * (ser q v * ser q d) + (ser q u * ser q d) * dv (ser q h):=by rw [← eh,← eg]
    rw [this]; grind
theorem nm_of (l:List Int):∃ r,Nm l r:=by
  have key:∀ m,m ≤ l.length→(∀ k,m ≤ k→co l k=0)→∃ r,Nm l r:=by
    intro m
    induction m with
    | zero=>intro _ h; exact ⟨l.take 0,0,Nat.zero_le _,rfl,h,top_take (Nat.zero_le _) (.inl rfl)⟩
    | succ m ih=>
      intro hl h
      by_cases c:co l m=0
      · refine ih (by (clear c h ih; (first|lia|omega))) fun k hk=>?_
        by_cases e:k=m
        · rw [e]; exact c
        · exact h k (by (clear c h hl ih; (first|lia|omega)))
      · exact ⟨l.take (m + 1),m + 1,hl,rfl,h,top_take hl (.inr (by simpa using c))⟩
  exact key l.length (Nat.le_refl _) fun k hk=>getD_ge hk
theorem list_of {f:Ser (Fin q)} (h:Pl f):∃ l,Sm q l∧ser q l=f:=by
  obtain ⟨n,h⟩:=h
  have inv:∀ a:Fin q,(ic (a.val:Int):Fin q)=a:=fun a=>by
    have e:(ic (a.val:Int):Fin q)=nc a.val:=Lean.Grind.Ring.intCast_natCast a.val
    rw [e]
    show (Fin.ofNat q a.val)=a
    exact Fin.ext (Nat.mod_eq_of_lt a.isLt)
  obtain ⟨r,g1⟩:=nm_of ((List.range n).map fun k=>((f.c k).val:Int))
  refine ⟨r,g1.sm fun x hx=>?_,?_⟩
  · obtain ⟨k,_,rfl⟩:=List.mem_map.mp hx
    have:=(f.c k).isLt
    (clear this hx g1 inv h; (first|lia|omega))
  · rw [g1.ser]
    refine Ser.ext fun k=>?_
    rw [ser_co]
    split
    · exact inv _
    · rw [h k (by (clear g1 inv h; (first|lia|omega)))]
end
end PF
set_option Elab.async false
set_option linter.all false
set_option maxRecDepth 100000
set_option maxHeartbeats 4000000
namespace PF
open PySem L2 PA
section
variable {q:Nat} [NeZero q]
noncomputable def ph (f:Ser (Fin q)):Ser (Fin q):=f ^ q - f
theorem ph_add {p:Int} (hp:Clock p) (hpq:p=q) (f g:Ser (Fin q)):ph (f + g)=ph f + ph g:=by
  unfold ph
  rw [frob hp hpq]
  generalize f ^ q=F
  generalize g ^ q=G
  grind
theorem ph_scale {p:Int} (hp:Clock p) (hpq:p=q) (a:Fin q) (f:Ser (Fin q)):ph (mn a 0 * f)=mn a 0 * ph f:=by
  unfold ph
  rw [mulp,fermat hp hpq]
  generalize f ^ q=F
  grind
theorem ph_const {p:Int} (hp:Clock p) (hpq:p=q) (a:Fin q):ph (mn a 0:Ser (Fin q))=0:=by
  unfold ph
  rw [fermat hp hpq]; grind
theorem Eqv.sub {G f g f' g':Ser (Fin q)} (a:Eqv G f g) (b:Eqv G f' g'):Eqv G (f - f') (g - g'):=by
  obtain ⟨u,pu,e⟩:=a
  obtain ⟨v,pv,e'⟩:=b
  exact ⟨u - v,pu.sub pv,by grind⟩
theorem ph_eqv {G f g:Ser (Fin q)} (h:Eqv G f g) (pf:Pl f) (pg:Pl g):Eqv G (ph f) (ph g):=(h.pow pf pg q).sub h
noncomputable def pr (f:Ser (Fin q)):Nat→Ser (Fin q)
  | 0=>1
  | s + 1=>pr f s * (f - mn (ic (s:Int)) 0)
end
theorem ph2 (f:Ser (Fin 2)):ph f=pr f 2:=by
  have h:(2:Ser (Fin 2))=0:=char_zero (q:=2)
  have e0:(mn (ic ((0:Nat):Int)) 0:Ser (Fin 2))=0:=by rw [show ((0:Nat):Int)=0 from rfl,ic_zero,mn_zero]
  have e1:(mn (ic ((1:Nat):Int)) 0:Ser (Fin 2))=1:=by rw [show ((1:Nat):Int)=1 from rfl,ic_one]; rfl
  simp only [pr,ph,e0,e1]
  grind
theorem ph3 (f:Ser (Fin 3)):ph f=pr f 3:=by
  have h:(3:Ser (Fin 3))=0:=char_zero (q:=3)
  have e0:(mn (ic ((0:Nat):Int)) 0:Ser (Fin 3))=0:=by rw [show ((0:Nat):Int)=0 from rfl,ic_zero,mn_zero]
  have e1:(mn (ic ((1:Nat):Int)) 0:Ser (Fin 3))=1:=by rw [show ((1:Nat):Int)=1 from rfl,ic_one]; rfl
  have e2:(mn (ic ((2:Nat):Int)) 0:Ser (Fin 3))=2:=rfl
  simp only [pr,ph,e0,e1,e2]
  grind
theorem ph5 (f:Ser (Fin 5)):ph f=pr f 5:=by
  have h:(5:Ser (Fin 5))=0:=char_zero (q:=5)
  have e0:(mn (ic ((0:Nat):Int)) 0:Ser (Fin 5))=0:=by rw [show ((0:Nat):Int)=0 from rfl,ic_zero,mn_zero]
  have e1:(mn (ic ((1:Nat):Int)) 0:Ser (Fin 5))=1:=by rw [show ((1:Nat):Int)=1 from rfl,ic_one]; rfl
  have e2:(mn (ic ((2:Nat):Int)) 0:Ser (Fin 5))=2:=rfl
  have e3:(mn (ic ((3:Nat):Int)) 0:Ser (Fin 5))=3:=rfl
  have e4:(mn (ic ((4:Nat):Int)) 0:Ser (Fin 5))=4:=rfl
  simp only [pr,ph,e0,e1,e2,e3,e4]
  grind
section
variable {q:Nat} [NeZero q]
theorem ph_pr {p:Int} (hp:Clock p) (hpq:p=q) (f:Ser (Fin q)):ph f=pr f q:=by
  rcases hp with rfl | rfl | rfl
  · obtain rfl:q=2:=by (first|lia|omega)
    exact ph2 f
  · obtain rfl:q=3:=by (first|lia|omega)
    exact ph3 f
  · obtain rfl:q=5:=by (first|lia|omega)
    exact ph5 f
theorem Pl.pr {f:Ser (Fin q)} (h:Pl f):∀ s,Pl (PF.pr f s)
  | 0=>Pl.one
  | s + 1=>(Pl.pr h s).mul (h.sub (Pl.mn _ _))
theorem ph_two {p:Int} (hp:Clock p) (hpq:p=q) {f:Ser (Fin q)} (pf:Pl f):∃ w,Pl w∧ph f=f * (f - 1) * w:=by
  have h25:=one_le_of hp hpq
  have e0:(mn (ic ((0:Nat):Int)) 0:Ser (Fin q))=0:=by rw [show ((0:Nat):Int)=0 from rfl,ic_zero,mn_zero]
  have e1:(mn (ic ((1:Nat):Int)) 0:Ser (Fin q))=1:=by rw [show ((1:Nat):Int)=1 from rfl,ic_one]; rfl
  have key:∀ s,∃ w,Pl w∧pr f (s + 2)=f * (f - 1) * w:=by
    intro s
    induction s with
    | zero=>exact ⟨1,Pl.one,by simp only [pr,e0,e1]; grind⟩
    | succ s ih=>
      obtain ⟨w,pw,ew⟩:=ih
      refine ⟨w * (f - mn (ic ((s + 2:Nat):Int)) 0),pw.mul (pf.sub (Pl.mn _ _)),?_⟩
      rw [pr,ew]; grind
  obtain ⟨w,pw,ew⟩:=key (q - 2)
  rw [show q - 2 + 2=q by (clear ew pw key e1 e0 pf hpq hp; (first|lia|omega))] at ew
  exact ⟨w,pw,by rw [ph_pr hp hpq,ew]⟩
theorem pr_cop {G f:Ser (Fin q)} (pf:Pl f) (h:∀ s:Nat,s < q→∃ x y,Pl x∧Pl y∧1=x * G + y * (f - mn (ic (s:Int)) 0)):∀ s,s ≤ q→∃ x y,Pl x∧Pl y∧1=x * G + y * pr f s
  | 0,_=>⟨0,1,Pl.zero,Pl.one,by simp only [pr]; grind⟩
  | s + 1,hs=>by
    obtain ⟨x,y,px,py,e⟩:=pr_cop pf h s (by (clear h pf; (first|lia|omega)))
    obtain ⟨x',y',px',py',e'⟩:=h s (by (clear e py px h pf; (first|lia|omega)))
    rw [pr]
    generalize f - mn (ic (s:Int)) 0=B at e' ⊢
    have pp:Pl (pr f s):=Pl.pr pf s
    refine ⟨x * 1 + y * pr f s * x',y * y',(px.mul Pl.one).add ((py.mul pp).mul px'),py.mul py',?_⟩
    generalize pr f s=A at e ⊢
    have:(1:Ser (Fin q))=x * G + y * A * (x' * G + y' * B):=by rw [← e']; rw [e]; grind
    rw [this]; grind
theorem add_len {a b:List Int} (sa:Sm q a) (sb:Sm q b) (ne:a.length ≠ b.length):∃ w,Sm q w∧ser q w=ser q a + ser q b∧w.length=max a.length b.length:=by
  obtain ⟨w,sw,ew⟩:=list_of ((Pl.ser a).add (Pl.ser (q:=q) b))
  refine ⟨w,sw,ew,?_⟩
  have up:w.length ≤ max a.length b.length:=sw.len_le (by rw [ew]; exact ((ser_bd a).mono (by (clear ew sw ne sb sa; (first|lia|omega)))).add ((ser_bd b).mono (by (clear ew sw ne sb sa; (first|lia|omega)))))
  have key:∀ {a b:List Int},Sm q a→Sm q b→a.length < b.length→ser q w=ser q a + ser q b→b.length ≤ w.length:=by
    intro a b sa sb lt ew
    rcases Nat.lt_or_ge w.length b.length with c | c
    · exfalso
      have nb:b ≠ []:=by rintro rfl; simp at lt
      have h1:(ser q w).c (b.length - 1)=0:=ser_bd w _ (by (clear nb lt up sw ne; (first|lia|omega)))
      rw [ew,add_c,ser_bd a _ (by (clear h1 nb c up sw ne; (first|lia|omega)))] at h1
      have h2:=sb.top nb
      exact h2 (by grind)
    · exact c
  rcases Nat.lt_or_ge a.length b.length with c | c
  · have:=key sa sb c ew; (clear key ew sw ne sb sa; (first|lia|omega))
  · have:=key sb sa (show b.length < a.length by (clear key up ew sw sb sa; (first|lia|omega))) (by rw [ew]; grind); (clear key ew sw ne sb sa; (first|lia|omega))
theorem scale_len (nz:∀ a b:Fin q,a * b=0→a=0∨b=0) {a:List Int} (sa:Sm q a) {c:Fin q} (hc:c ≠ 0):∃ w,Sm q w∧ser q w=mn c 0 * ser q a∧w.length=a.length:=by
  obtain ⟨w,sw,ew⟩:=list_of ((Pl.mn c 0).mul (Pl.ser (q:=q) a))
  refine ⟨w,sw,ew,?_⟩
  have cf:∀ k,(ser q w).c k=c * (ser q a).c k:=fun k=>by rw [ew,mn_mul,if_pos (by (clear ew sw hc sa nz; (first|lia|omega))),Nat.sub_zero]
  have up:w.length ≤ a.length:=sw.len_le fun k hk=>by rw [cf,ser_bd a k hk]; grind
  rcases Nat.lt_or_ge w.length a.length with z | z
  · exfalso
    have na:a ≠ []:=by rintro rfl; simp at z
    have h1:=cf (a.length - 1)
    rw [ser_bd w _ (by (clear h1 na up cf ew sw hc sa nz; (first|lia|omega)))] at h1
    rcases nz _ _ h1.symm with e | e
    · exact hc e
    · exact sa.top na e
  · (clear cf ew sw hc sa nz; (first|lia|omega))
noncomputable def PP (F:Ser (Fin q)) (n:Nat) (keys:List Nat) (i:Nat):Prop:=∀ v:Ser (Fin q),Bd v i→v.c 0=0→v ≠ 0→∃ w,Sm q w∧w ≠ []∧w.length < n∧Eqv F (ser q w) (ph v)∧w.length ∈ keys
theorem PP.start (F:Ser (Fin q)) (n:Nat):PP F n [] 1:=fun v b c h=>by
  exfalso
  apply h
  refine Ser.ext fun k=>?_
  rw [zero_c]
  cases k with
  | zero=>exact c
  | succ k=>exact b _ (by (clear h c b; (first|lia|omega)))
theorem PP.step {p:Int} (hp:Clock p) (hpq:p=q) {F:Ser (Fin q)} {n i:Nat} {keys:List Nat} (h:PP F n keys i) (hi:1 ≤ i) {left:List Int} {u:Ser (Fin q)} (sl:Sm q left) (nl:left ≠ []) (ll:left.length < n) (nk:left.length ∉ keys) (bu:Bd u i) (u0:u.c 0=0) (e:Eqv F (ser q left) (ph (mn 1 i - u))):PP F n (keys ++ [left.length]) (i + 1):=by
  intro v bv v0 nv
  have sp:=split_top bv
  by_cases c:v.c i=0
  · rw [c,mn_zero] at sp
    have bl:Bd v i:=by
      rw [sp]
      have:low v i + 0=low v i:=by grind
      rw [this]; exact low_bd v i
    obtain ⟨w,w1,w2,w3,w4,w5⟩:=h v bl v0 nv
    exact ⟨w,w1,w2,w3,w4,List.mem_append_left _ w5⟩
  · obtain ⟨cl,c1,c2,c3⟩:=scale_len (nzd hp hpq) sl c
    obtain ⟨v2,ev2⟩:∃ v2,v2=low v i + mn (v.c i) 0 * u:=⟨_,rfl⟩
    have bm:Bd (mn (v.c i) 0 * u) i:=fun k hk=>by rw [mn_mul,if_pos (by (clear hk ev2 c3 c2 c1 c sp nv v0 bv e u0 bu nk ll nl sl hi h hpq hp; (first|lia|omega))),Nat.sub_zero,bu k hk]; grind
    have b2:Bd v2 i:=by rw [ev2]; exact (low_bd v i).add bm
    have z2:v2.c 0=0:=by
      rw [ev2,add_c,mn_mul,if_pos (by (clear b2 bm ev2 c3 c2 c1 c sp nv v0 bv e u0 bu nk ll nl sl hi h hpq hp; (first|lia|omega))),u0]
      simp only [low]
      rw [if_pos (by (clear b2 bm ev2 c3 c2 c1 c sp nv v0 bv e u0 bu nk ll nl sl h hpq hp; (first|lia|omega))),v0]; grind
    have em:(mn (v.c i) i:Ser (Fin q))=mn (v.c i) 0 * mn 1 i:=by rw [mn_mn]; simp; grind
    have ev:v=v2 + mn (v.c i) 0 * (mn 1 i - u):=by
      rw [ev2]
      have:low v i + mn (v.c i) 0 * u + mn (v.c i) 0 * (mn 1 i - u)=low v i + mn (v.c i) i:=by rw [em]; grind
      rw [this]; exact sp
    have epv:ph v=ph v2 + mn (v.c i) 0 * ph (mn 1 i - u):=by
      conv=>lhs; rw [ev]
      rw [ph_add hp hpq,ph_scale hp hpq]
    have ec:Eqv F (ser q cl) (mn (v.c i) 0 * ph (mn 1 i - u)):=by
      rw [c2]
      obtain ⟨t,pt,et⟩:=e
      exact ⟨mn (v.c i) 0 * t,(Pl.mn _ _).mul pt,by
        have:mn (v.c i) 0 * ser q left - mn (v.c i) 0 * ph (mn 1 i - u)=mn (v.c i) 0 * (ser q left - ph (mn 1 i - u)):=by grind
        rw [this,et]; grind⟩
    by_cases n2:v2=0
    · refine ⟨cl,c1,?_,by (clear n2 ec epv ev em z2 b2 bm ev2 c2 c1 c sp nv v0 bv e u0 bu nk nl sl hi h hpq hp; (first|lia|omega)),?_,by rw [c3]; simp⟩
      · rintro rfl
        have:=List.length_pos_iff.mpr nl
        simp at c3; (clear ec c2 c1 n2 epv ev em z2 b2 bm ev2 c sp nv v0 bv e u0 bu nk ll nl sl hi h hpq hp; (first|lia|omega))
      · rw [epv,n2]
        have:ph (0:Ser (Fin q))=0:=by
          have:=ph_const hp hpq (0:Fin q)
          rwa [mn_zero] at this
        rw [this]
        have:(0:Ser (Fin q)) + mn (v.c i) 0 * ph (mn 1 i - u)=mn (v.c i) 0 * ph (mn 1 i - u):=by grind
        rw [this]; exact ec
    · obtain ⟨w,w1,w2,w3,w4,w5⟩:=h v2 b2 z2 n2
      have nel:w.length ≠ cl.length:=fun z=>nk (by rw [← c3,← z]; exact w5)
      obtain ⟨x,x1,x2,x3⟩:=add_len w1 c1 nel
      have w0:=List.length_pos_iff.mpr w2
      refine ⟨x,x1,?_,by (clear w0 x2 x1 nel w5 w4 w2 w1 n2 ec epv ev em z2 b2 bm ev2 c2 c1 c sp nv v0 bv e u0 bu nk nl sl hi h hpq hp; (first|lia|omega)),?_,?_⟩
      · rintro rfl
        simp at x3; (clear x2 x1 w0 w5 w4 w3 w2 w1 n2 ec epv ev em z2 b2 bm ev2 c3 c2 c1 c sp nv v0 bv e u0 bu nk ll nl sl hi h hpq hp; (first|lia|omega))
      · rw [x2,epv]; exact w4.add ec
      · rw [x3]
        rcases Nat.lt_or_ge w.length cl.length with z | z
        · rw [Nat.max_eq_right (by (clear w0 x3 x2 x1 nel w5 w4 w3 w2 w1 n2 ec epv ev em z2 b2 bm ev2 c3 c2 c1 c sp nv v0 bv e u0 bu nk ll nl sl hi h hpq hp; (first|lia|omega))),c3]; simp
        · rw [Nat.max_eq_left z]; exact List.mem_append_left _ w5
theorem no_part {p:Int} (hp:Clock p) (hpq:p=q) {f g:List Int} {keys:List Nat} (sf:Sm q f) (nf:f ≠ []) (lf:f.length ≤ 50) (sg:Sm q g) (lg:2 ≤ g.length) (lg2:g.length < f.length) {h:Ser (Fin q)} (ph_:Pl h) (e:ser q f=h * ser q g) {x y:Ser (Fin q)} (px:Pl x) (py:Pl y) (cop:1=x * ser q f + y * dv (ser q f)) (pp:PP (ser q f) f.length keys (f.length - 1)):False:=by
  have ng:g ≠ []:=by rintro rfl; simp at lg
  obtain ⟨hl,sh,eh⟩:=list_of ph_
  rw [← eh] at e
  have nh:hl ≠ []:=by
    rintro rfl
    rw [ser_nil] at e
    exact nf (sf.nil_of (by rw [e]; grind))
  have lens:=mul_len (nzd hp hpq) sh sg sf nh ng e
  have lh:2 ≤ hl.length:=by (clear nh eh sh e ng pp cop py px ph_ lg sg lf nf sf hpq hp; (first|lia|omega))
  have eg':ser q f=ser q g * ser q hl:=by rw [e]; grind
  obtain ⟨d,a,b,sd,sa,sb,la,lb,run,cs⟩:=common_or hp hpq g hl sg sh nh (by (clear eg' lh lens nh eh sh e ng pp cop py px ph_ lg sg nf sf hpq hp; (first|lia|omega))) (by (clear eg' lh nh eh sh e ng pp cop py px ph_ lg2 sg nf sf hpq hp; (first|lia|omega)))
  rcases cs with ⟨_,ld,⟨u,pu,eu⟩,⟨v,pv,ev⟩⟩ | ⟨_,one⟩
  · -- a common part of both divides 1
    obtain ⟨ul,su,eul⟩:=list_of pu
    obtain ⟨vl,sv,evl⟩:=list_of pv
    rw [← eul] at eu
    rw [← evl] at ev
    obtain ⟨w,pw,ew⟩:=dv_square eu ev
    rw [← eg'] at ew
    have e1:(1:Ser (Fin q))=(x * ser q ul * ser q hl + y * w) * ser q d:=by
      rw [cop,ew,eg',eu]; grind
    have nd:d ≠ []:=by rintro rfl; simp at ld
    have:=dvd_len (nzd hp hpq) (Sm.one (one_le_of hp hpq).1) sd (by simp) nd (((px.mul (Pl.ser ul)).mul (Pl.ser hl)).add (py.mul pw)) (by rw [ser_one]; exact e1)
    simp at this; (clear nd e1 ew pw evl sv ev eul su eu pv pu run lb la sb sa sd eg' lh lens nh eh sh e ng pp cop py px ph_ lg2 lg sg lf nf sf hpq hp; (first|lia|omega))
  · obtain ⟨v0,ev0⟩:∃ v0,v0=ser q a * ser q g:=⟨_,rfl⟩
    have p0:Pl v0:=by rw [ev0]; exact (Pl.ser a).mul (Pl.ser g)
    have ev1:v0 - 1=0 - ser q b * ser q hl:=by rw [ev0,one]; grind
    obtain ⟨w,pw,ew⟩:=ph_two hp hpq p0
    have dvd0:Eqv (ser q f) (ph v0) 0:=by
      refine ⟨(0 - ser q a * ser q b) * w,(Pl.zero.sub ((Pl.ser a).mul (Pl.ser b))).mul pw,?_⟩
      rw [ew,ev1,ev0,eg']; grind
    -- the short sum alike to v0
    obtain ⟨v0l,sv0,e0l⟩:=list_of p0
    have l0:v0l.length ≤ 190:=by
      refine Nat.le_trans (sv0.len_le (n:=a.length + g.length - 1) ?_) (by (clear e0l sv0 dvd0 ew pw ev1 p0 ev0 one run lb sb sa sd eg' lh lens nh eh sh e ng pp cop py px ph_ lg sg nf sf hpq hp; (first|lia|omega)))
      rw [e0l,ev0]
      exact (ser_bd a).mul (ser_bd g)
    obtain ⟨r,Q,r1,r2,r3,r4,r5,r6⟩:=E_l_rest hp hpq v0l f sv0 sf nf l0 (by (clear l0 e0l sv0 dvd0 ew pw ev1 p0 ev0 one run lb la sb sa sd eg' lh lens nh eh sh e ng pp cop py px ph_ lg2 lg sg nf sf hpq hp; (first|lia|omega)))
    rw [e0l] at r5
    have pQ:Pl Q:=⟨_,r4⟩
    have er:Eqv (ser q f) v0 (ser q r):=⟨Q,pQ,by rw [r5]; grind⟩
    have small:∀ {k:List Int} {c:Fin q} {t:Ser (Fin q)},Sm q k→2 ≤ k.length→Pl t→(mn c 0:Ser (Fin q))=t * ser q k→c=0:=by
      intro k c t sk lk pt et
      rcases Classical.em (c=0) with z | z
      · exact z
      · exfalso
        obtain ⟨cl,sc,ec⟩:=list_of (Pl.mn c 0)
        have nk:k ≠ []:=by rintro rfl; simp at lk
        have nc:cl ≠ []:=by
          rintro rfl
          have h0:=congrArg (fun f=>f.c 0) ec
          simp only [ser_nil,zero_c] at h0
          exact z (by simpa [mn] using h0.symm)
        have l1:=dvd_len (nzd hp hpq) sc sk nc nk pt (by rw [ec,et])
        have l2:cl.length ≤ 1:=sc.len_le (by rw [ec]; exact Bd.mn c 0)
        (clear nc nk ec sc z et pt sk er pQ r6 r5 r4 r3 r2 r1 l0 e0l sv0 dvd0 ew pw ev1 p0 ev0 one run lb la sb sa sd eg' lh lens nh eh sh e ng pp cop py px ph_ lg2 lg sg lf nf sf hpq hp; (first|lia|omega))
    obtain ⟨c,hc⟩:∃ c,c=(ser q r).c 0:=⟨_,rfl⟩
    obtain ⟨v2,e2⟩:∃ v2,v2=ser q r - mn c 0:=⟨_,rfl⟩
    have b2:Bd v2 (f.length - 1):=by
      rw [e2]
      exact ((ser_bd r).mono (by (clear e2 hc small er pQ r6 r5 r4 r3 r1 l0 e0l sv0 dvd0 ew pw ev1 p0 ev0 one run lb la sb sa sd eg' lh lens nh eh sh e ng pp cop py px ph_ lg2 lg sg lf nf sf hpq hp; (first|lia|omega)))).sub ((Bd.mn c 0).mono (by (clear e2 hc small er pQ r6 r5 r4 r3 r2 r1 l0 e0l sv0 dvd0 ew pw ev1 p0 ev0 one run lb la sb sa sd eg' lh lens nh eh sh e ng pp cop py px ph_ sg lf nf sf hpq hp; (first|lia|omega))))
    have z2:v2.c 0=0:=by
      rw [e2,sub_c,hc]
      simp only [mn,if_pos]
      grind
    have pe:ph (ser q r)=ph v2:=by
      have:ser q r=v2 + mn c 0:=by rw [e2]; grind
      rw [this,ph_add hp hpq,ph_const hp hpq]; grind
    have n2:v2 ≠ 0:=by
      intro zz
      rw [zz] at e2
      have e3:ser q r=mn c 0:=by grind
      have c0:c=0:=small (t:=ser q a - Q * ser q hl) sg lg ((Pl.ser a).sub (pQ.mul (Pl.ser hl))) (by
        rw [← e3]
        have:ser q r=v0 - Q * ser q f:=by rw [r5]; grind
        rw [this,ev0,eg']; grind)
      rw [c0,mn_zero] at e3
      rw [e3] at r5
      have e4:(mn 1 0:Ser (Fin q))=(Q * ser q g + ser q b) * ser q hl:=by
        have h1:(mn 1 0:Ser (Fin q))=1:=rfl
        have h2:(1:Ser (Fin q))=v0 + ser q b * ser q hl:=by grind
        rw [h1,h2,r5,eg']; grind
      have h10:=small sh lh ((pQ.mul (Pl.ser g)).add (Pl.ser b)) e4
      have hq:=(one_le_of hp hpq).1
      have:(ic 1:Fin q)=ic 0:=by rw [ic_one,ic_zero]; exact h10
      have:=ic_red (q:=q) (a:=1) (b:=0) (by (clear this h10 e4 c0 e3 zz pe z2 b2 e2 hc small er pQ r6 r5 r4 r3 r2 r1 l0 e0l sv0 dvd0 ew pw ev1 p0 ev0 one run lb la sb sa sd eg' lh lens nh eh sh e ng pp cop py px ph_ lg2 lg sg lf nf sf hpq hp; (first|lia|omega))) (by (clear this hq h10 e4 c0 e3 zz pe z2 b2 e2 small er pQ r6 r5 r4 r3 r2 r1 l0 e0l sv0 dvd0 ew pw ev1 p0 ev0 one run lb la sb sa sd eg' lh lens nh eh sh e ng pp cop py px ph_ lg2 lg sg lf nf sf hpq hp; (first|lia|omega))) this
      (clear hq h10 e4 c0 e3 zz pe z2 b2 e2 hc small er pQ r6 r5 r4 r3 r2 r1 l0 e0l sv0 dvd0 ew pw ev1 p0 ev0 one run lb la sb sa sd eg' lh lens nh eh sh e ng pp cop py px ph_ lg2 lg sg lf nf sf hpq hp; (first|lia|omega))
    obtain ⟨w2,x1,x2,x3,x4,x5⟩:=pp v2 b2 z2 n2
    have fin_:Eqv (ser q f) (ser q w2) (ser q []):=by
      rw [ser_nil]
      refine x4.trans ?_
      rw [← pe]
      exact (ph_eqv er p0 (Pl.ser r)).symm.trans dvd0
    exact x2 (Eqv.eq hp hpq sf nf x1 Sm.nil x3 (by simp; (clear fin_ x5 x4 x3 x2 x1 n2 pe z2 b2 e2 hc small er pQ r6 r5 r4 r3 r2 r1 l0 e0l sv0 dvd0 ew pw ev1 p0 ev0 one run lb la sb sa sd eg' lh lens nh eh sh e ng pp cop py px ph_ lg sg lf nf sf hpq hp; (first|lia|omega))) fin_)
end
end PF
set_option Elab.async false
set_option linter.all false
set_option maxRecDepth 100000
set_option maxHeartbeats 4000000
namespace PF
open PySem L2 PA
noncomputable def hr (x:Int):List Int→Int
  | []=>0
  | c :: l=>c + x * hr x l
section
variable {q:Nat} [NeZero q]
noncomputable def EV (f:Ser (Fin q)) (x:Fin q):Nat→Fin q
  | 0=>0
  | n + 1=>EV f x n + f.c n * x ^ n
theorem EV_add (f g:Ser (Fin q)) (x:Fin q):∀ n,EV (f + g) x n=EV f x n + EV g x n
  | 0=>by simp only [EV]; grind
  | n + 1=>by simp only [EV]; rw [EV_add f g x n,add_c]; grind
theorem EV_bd {f:Ser (Fin q)} {x:Fin q} {n:Nat} (h:Bd f n):∀ m,n ≤ m→EV f x m=EV f x n
  | 0,hm=>by
    have:n=0:=by (clear h; (first|lia|omega))
    subst this; rfl
  | m + 1,hm=>by
    by_cases c:n=m + 1
    · subst c; rfl
    · rw [EV,EV_bd h m (by (clear h; (first|lia|omega))),h m (by (clear h; (first|lia|omega)))]; grind
theorem pow_s (x:Fin q) (n:Nat):x ^ (n + 1)=x ^ n * x:=Lean.Grind.Semiring.pow_succ x n
theorem EV_lin (f:Ser (Fin q)) (a x:Fin q):∀ n,EV ((mn (-a) 0 + mn 1 1) * f) x (n + 1)=(x - a) * EV f x n - a * f.c n * x ^ n
  | 0=>by
    have e:((mn (-a) 0 + mn 1 1) * f).c 0=- a * f.c 0:=by
      have:(mn (-a) 0 + mn 1 1) * f=mn (-a) 0 * f + mn 1 1 * f:=by grind
      rw [this,add_c,mn_mul,mn_mul]
      simp
    simp only [EV,e]
    have:x ^ 0=(1:Fin q):=Lean.Grind.Semiring.pow_zero x
    rw [this]; grind
  | n + 1=>by
    have e:((mn (-a) 0 + mn 1 1) * f).c (n + 1)=f.c n - a * f.c (n + 1):=by
      have:(mn (-a) 0 + mn 1 1) * f=mn (-a) 0 * f + mn 1 1 * f:=by grind
      rw [this,add_c,mn_mul,mn_mul]
      simp
      grind
    rw [EV,EV_lin f a x n,e]
    simp only [EV]
    rw [pow_s]; grind
theorem EV_prod {f:Ser (Fin q)} {a x:Fin q} {n:Nat} (h:Bd f n):EV ((mn (-a) 0 + mn 1 1) * f) x (n + 1)=(x - a) * EV f x n:=by
  rw [EV_lin,h n (Nat.le_refl _)]; grind
theorem EV_ser (l:List Int) (x:Int):∀ k,k ≤ l.length→EV (ser q l) (ic x) k + ic x ^ k * ic (hr x (l.drop k))=ic (hr x l)
  | 0,_=>by
    have:(ic x:Fin q) ^ 0=1:=Lean.Grind.Semiring.pow_zero _
    rw [this,List.drop_zero,EV]; grind
  | k + 1,hk=>by
    have ih:=EV_ser l x k (by (first|lia|omega))
    rw [List.drop_eq_getElem_cons (show k < l.length by (clear ih; (first|lia|omega))),hr,ic_add,ic_mul] at ih
    rw [EV,ser_c,getD_lt (show k < l.length by (clear ih; (first|lia|omega))),pow_s,← ih]; grind
theorem EV_is (l:List Int) (x:Int):EV (ser q l) (ic x) l.length=ic (hr x l):=by
  have:=EV_ser (q:=q) l x l.length (Nat.le_refl _)
  rw [List.drop_length,hr,ic_zero] at this
  rw [← this]; grind
theorem ser_lin (n:Int):ser q [-n % (q:Int),1]=mn (-(ic n)) 0 + mn 1 1:=Ser.ext fun k=>by
  rw [ser_c,add_c]
  simp only [mn]
  match k with
  | 0=>simp [co,ic_mod,ic_neg]
  | 1=>simp [co,ic_one]
  | k + 2=>simp [co,ic_zero]
theorem Sm.lin (hq:2 ≤ q) (n:Int):Sm q [-n % (q:Int),1]:=⟨fun x hx=>by
  simp at hx
  rcases hx with rfl | rfl
  · exact ⟨Int.emod_nonneg _ (by (first|lia|omega)),Int.emod_lt_of_pos _ (by (first|lia|omega))⟩
  · (first|lia|omega),by simp [Top]⟩
theorem root_iff {p:Int} (hp:Clock p) (hpq:p=q) {l r:List Int} {Q:Ser (Fin q)} (n:Int) (hr':Sm q r) (lr:r.length < 2) (pQ:Pl Q) (h:ser q l=Q * ser q [-n % (q:Int),1] + ser q r):(r=[])↔hr n l % q=0:=by
  have h25:=one_le_of hp hpq
  obtain ⟨m,bQ⟩:=pQ
  have key:(ic (hr n l):Fin q)=ic (hr n r):=by
    rw [← EV_is,← EV_is,← EV_bd (ser_bd l) (l.length + m + 3) (by (clear bQ h25 h lr hr' hpq hp; (first|lia|omega))),← EV_bd (ser_bd r) (l.length + m + 3) (by (clear bQ h25 h hr' hpq hp; (first|lia|omega))),h,EV_add]
    have e1:Q * ser q [-n % (q:Int),1]=(mn (-(ic n)) 0 + mn 1 1) * Q:=by rw [ser_lin]; grind
    rw [e1,show l.length + m + 3=(l.length + m + 2) + 1 from rfl,EV_prod (bQ.mono (by (clear e1 bQ h25 h lr hr' hpq hp; (first|lia|omega))))]
    grind
  constructor
  · rintro rfl
    rw [hr] at key
    have:=ic_eq.mp key
    simpa using this
  · intro e
    match r,hr',lr,key with
    | [],_,_,_=>rfl
    | [c],hr',_,key=>
      exfalso
      have e1:hr n [c]=c:=by simp [hr]
      rw [e1] at key
      have:=ic_eq.mp key
      rw [e] at this
      have hc:=hr'.1 c (by simp)
      rw [Int.emod_eq_of_lt hc.1 hc.2] at this
      exact hr'.2 (by simp [← this])
theorem L_value (l:List Int) (x:Int) (hx:0 ≤ x∧x ≤ 1000) (hq:0 < q) (hq5:q ≤ 5):∃ v,loopD (sName 4) R.b_value_1 (l.map D.int).reverse [some (Slot.val (tupZ l)),some (Slot.val (D.int x)),some (Slot.val (D.int q)),some (Slot.val (D.int 0)),none]=some (.next [some (Slot.val (tupZ l)),some (Slot.val (D.int x)),some (Slot.val (D.int q)),some (Slot.val (D.int (hr x l % q))),v]):=by
  have hq':(0:Int) < q:=by (clear hq5 hx; (first|lia|omega))
  obtain ⟨S',e,v,hS⟩:=loopD_inv0 (set:=sName 4) (g:=R.b_value_1) (fun k S=>∃ v,S=[some (Slot.val (tupZ l)),some (Slot.val (D.int x)),some (Slot.val (D.int q)),some (Slot.val (D.int (hr x (l.drop (l.length - k)) % q))),v]) (l:=(l.map D.int).reverse) (S:=[some (Slot.val (tupZ l)),some (Slot.val (D.int x)),some (Slot.val (D.int q)),some (Slot.val (D.int 0)),none])
    ⟨none,by simp [hr]⟩ (fun k d S hk ⟨v,hS⟩=>by
      subst hS
      have hkl:k < l.length:=by
        have:=(List.getElem?_eq_some_iff.mp hk).1
        simpa using this
      have hd:d=.int l[l.length - 1 - k]:=by
        rw [List.getElem?_reverse (by simpa using hkl)] at hk
        simp only [List.length_map,List.getElem?_map] at hk
        rw [List.getElem?_eq_getElem (by (clear hk hq' hq5 hq hx; (first|lia|omega)))] at hk
        simpa using hk.symm
      subst hd
      have e1:l.drop (l.length - (k + 1))=l[l.length - 1 - k] :: l.drop (l.length - k):=by
        have e2:l.length - (k + 1)=l.length - 1 - k:=by (clear hk hkl hq' hq5 hq hx; (first|lia|omega))
        rw [e2,List.drop_eq_getElem_cons (by (clear e2 hk hq' hq5 hq hx; (first|lia|omega)))]
        congr 2
        (clear e2 hk hq' hq5 hq hx; (first|lia|omega))
      obtain ⟨w,hw⟩:∃ w,w=hr x (l.drop (l.length - k)):=⟨_,rfl⟩
      have hw0:0 ≤ w % q∧w % q < q:=⟨Int.emod_nonneg _ (by (clear hw e1 hk hkl hq' hq5 hx; (first|lia|omega))),Int.emod_lt_of_pos _ hq'⟩
      refine ⟨[some (Slot.val (tupZ l)),some (Slot.val (D.int x)),some (Slot.val (D.int q)),some (Slot.val (D.int (w % q))),some (Slot.val (D.int (l[l.length - 1 - k])))],[some (Slot.val (tupZ l)),some (Slot.val (D.int x)),some (Slot.val (D.int q)),some (Slot.val (D.int (hr x (l.drop (l.length - (k + 1))) % q))),some (Slot.val (D.int (l[l.length - 1 - k])))],by simp [hw],?_,some (Slot.val (D.int (l[l.length - 1 - k]))),rfl⟩
      have ok:okMul (w % q) x=true:=okMul_l (by (clear hw e1 hk hkl hq' hq5 hq hx; (first|lia|omega))) (by (clear hw e1 hk hkl hq' hq hx; (first|lia|omega)))
      have e3:(w % q * x + l[l.length - 1 - k]) % q=hr x (l.drop (l.length - (k + 1))) % q:=by
        rw [e1,hr,← hw]
        have:w % q * x=(w - q * (w / q)) * x:=by rw [Int.emod_def]
        rw [this]
        have e4:(w - q * (w / q)) * x + l[l.length - 1 - k]=(l[l.length - 1 - k] + x * w) + q * (-(w / q * x)):=by grind
        rw [e4,Int.add_mul_emod_self_left]
      simp [R.b_value_1,ok,hq,e3])
  subst hS
  simp only [List.length_reverse,List.length_map,Nat.sub_self,List.drop_zero] at e
  exact ⟨v,e⟩
theorem E_value (l:List Int) (x:Int) (hx:0 ≤ x∧x ≤ 1000) (hq:0 < q) (hq5:q ≤ 5):R.m_value [tupZ l,.int x,.int q]=some (.ok (.int (hr x l % q))):=by
  obtain ⟨v,e⟩:=L_value l x hx hq hq5
  have rv:revOf (.ok (tupZ l))=some (l.map D.int).reverse:=rfl
  unfold R.m_value R.g_value
  simp [dRevI,rv,e]
noncomputable def rootsZ (q:Nat) (l:List Int):List Int:=((List.range q).filter fun (k:Nat)=>decide (hr (k:Int) l % (q:Int)=0)).map fun (k:Nat)=>(k:Int)
theorem E_roots (l:List Int) (hq:0 < q) (hq5:q ≤ 5):R.m_roots [tupZ l,.int q]=some (.ok (tupZ (rootsZ q l))):=by
  have h2:∀ k:Nat,k ∈ List.range q→dtB (dBin cEq (dCall 3 R.m_value (dCons (dVar 1) (dCons (dVar 0) (dCons (dVar 2) dNil)))) (dC (.int 0))) [some (Slot.val (D.int k)),some (Slot.val (tupZ l)),some (Slot.val (D.int q))]=some (.ok (decide (hr (k:Int) l % (q:Int)=0))):=fun k hk=>by
    have hk:=List.mem_range.mp hk
    have:=E_value (q:=q) l (k:Int) ⟨by (clear hq5 hq; (first|lia|omega)),by (clear hq; (first|lia|omega))⟩ hq hq5
    simp [this]
  have e2:=compD_filter (set:=sName 0) (t:=dtB (dBin cEq (dCall 3 R.m_value (dCons (dVar 1) (dCons (dVar 0) (dCons (dVar 2) dNil)))) (dC (.int 0)))) (fe:=dVar 0) (γ:=Nat) (fun (k:Nat)=>D.int (k:Int)) (fun (k:Nat)=>D.int (k:Int)) (fun k=>decide (hr (k:Int) l % (q:Int)=0)) (fun o=>[o,some (Slot.val (tupZ l)),some (Slot.val (D.int q))]) (List.range q) none
    (fun a o _=>rfl) h2 (fun k _=>rfl)
  have e3:rangeD 0 (q:Int)=(List.range q).map fun (k:Nat)=>D.int (k:Int):=by simp [rangeD]
  rw [← e3] at e2
  have e5:(rangeD 0 (q:Int)).length ≤ 100000:=by rw [rangeD_len]; (clear e3 e2 h2 hq; (first|lia|omega))
  have ok3:-1000000000 ≤ (q:Int)∧(q:Int) ≤ 1000000000:=by (clear e5 e3 e2 h2 hq; (first|lia|omega))
  have fin:uTup (.lst (((List.range q).filter fun (k:Nat)=>decide (hr (k:Int) l % (q:Int)=0)).map fun (k:Nat)=>D.int (k:Int)))=some (tupZ (rootsZ q l)):=by
    unfold rootsZ tupZ
    simp
  unfold R.m_roots R.g_roots
  simp [-uTup_lst,e5,ok3,e2,fin]
theorem roots_mem {l:List Int} {z:Int}:z ∈ rootsZ q l↔0 ≤ z∧z < q∧hr z l % q=0:=by
  unfold rootsZ
  simp only [List.mem_map,List.mem_filter,List.mem_range,decide_eq_true_eq]
  constructor
  · rintro ⟨k,⟨h1,h2⟩,rfl⟩
    exact ⟨by (clear h2 h1; (first|lia|omega)),by (clear h2; (first|lia|omega)),h2⟩
  · rintro ⟨h1,h2,h3⟩
    exact ⟨z.toNat,⟨by (clear h3; (first|lia|omega)),by rw [show ((z.toNat:Nat):Int)=z by (clear h3 h2; (first|lia|omega))]; exact h3⟩,by (clear h3 h2; (first|lia|omega))⟩
end
end PF
namespace K11
open PySem L2 PF PA
end K11
set_option Elab.async false
set_option linter.all false
set_option maxRecDepth 100000
set_option maxHeartbeats 4000000
namespace PF
open PySem L2 PA
section
variable {q:Nat} [NeZero q]
noncomputable def xp (n:Nat):List Int:=List.replicate n 0 ++ [1]
theorem ser_xp (n:Nat):ser q (xp n)=mn 1 n:=by
  unfold xp
  rw [ser_shift,ser_one]; grind
theorem Sm.xp (hq:2 ≤ q) (n:Nat):Sm q (PF.xp n):=Sm.snoc (fun x hx=>by
  obtain ⟨_,rfl⟩:=List.mem_replicate.mp hx
  (clear hx; (first|lia|omega))) (by (first|lia|omega))
theorem xp_len (n:Nat):(xp n).length=n + 1:=by simp [xp]
theorem E_lone (n:Nat) (i:Int) (hi:i=n) (hn:n ≤ 100):R.m_lone_power [.int i]=some (.ok (tupZ (xp n))):=by
  subst hi
  unfold R.m_lone_power R.g_lone_power
  have ok:okRep 1 (n:Int)=true:=okRep_small (n:=1) (by (clear hn; (first|lia|omega))) (by (first|lia|omega))
  have e:D.tup (List.replicate n (D.int 0) ++ [D.int 1])=tupZ (xp n):=by simp [tupZ,xp]
  simp [ok,rep0,e,show n + 1 ≤ 100000 by (clear e ok; (first|lia|omega))]
theorem okMul_sm (i z:Int) (h0:0 ≤ z) (h1:z ≤ 1000):okMul i z=true:=okMul_r (by (clear h1; (first|lia|omega))) (by (clear h0; (first|lia|omega)))
theorem S_slope (i c z:Int) (ok:okMul i c=true) (hz:0 < z):dBin (opC2 okMod fun i j=>i % j) (dBin opMul (dVar 0) (dVar 1)) (dVar 2) [some (Slot.val (D.int i)),some (Slot.val (D.int c)),some (Slot.val (D.int z))]=some (.ok (.ok (.int (i * c % z)))):=by simp [ok,hz]
theorem E_slope (hq:0 < q) (hq5:q ≤ 5) (f:List Int) (hf:Red q f) (lf:f.length ≤ 100):∃ s,Sm q s∧s.length ≤ f.length - 1∧ser q s=dv (ser q f)∧R.m_slope [tupZ f,.int q]=some (.ok (tupZ s)):=by
  have hq':(0:Int) < q:=by (clear lf hf hq5; (first|lia|omega))
  obtain ⟨N,hN⟩:∃ N:List Int,N=(List.range f.length).map fun (i:Nat)=>(i:Int) * co f i % (q:Int):=⟨_,rfl⟩
  have lN:N.length=f.length:=by rw [hN]; simp
  have rN:Red q N:=fun x hx=>by
    rw [hN] at hx
    obtain ⟨i,_,rfl⟩:=List.mem_map.mp hx
    exact ⟨Int.emod_nonneg _ (by (clear hx lN hN hq' lf hf hq5; (first|lia|omega))),Int.emod_lt_of_pos _ hq'⟩
  obtain ⟨s,s1,s2⟩:=E_trimmed (N.drop 1) (by simp; (clear rN hN hq' hf hq5 hq; (first|lia|omega)))
  have rd:Red q (N.drop 1):=fun x hx=>rN x (List.mem_of_mem_drop hx)
  refine ⟨s,s1.sm rd,by have:=s1.len; simp at this; (clear rd s2 s1 rN hN hq' lf hf hq5 hq; (first|lia|omega)),?_,?_⟩
  · rw [s1.ser]
    refine Ser.ext fun k=>?_
    rw [ser_c,dv_c,ser_c]
    have e:co (N.drop 1) k=co N (k + 1):=by simp [co,List.getD,Nat.add_comm]
    rw [e]
    by_cases c:k + 1 < f.length
    · have e2:co N (k + 1)=((k + 1:Nat):Int) * co f (k + 1) % (q:Int):=by
        rw [getD_lt (by (clear e rd s2 s1 rN hN hq' lf hf hq5 hq; (first|lia|omega)))]
        simp only [hN,List.getElem_map,List.getElem_range]
      rw [e2,ic_mod,ic_mul]
      have:((k + 1:Nat):Int)=(k:Int) + 1:=by (clear e2 c e rd s2 s1 rN lN hN hq' lf hf hq5 hq; (first|lia|omega))
      rw [this]
    · rw [getD_ge (l:=N) (by (clear e rd s2 s1 rN hN hq' lf hf hq5 hq; (first|lia|omega))),getD_ge (l:=f) (by (clear e rd s2 s1 rN lN hN hq' lf hf hq5 hq; (first|lia|omega))),ic_zero]; grind
  · unfold R.m_slope R.g_slope
    have okm:∀ (i:Nat),i < f.length→okMul (i:Int) (co f i)=true:=fun i hi=>okMul_sm _ _ (hf.getD hq' i).1 (by have:=(hf.getD hq' i).2; (clear hi rd s2 s1 rN lN hN hq' lf hf hq; (first|lia|omega)))
    have e1:=compD_map2 (set:=sTup 2 (sCons (sName 0) (sCons (sName 1) sNil))) (t:=fun _=>some (.ok true)) (fe:=dBin (opC2 okMod fun i j=>i % j) (dBin opMul (dVar 0) (dVar 1)) (dVar 2))
      (γ:=Nat) (fun (i:Nat)=>D.tup [.int i,.int (co f i)]) (fun (i:Nat)=>.int ((i:Int) * co f i % (q:Int))) (fun o o'=>[o,o',some (Slot.val (D.int q))]) (fun (i:Nat)=>(some (Slot.val (D.int ((i:Int)))),some (Slot.val (D.int (co f i))))) (List.range f.length) none none
      (fun i o o' _=>by simp) (fun i _=>rfl) (fun i hi=>S_slope i (co f i) q (okm i (List.mem_range.mp hi)) hq')
    have e3:enumD (f.map D.int)=(List.range f.length).map fun (i:Nat)=>D.tup [.int i,.int (co f i)]:=by
      unfold enumD
      rw [List.length_map]
      refine List.map_congr_left fun i hi=>?_
      have hi:=List.mem_range.mp hi
      rw [getD_lt hi]
      simp [hi]
    rw [← e3] at e1
    have e4:(List.range f.length).map (fun (i:Nat)=>D.int ((i:Int) * co f i % (q:Int)))=N.map D.int:=by rw [hN]; simp
    rw [e4] at e1
    rw [startN_2,seq_next (S':=[some (Slot.val (tupZ f)),some (Slot.val (D.int q)),some (Slot.val (D.lst (List.map D.int N)))]) (by
      simp [e1,enumZ_len,show f.length ≤ 100000 by (clear e4 e3 e1 okm rd s2 s1 rN lN hN hq' hf hq5 hq; (first|lia|omega))])]
    have e5:cutD (N.map D.int) (some 1) none=(N.map D.int).tail:=by
      unfold cutD
      cases N with
      | nil=>rfl
      | cons a N=>
        have h1:HT.sIx (List.map D.int (a :: N)).length 0 (some 1)=1:=by
          unfold HT.sIx
          simp
        have h2:HT.sIx (List.map D.int (a :: N)).length (List.map D.int (a :: N)).length none=(List.map D.int (a :: N)).length:=rfl
        rw [h1,h2,List.map_cons,List.drop_succ_cons,List.drop_zero,List.take_of_length_le (by simp)]
        rfl
    have e6:(N.map D.int).tail=(N.drop 1).map D.int:=by simp
    rw [← e6] at s2
    simp [e5,s2]
end
end PF
set_option Elab.async false
set_option linter.all false
set_option maxRecDepth 100000
set_option maxHeartbeats 4000000
namespace PF
open PySem L2 PA
@[simp] theorem dDPut_e {S:DS} {g f:DS→M VR} (i:Nat):dDPut i g f S=match S[i]? with
  | some (some (.owd ks l))=>liftE (f S) fun r=>match r with
    | .ok d=>liftE (g S) fun r2=>match keyD (toD r2) with
      | some k=>if ks.length < 100000 then some (.next (S.set i (some (.owd (putKs k ks) (putVs k d ks l))))) else none
      | none=>none
    | _=>none
  | _=>none:=rfl
@[simp] theorem keyD_int (i:Int):keyD (.int i)=some (.inl i):=rfl
@[simp] theorem opGet_dic (ks:List Key) (l:List D) (i:Int):opGet (.dic ks l) (.int i)=lookD (.inl i) ks l:=rfl
@[simp] theorem cDIn_dic (ks:List Key) (l:List D) (i:Int):cDIn (.int i) (.dic ks l)=some (.bl (lookD (.inl i) ks l).isSome):=rfl
noncomputable abbrev Kp:=List (Nat × List Int × List Int)
noncomputable def kpK (kl:Kp):List Key:=kl.map fun t=>.inl (t.1:Int)
noncomputable def kpV (kl:Kp):List D:=kl.map fun t=>.tup [tupZ t.2.1,tupZ t.2.2]
theorem look_kp (n:Nat):∀ kl:Kp,lookD (.inl (n:Int)) (kpK kl) (kpV kl)=(kl.find? fun t=>t.1 == n).map fun t=>.tup [tupZ t.2.1,tupZ t.2.2]
  | []=>rfl
  | t :: kl=>by
    rw [kpK,kpV,List.map_cons,List.map_cons,lookD]
    by_cases c:t.1=n
    · rw [if_pos (by rw [c]),List.find?_cons_of_pos (by simpa using c)]; rfl
    · rw [if_neg (by intro e; injection e with e; exact c (by (clear c; (first|lia|omega)))),List.find?_cons_of_neg (by simpa using c)]
      exact look_kp n kl
theorem has_kp (n:Nat) (kl:Kp) (h:n ∉ kl.map (·.1)):hasK (.inl (n:Int)) (kpK kl)=false:=by
  unfold hasK kpK
  rw [List.any_map,List.any_eq_false]
  intro t ht
  simp
  intro e
  exact h (List.mem_map.mpr ⟨t,ht,by (clear ht h; (first|lia|omega))⟩)
theorem put_kp (n:Nat) (a m:List Int) (kl:Kp) (h:n ∉ kl.map (·.1)):putKs (.inl (n:Int)) (kpK kl)=kpK (kl ++ [(n,a,m)])∧putVs (.inl (n:Int)) (.tup [tupZ a,tupZ m]) (kpK kl) (kpV kl)=kpV (kl ++ [(n,a,m)]):=by
  unfold putKs putVs
  rw [has_kp n kl h]
  simp [kpK,kpV]
section
variable {q:Nat} [NeZero q]
structure Ent (F:Ser (Fin q)) (n i:Nat) (t:Nat × List Int × List Int):Prop where
  sa:Sm q t.2.1
  la:t.2.1.length=t.1
  pos:1 ≤ t.1
  lt:t.1 < n
  one:co t.2.1 (t.1 - 1)=1
  sm:Sm q t.2.2
  bd:Bd (ser q t.2.2) i
  c0:(ser q t.2.2).c 0=0
  eq:Eqv F (ser q t.2.1) (ph (ser q t.2.2))
theorem Ent.ml {F:Ser (Fin q)} {n i:Nat} {t:Nat × List Int × List Int} (h:Ent F n i t):t.2.2.length ≤ i:=h.sm.len_le h.bd
noncomputable abbrev cS (row:D) (kl:Kp) (left making:List Int) (v5 v6:Option Slot):DS:=[some (Slot.val row),some (Slot.val (D.dic (kpK kl) (kpV kl))),some (Slot.val (D.int q)),some (Slot.val (tupZ left)),some (Slot.val (tupZ making)),v5,v6]
theorem L_cleared {p:Int} (hp:Clock p) (hpq:p=q) {F:Ser (Fin q)} {n i:Nat} (hn:n ≤ 50) (hi:i ≤ 50) (row:D) (kl:Kp) (ents:∀ t ∈ kl,Ent F n i t):∀ (k:Nat) (left making:List Int) (f:Nat) (v5 v6:Option Slot),left.length=k→k < f→k < n→Sm q left→Sm q making→making.length ≤ 60→Eqv F (ser q left) (ph (ser q making))→
    ∃ l' m' u v5' v6',whileD (R.c_cleared_1 R.m_minus R.m_scaled) (R.b_cleared_2 R.m_minus R.m_scaled) f (cS (q:=q) row kl left making v5 v6)=some (.next (cS (q:=q) row kl l' m' v5' v6'))∧Sm q l'∧l'.length < n∧Sm q m'∧m'.length ≤ 60∧Eqv F (ser q l') (ph (ser q m'))∧(l'=[]∨l'.length ∉ kl.map (·.1))∧ser q m'=ser q making - u∧Bd u i∧u.c 0=0:=by
  have h25:=one_le_of hp hpq
  intro k
  induction k using Nat.strongRecOn with
  | ind k ih=>
    intro left making f v5 v6 hk hf hkn sl sm lm e
    obtain ⟨f,rfl⟩:∃ f',f=f' + 1:=⟨f - 1,by (clear e lm sm sl hkn hk ih h25 ents hi hn hpq hp; (first|lia|omega))⟩
    by_cases c:left=[]
    · refine ⟨left,making,0,v5,v6,while_f ?_,sl,by (clear c hf e lm sm sl ih h25 ents hi hn hpq hp; (first|lia|omega)),sm,lm,e,.inl c,by grind,Bd.zero _,zero_c 0⟩
      subst c
      unfold R.c_cleared_1
      simp
    · have l0:=List.length_pos_iff.mpr c
      have l0':(0:Int) < (left.length:Int):=by (clear c hf e lm sm sl hkn hk ih h25 ents hi hn hpq hp; (first|lia|omega))
      have lk:=look_kp left.length kl
      cases z:kl.find? (fun t=>t.1 == left.length) with
      | none=>
        rw [z] at lk
        refine ⟨left,making,0,v5,v6,while_f ?_,sl,by (clear z lk l0' l0 c hf e lm sm sl ih h25 ents hi hn hpq hp; (first|lia|omega)),sm,lm,e,.inr ?_,by grind,Bd.zero _,zero_c 0⟩
        · unfold R.c_cleared_1
          simp [l0,lk]
        · intro hm
          obtain ⟨t,ht,et⟩:=List.mem_map.mp hm
          have:=List.find?_eq_none.mp z t ht
          simp [et] at this
      | some t=>
        refine Classical.byContradiction fun hN=>?_
        rw [z] at lk
        have ht:=List.mem_of_find?_eq_some z
        have et:t.1=left.length:=by simpa using List.find?_some z
        have en:=ents t ht
        obtain ⟨n0,a,m⟩:=t
        simp only at et
        subst et
        obtain ⟨o,ho⟩:∃ o,o=co left (left.length - 1):=⟨_,rfl⟩
        have ho2:=sl.1.getD (show (0:Int) < q by (clear ho en ht z lk hN l0' l0 c hf e lm sm sl hkn hk ih ents hi hn hpq hp; (first|lia|omega))) (left.length - 1)
        rw [← ho] at ho2
        have la:a.length=left.length:=en.la
        have ml:=en.ml
        simp only at ml
        obtain ⟨r1,a1,a2,a3,a4⟩:=E_scaled (q:=q) (by (clear ml la ho2 ho en ht z lk hN l0' l0 c hf e lm sm sl hkn hk ih ents hi hn hpq hp; (first|lia|omega))) a o (by (clear ml ho2 ho en ht z lk hN l0' l0 c hf e lm sm sl ih h25 ents hi hpq hp; (first|lia|omega))) (by (clear ml la ho en ht z lk hN l0' l0 c hf e lm sm sl hkn hk ih h25 ents hi hn hpq hp; (first|lia|omega))) (by (clear ml la ho en ht z lk hN l0' l0 c hf e lm sm sl hkn hk ih ents hi hn hpq hp; (first|lia|omega)))
        obtain ⟨r2,b1,b2,b3,b4⟩:=E_scaled (q:=q) (by (clear a4 a3 a2 a1 ml la ho2 ho en ht z lk hN l0' l0 c hf e lm sm sl hkn hk ih ents hi hn hpq hp; (first|lia|omega))) m o (by (clear a4 a3 a2 a1 la ho2 ho en ht z lk hN l0' l0 c hf e lm sm sl hkn hk ih h25 ents hn hpq hp; (first|lia|omega))) (by (clear a4 a3 a2 a1 ml la ho en ht z lk hN l0' l0 c hf e lm sm sl hkn hk ih h25 ents hi hn hpq hp; (first|lia|omega))) (by (clear a4 a3 a2 a1 ml la ho en ht z lk hN l0' l0 c hf e lm sm sl hkn hk ih ents hi hn hpq hp; (first|lia|omega)))
        obtain ⟨l1,c1,c2,c3,c4⟩:=E_minus (q:=q) (by (clear b4 b3 b2 b1 a4 a3 a2 a1 ml la ho2 ho en ht z lk hN l0' l0 c hf e lm sm sl hkn hk ih ents hi hn hpq hp; (first|lia|omega))) h25.2 left r1 sl.1 (by (clear b4 b3 b2 b1 a4 a3 a2 a1 ml la ho2 ho en ht z lk hN l0' l0 c hf e lm sm sl ih h25 ents hi hpq hp; (first|lia|omega))) (by (clear b4 b3 b2 b1 a4 a3 a1 ml ho2 ho en ht z lk hN l0' l0 c hf e lm sm sl ih h25 ents hi hpq hp; (first|lia|omega)))
        obtain ⟨m1,d1,d2,d3,d4⟩:=E_minus (q:=q) (by (clear c4 c3 c2 c1 b4 b3 b2 b1 a4 a3 a2 a1 ml la ho2 ho en ht z lk hN l0' l0 c hf e lm sm sl hkn hk ih ents hi hn hpq hp; (first|lia|omega))) h25.2 making r2 sm.1 (by (clear c4 c3 c2 c1 b4 b3 b2 b1 a4 a3 a2 a1 ml la ho2 ho en ht z lk hN l0' l0 c hf e sm sl hkn hk ih h25 ents hi hn hpq hp; (first|lia|omega))) (by (clear c4 c3 c2 c1 b4 b3 b1 a4 a3 a2 a1 la ho2 ho en ht z lk hN l0' l0 c hf e lm sm sl hkn hk ih h25 ents hn hpq hp; (first|lia|omega)))
        have hl1:l1.length < left.length:=by
          have:l1.length ≤ left.length - 1:=c1.len_le fun j hj=>by
            rw [c3,sub_c,a3,mn_mul,if_pos (by (clear hj d4 d3 d2 d1 c4 c3 c2 c1 b4 b3 b2 b1 a4 a3 a2 a1 ml la ho2 ho en ht z lk hN l0' l0 c hf e lm sm sl hkn hk ih h25 ents hi hn hpq hp; (first|lia|omega))),Nat.sub_zero,ser_c,ser_c]
            by_cases cj:j=left.length - 1
            · subst cj
              have h1:co a (left.length - 1)=1:=en.one
              rw [h1,← ho,ic_one]; grind
            · rw [getD_ge (l:=left) (by (clear d4 d3 d2 d1 c4 c3 c2 c1 b4 b3 b2 b1 a4 a3 a2 a1 ml la ho2 ho en ht z lk hN l0' l0 c hf e lm sm sl hkn hk ih h25 ents hi hn hpq hp; (first|lia|omega))),getD_ge (l:=a) (by (clear d4 d3 d2 d1 c4 c3 c2 c1 b4 b3 b2 b1 a4 a3 a2 a1 ml ho2 ho en ht z lk hN l0' l0 c hf e lm sm sl hkn hk ih h25 ents hi hn hpq hp; (first|lia|omega))),ic_zero]; grind
          (clear d4 d3 d2 d1 c4 c3 c2 c1 b4 b3 b2 b1 a4 a3 a2 a1 ml la ho2 ho en ht z lk hN l0' c hf e lm sm sl hkn hk ih h25 ents hi hn hpq hp; (first|lia|omega))
        have e1:Eqv F (ser q l1) (ph (ser q m1)):=by
          rw [c3,d3,a3,b3]
          have hs:ph (ser q making - mn (ic o) 0 * ser q m)=ph (ser q making) - mn (ic o) 0 * ph (ser q m):=by
            have e2:ser q making - mn (ic o) 0 * ser q m=ser q making + mn (-(ic o)) 0 * ser q m:=by
              have:(mn (-(ic o)) 0:Ser (Fin q))=- mn (ic o) 0:=Cn_neg _
              rw [this]; grind
            rw [e2,ph_add hp hpq,ph_scale hp hpq]
            have:(mn (-(ic o)) 0:Ser (Fin q))=- mn (ic o) 0:=Cn_neg _
            rw [this]; grind
          rw [hs]
          refine e.sub ?_
          obtain ⟨w,pw,ew⟩:=en.eq
          simp only at ew
          exact ⟨mn (ic o) 0 * w,(Pl.mn _ _).mul pw,by
            have:mn (ic o) 0 * ser q a - mn (ic o) 0 * ph (ser q m)=mn (ic o) 0 * (ser q a - ph (ser q m)):=by grind
            rw [this,ew]; grind⟩
        obtain ⟨l',m',u,w5,w6,i1,i2,i3,i4,i5,i6,i7,i8,i9,i10⟩:=ih l1.length (by (clear e1 d4 d3 d2 d1 c4 c3 c2 c1 b4 b3 b2 b1 a4 a3 a2 a1 ml la ho2 ho en ht z lk hN l0' l0 c hf e lm sm sl hkn ih h25 ents hi hn hpq hp; (first|lia|omega))) l1 m1 f (some (.val (.tup [tupZ a,tupZ m]))) (some (.val (.int o))) rfl (by (clear e1 d4 d3 d2 d1 c4 c3 c2 c1 b4 b3 b2 b1 a4 a3 a2 a1 ml la ho2 ho en ht z lk hN l0' l0 c e lm sm sl hkn ih h25 ents hi hn hpq hp; (first|lia|omega))) (by (clear e1 hl1 d4 d3 d2 d1 c4 c3 c1 b4 b3 b2 b1 a4 a3 a1 ml ho2 ho en ht z lk hN l0' l0 c hf e lm sm sl ih h25 ents hi hn hpq hp; (first|lia|omega))) c1 d1 (by (clear e1 hl1 d4 d3 d1 c4 c3 c2 c1 b4 b3 b1 a4 a3 a2 a1 la ho2 ho en ht z lk hN l0' l0 c hf e sm sl hkn hk ih h25 ents hn hpq hp; (first|lia|omega))) e1
        refine hN ⟨l',m',u + mn (ic o) 0 * ser q m,w5,w6,?_,i2,i3,i4,i5,i6,i7,?_,?_,?_⟩
        · have at1:=atI_intsL c
          rw [← ho] at at1
          rw [while_t (S2:=cS (q:=q) row kl l1 m1 (some (.val (.tup [tupZ a,tupZ m]))) (some (.val (.int o)))) (by
            unfold R.c_cleared_1
            simp [l0,lk]) (by
            unfold R.b_cleared_2
            simp [lk,at1,a4,b4,c4,d4]),i1]
        · rw [i8,d3,b3]; grind
        · exact i9.add fun j hj=>by rw [mn_mul,if_pos (by (clear hj i10 i9 i8 i7 i6 i5 i4 i3 i2 i1 e1 hl1 d4 d3 d2 d1 c4 c3 c2 c1 b4 b3 b2 b1 a4 a3 a2 a1 ml la ho2 ho en ht z lk hN l0' l0 c hf e lm sm sl hkn hk ih h25 ents hi hn hpq hp; (first|lia|omega))),Nat.sub_zero,en.bd j hj]; grind
        · have h0:(ser q m).c 0=0:=en.c0
          rw [add_c,i10,mn_mul,if_pos (by (clear h0 i10 i9 i8 i7 i6 i5 i4 i3 i2 i1 e1 hl1 d4 d3 d2 d1 c4 c3 c2 c1 b4 b3 b2 b1 a4 a3 a2 a1 ml la ho2 ho en ht z lk hN l0' l0 c hf e lm sm sl hkn hk ih h25 ents hi hn hpq hp; (first|lia|omega))),Nat.sub_zero,h0]; grind
end
end PF
set_option Elab.async false
set_option linter.all false
set_option maxRecDepth 100000
set_option maxHeartbeats 4000000
namespace PF
open PySem L2 PA
theorem loopD_or {set:D→DS→Option DS} {g:DS→Option Fl} (P:Nat→DS→Prop) (Rt:D→Prop):∀ (l:List D) (i:Nat) (S:DS),P i S→(∀ k d S,l[k]?=some d→P (i + k) S→∃ S1,set d S=some S1∧((∃ S2,g S1=some (.next S2)∧P (i + k + 1) S2)∨∃ r,g S1=some (.ret r)∧Rt r))→
    (∃ S',loopD set g l S=some (.next S')∧P (i + l.length) S')∨∃ r,loopD set g l S=some (.ret r)∧Rt r
  | [],i,S,h0,_=>.inl ⟨S,rfl,h0⟩
  | d :: l,i,S,h0,hs=>by
    obtain ⟨S1,e1,h⟩:=hs 0 d S rfl h0
    rcases h with ⟨S2,e2,p⟩ | ⟨r,e2,p⟩
    · rw [loopD_cons e1 e2]
      have z:i + (d :: l).length=i + 1 + l.length:=by simp; (clear p e2 e1 hs h0; (first|lia|omega))
      rw [z]
      refine loopD_or P Rt l (i + 1) S2 p fun k d S h hp=>?_
      have z:i + 1 + k=i + (k + 1):=by (clear hp h z p e2 e1 hs h0; (first|lia|omega))
      obtain ⟨S1,e1,h⟩:=hs (k + 1) d S (by simpa using h) (z ▸ hp)
      exact ⟨S1,e1,by rw [z]; exact h⟩
    · right
      refine ⟨r,?_,p⟩
      rw [loopD,e1]
      simp only
      rw [e2]
section
variable {q:Nat} [NeZero q]
theorem mn_pow (i:Nat):∀ k:Nat,(mn 1 i:Ser (Fin q)) ^ k=mn 1 (i * k)
  | 0=>by rw [pzero]; rfl
  | k + 1=>by
    rw [psucc,mn_pow i k,mn_mn,Nat.mul_succ]
    congr 1
    grind
theorem E_cleared {p:Int} (hp:Clock p) (hpq:p=q) {F:Ser (Fin q)} {n i:Nat} (hn:n ≤ 50) (hi:i ≤ 50) (kl:Kp) (ents:∀ t ∈ kl,Ent F n i t) (left making:List Int) (hl:left.length < n) (sl:Sm q left) (sm:Sm q making) (lm:making.length ≤ 60) (e:Eqv F (ser q left) (ph (ser q making))) :
    ∃ l' m' u,R.m_cleared [.tup [tupZ left,tupZ making],.dic (kpK kl) (kpV kl),.int q]=some (.ok (.tup [tupZ l',tupZ m']))∧Sm q l'∧l'.length < n∧Sm q m'∧m'.length ≤ 60∧Eqv F (ser q l') (ph (ser q m'))∧(l'=[]∨l'.length ∉ kl.map (·.1))∧ser q m'=ser q making - u∧Bd u i∧u.c 0=0:=by
  obtain ⟨l',m',u,w5,w6,i1,i2⟩:=L_cleared hp hpq hn hi (.tup [tupZ left,tupZ making]) kl ents left.length left making 200 none none rfl (by (clear e lm sm sl ents hi hpq hp; (first|lia|omega))) hl sl sm lm e
  refine ⟨l',m',u,?_,i2⟩
  unfold R.m_cleared R.g_cleared
  rw [startN_3,seq_next (S':=[some (Slot.val (D.tup [tupZ left,tupZ making])),some (Slot.val (D.dic (kpK kl) (kpV kl))),some (Slot.val (D.int q)),some (Slot.val (tupZ left)),none,none,none]) (by simp)]
  rw [seq_next (S':=cS (q:=q) (D.tup [tupZ left,tupZ making]) kl left making none none) (by simp)]
  rw [seq_next i1]
  simp
structure Steady (F:Ser (Fin q)) (n:Nat) (m:List Int):Prop where
  sm:Sm q m
  lo:2 ≤ m.length
  hi:m.length < n
  eq:Eqv F 0 (ph (ser q m))
theorem S_row (f s r l0 l' m':List Int) (a z:Int) (K:Option Slot) {ks:List Key} {vs:List D} (hK:K=some (Slot.owd ks vs)) (v4 v5 v6 v7:Option Slot) {X:List Int} {R':DS→Option Fl} (x1:R.m_lone_power [.int a]=some (.ok (tupZ s))) (ok:okMul a z=true) (x2:R.m_lone_power [.int (a * z)]=some (.ok (tupZ X)))
    (r4:R.m_rest_by [tupZ X,tupZ f,.int z]=some (.ok (tupZ r))) (c4:R.m_minus [tupZ r,tupZ s,.int z]=some (.ok (tupZ l0))) (g1:R.m_cleared [.tup [tupZ l0,tupZ s],.dic ks vs,.int z]=some (.ok (.tup [tupZ l',tupZ m']))) :
    (dSeq (dSet 4 (dCall 1 R.m_lone_power (dCons (dVar 3) dNil)))
    (dSeq (dSet 5 (dCall 3 R.m_rest_by (dCons (dCall 1 R.m_lone_power (dCons (dBin opMul (dVar 3) (dVar 1)) dNil)) (dCons (dVar 0) (dCons (dVar 1) dNil)))))
    (dSeq (dSet 6 (dCall 3 R.m_cleared (dCons (dTup (dCons (dCall 3 R.m_minus (dCons (dVar 5) (dCons (dVar 4) (dCons (dVar 1) dNil)))) (dCons (dVar 4) dNil))) (dCons (dVar 2) (dCons (dVar 1) dNil)))))
    R'))) [some (Slot.val (tupZ f)),some (Slot.val (D.int z)),K,some (Slot.val (D.int a)),v4,v5,v6,v7]=R' [some (Slot.val (tupZ f)),some (Slot.val (D.int z)),K,some (Slot.val (D.int a)),some (Slot.val (tupZ s)),some (Slot.val (tupZ r)),some (Slot.val (.tup [tupZ l',tupZ m'])),v7]:=by
  subst hK
  rw [seq_next (S':=[some (Slot.val (tupZ f)),some (Slot.val (D.int z)),some (Slot.owd ks vs),some (Slot.val (D.int a)),some (Slot.val (tupZ s)),v5,v6,v7]) (by simp [x1])]
  rw [seq_next (S':=[some (Slot.val (tupZ f)),some (Slot.val (D.int z)),some (Slot.owd ks vs),some (Slot.val (D.int a)),some (Slot.val (tupZ s)),some (Slot.val (tupZ r)),v6,v7]) (by simp [ok,x2,r4])]
  rw [seq_next (S':=[some (Slot.val (tupZ f)),some (Slot.val (D.int z)),some (Slot.owd ks vs),some (Slot.val (D.int a)),some (Slot.val (tupZ s)),some (Slot.val (tupZ r)),some (Slot.val (.tup [tupZ l',tupZ m'])),v7]) (by simp [c4,g1,noList_Z])]
theorem E_steady {p:Int} (hp:Clock p) (hpq:p=q) (f:List Int) (sf:Sm q f) (l3:3 ≤ f.length) (lf:f.length ≤ 15) :
    (R.m_steady_sum [tupZ f,.int q]=some (.ok .non)∧∃ keys,PP (ser q f) f.length keys (f.length - 1))∨∃ m,R.m_steady_sum [tupZ f,.int q]=some (.ok (tupZ m))∧Steady (ser q f) f.length m:=by
  have h25:=one_le_of hp hpq
  have nf:f ≠ []:=by rintro rfl; simp at l3
  obtain ⟨n,hn⟩:∃ n,n=f.length:=⟨_,rfl⟩
  have main:=loopD_or (set:=sName 3) (g:=R.b_steady_sum_1 R.m_lone_power R.m_rest_by R.m_cleared R.m_minus R.m_turned_number R.m_scaled)
    (fun k S=>∃ (kl:Kp) (v3 v4 v5 v6 v7:Option Slot),S=[some (Slot.val (tupZ f)),some (Slot.val (D.int q)),some (Slot.owd (kpK kl) (kpV kl)),v3,v4,v5,v6,v7]∧(∀ t ∈ kl,Ent (ser q f) n (k + 1) t)∧kl.length ≤ k∧PP (ser q f) n (kl.map (·.1)) (k + 1))
    (fun r=>∃ m,r=tupZ m∧Steady (ser q f) n m) (rangeD 1 ((f.length:Int) - 1)) 0 [some (Slot.val (tupZ f)),some (Slot.val (D.int q)),some (Slot.owd [] []),none,none,none,none,none]
    ⟨[],none,none,none,none,none,rfl,fun t ht=>by simp at ht,by simp,PP.start _ _⟩ (fun k d S hk ⟨kl,v3,v4,v5,v6,v7,hS,ents,lkl,pp⟩=>by
      obtain ⟨rfl,hk2⟩:=rangeD_get hk
      subst hS
      rw [Nat.zero_add] at ents lkl pp
      obtain ⟨i,hi⟩:∃ i:Nat,i=k + 1:=⟨_,rfl⟩
      rw [← hi] at ents pp
      have ei:(1:Int) + (k:Int)=(i:Int):=by (clear ents pp hk hk2 lkl hn nf h25 lf l3 sf hpq hp; (first|lia|omega))
      rw [ei]
      refine ⟨[some (Slot.val (tupZ f)),some (Slot.val (D.int q)),some (Slot.owd (kpK kl) (kpV kl)),some (Slot.val (D.int i)),v4,v5,v6,v7],rfl,Classical.byContradiction fun hN=>?_⟩
      have hin:i + 1 < n:=by (clear hN ei ents pp hk lkl nf h25 lf l3 sf hpq hp; (first|lia|omega))
      have i1:1 ≤ i:=by (clear hin hN ei ents pp hk hk2 lkl hn nf h25 lf l3 sf hpq hp; (first|lia|omega))
      have x1:=E_lone i i rfl (by (clear i1 hin hN ei ents pp hk lkl hn nf h25 l3 sf hpq hp; (first|lia|omega)))
      have iq:i * q ≤ 75:=Nat.le_trans (Nat.mul_le_mul (show i ≤ 15 by (clear x1 i1 hin hN ei ents pp hk lkl hn nf h25 l3 sf hpq hp; (first|lia|omega))) h25.2) (by decide)
      have x2:=E_lone (i * q) ((i:Int) * q) (by simp) (by (clear x1 i1 hin hN ei hi ents pp hk hk2 lkl hn nf h25 lf l3 sf hpq hp; (first|lia|omega)))
      obtain ⟨r,r1,r2,r3,r4⟩:=E_rest_by hp hpq (xp (i * q)) f (Sm.xp h25.1 _).1 sf nf (by rw [xp_len]; (clear x2 x1 i1 hin hN ei hi ents pp hk hk2 lkl hn nf h25 lf l3 sf hpq hp; (first|lia|omega))) (by (clear x2 iq x1 i1 hin hN ei hi ents pp hk hk2 lkl hn nf h25 l3 sf hpq hp; (first|lia|omega)))
      obtain ⟨l0,c1,c2,c3,c4⟩:=E_minus (q:=q) (by (clear r4 r3 r2 r1 x2 iq x1 i1 hin hN ei hi ents pp hk hk2 lkl hn nf lf l3 sf hpq hp; (first|lia|omega))) h25.2 r (xp i) r1.1 (by (clear r4 r3 r1 x2 iq x1 i1 hin hN ei hi ents pp hk hk2 lkl hn nf h25 l3 sf hpq hp; (first|lia|omega))) (by rw [xp_len]; (clear r4 r3 r2 r1 x2 iq x1 i1 hin hN ei ents pp hk lkl hn nf h25 l3 sf hpq hp; (first|lia|omega)))
      have e0:Eqv (ser q f) (ser q l0) (ph (ser q (xp i))):=by
        rw [c3,ser_xp]
        unfold ph
        rw [mn_pow]
        rw [ser_xp] at r3
        exact r3.symm.sub Eqv.refl
      obtain ⟨l',m',u,g1,g2,g3,g4,g5,g6,g7,g8,g9,g10⟩:=E_cleared hp hpq (n:=n) (i:=i) (by (clear e0 c4 c3 c2 c1 r4 r3 r2 r1 x2 iq x1 i1 hin hN ei hi ents pp hk hk2 lkl nf h25 l3 sf hpq hp; (first|lia|omega))) (by (clear e0 c4 c3 c2 c1 r4 r3 r2 r1 x2 iq x1 i1 hin hN ei ents pp hk lkl hn nf h25 l3 sf hpq hp; (first|lia|omega))) kl ents l0 (xp i) (by rw [xp_len] at c2; (clear e0 c4 c3 c1 r4 r3 r1 x2 iq x1 i1 hin hN ei ents pp hk lkl nf h25 lf l3 sf hpq hp; (first|lia|omega))) c1 (Sm.xp h25.1 i) (by rw [xp_len]; (clear e0 c4 c3 c2 c1 r4 r3 r2 r1 x2 iq x1 i1 hin hN ei ents pp hk lkl hn nf h25 l3 sf hpq hp; (first|lia|omega))) e0
      rw [ser_xp] at g8
      have bm:Bd (ser q m') (i + 1):=by rw [g8]; exact (Bd.mn 1 i).sub (g9.mono (by (clear g10 g9 g8 g7 g6 g5 g4 g3 g2 g1 e0 c4 c3 c2 c1 r4 r3 r2 r1 x2 iq x1 i1 hin hN ei hi ents pp hk hk2 lkl hn nf h25 lf l3 sf hpq hp; (first|lia|omega))))
      have ok:okMul (i:Int) (q:Int)=true:=okMul_sm _ _ (by (clear bm g10 g9 g8 g7 g6 g5 g4 g3 g2 g1 e0 c4 c3 c2 c1 r4 r3 r2 r1 x2 iq x1 i1 hin hN ei hi ents pp hk hk2 lkl hn nf h25 lf l3 sf hpq hp; (first|lia|omega))) (by (clear bm g10 g9 g8 g7 g6 g5 g4 g3 g2 g1 e0 c4 c3 c2 c1 r4 r3 r2 r1 x2 iq x1 i1 hin hN ei hi ents pp hk hk2 lkl hn nf lf l3 sf hpq hp; (first|lia|omega)))
      have sR:=fun R'=>S_row (R':=R') f (xp i) r l0 l' m' i q (some (Slot.owd (kpK kl) (kpV kl))) (by rfl) v4 v5 v6 v7 x1 ok x2 r4 c4 g1
      have ci:(ser q m').c i=1:=by
        rw [g8,sub_c,g9 i (Nat.le_refl _)]
        simp only [mn,if_pos]
        grind
      have ne10:(1:Fin q) ≠ 0:=fun z=>by
        have:(ic 1:Fin q)=ic 0:=by rw [ic_one,ic_zero]; exact z
        have:=ic_red (q:=q) (a:=1) (b:=0) (by (clear this z ci sR ok bm g10 g9 g8 g7 g6 g5 g4 g3 g2 g1 e0 c4 c3 c2 c1 r4 r3 r2 r1 x2 iq x1 i1 hin hN ei hi ents pp hk hk2 lkl hn nf lf l3 sf hpq hp; (first|lia|omega))) (by (clear this z ci sR ok bm g10 g9 g8 g7 g6 g5 g4 g3 g2 g1 e0 c4 c3 c2 c1 r4 r3 r2 r1 x2 iq x1 i1 hin hN ei hi ents pp hk hk2 lkl hn nf lf l3 sf hpq hp; (first|lia|omega))) this
        (clear z ci sR ok bm g10 g9 g8 g7 g6 g5 g4 g3 g2 g1 e0 c4 c3 c2 c1 r4 r3 r2 r1 x2 iq x1 i1 hin hN ei hi ents pp hk hk2 lkl hn nf h25 lf l3 sf hpq hp; (first|lia|omega))
      have lm':i + 1 ≤ m'.length:=by
        rcases Nat.lt_or_ge i m'.length with z | z
        · (clear ne10 ci sR ok bm g10 g9 g8 g7 g6 g5 g4 g3 g2 g1 e0 c4 c3 c2 c1 r4 r3 r2 r1 x2 iq x1 i1 hin hN ei hi ents pp hk hk2 lkl hn nf h25 lf l3 sf hpq hp; (first|lia|omega))
        · exfalso
          rw [ser_bd m' i z] at ci
          exact ne10 ci.symm
      have lm2:m'.length ≤ i + 1:=g4.len_le bm
      by_cases cl:l'=[]
      · refine hN (.inr ?_)
        unfold R.b_steady_sum_1
        rw [sR]
        subst cl
        refine ⟨tupZ m',by simp,m',rfl,g4,by (clear sR g7 g6 g3 g2 g1 lm2 ne10 ci ok bm g10 g9 g8 g5 g4 e0 c4 c3 c2 c1 r4 r3 r2 r1 x2 iq x1 i1 hin hN ei ents pp hk hk2 lkl hn nf h25 lf l3 sf hpq hp; (first|lia|omega)),by (clear sR g7 g6 g3 g2 g1 lm' ne10 ci ok bm g10 g9 g8 g5 g4 e0 c4 c3 c2 c1 r4 r3 r2 r1 x2 iq x1 i1 hin hN ei ents pp hk lkl nf h25 lf l3 sf hpq hp; (first|lia|omega)),?_⟩
        rw [ser_nil] at g6
        exact g6
      · have cl0:=List.length_pos_iff.mpr cl
        obtain ⟨c,hc⟩:∃ c,c=co l' (l'.length - 1):=⟨_,rfl⟩
        have hc1:=g2.1.getD (show (0:Int) < q by (clear hc cl0 cl lm2 lm' ne10 ci sR ok bm g10 g9 g8 g7 g6 g5 g4 g3 g2 g1 e0 c4 c3 c2 c1 r4 r3 r2 r1 x2 iq x1 i1 hin hN ei hi ents pp hk hk2 lkl hn nf lf l3 sf hpq hp; (first|lia|omega))) (l'.length - 1)
        have hc2:=g2.2.last cl
        rw [← hc] at hc1 hc2
        obtain ⟨t,t1,t2,t3,t4⟩:=E_turned hp (a:=c) (by (clear hc cl0 cl lm2 lm' ne10 ci sR ok bm g10 g9 g8 g7 g6 g5 g4 g3 g2 g1 e0 c4 c3 c2 c1 r4 r3 r2 r1 x2 iq x1 i1 hin hN ei hi ents pp hk hk2 lkl hn nf h25 lf l3 sf hpq hp; (first|lia|omega))) (by (clear hc2 hc cl0 cl lm2 lm' ne10 ci sR ok bm g10 g9 g8 g7 g6 g5 g4 g3 g2 g1 e0 c4 c3 c2 c1 r4 r3 r2 r1 x2 iq x1 i1 hin hN ei hi ents pp hk hk2 lkl hn nf h25 lf l3 sf hp; (first|lia|omega)))
        rw [hpq] at t2 t3 t4
        obtain ⟨a,a1,a2,a3,a4⟩:=E_scaled (q:=q) (by (clear t4 t3 t2 t1 hc2 hc1 hc cl0 cl lm2 lm' ne10 ci sR ok bm g10 g9 g8 g7 g6 g5 g4 g3 g2 g1 e0 c4 c3 c2 c1 r4 r3 r2 r1 x2 iq x1 i1 hin hN ei hi ents pp hk hk2 lkl hn nf lf l3 sf hpq hp; (first|lia|omega))) l' t (by (clear t4 t3 t2 t1 hc2 hc1 hc cl0 cl lm2 lm' ne10 ci sR ok bm g10 g9 g8 g7 g6 g5 g4 g2 g1 e0 c4 c3 c2 c1 r4 r3 r2 r1 x2 iq x1 i1 hin hN ei hi ents pp hk hk2 lkl nf h25 l3 sf hpq hp; (first|lia|omega))) (by (clear t4 t3 t2 hc2 hc1 hc cl0 cl lm2 lm' ne10 ci sR ok bm g10 g9 g8 g7 g6 g5 g4 g3 g2 g1 e0 c4 c3 c2 c1 r4 r3 r2 r1 x2 iq x1 i1 hin hN ei hi ents pp hk hk2 lkl hn nf h25 lf l3 sf hpq hp; (first|lia|omega))) (by (clear t4 t3 t1 hc2 hc1 hc cl0 cl lm2 lm' ne10 ci sR ok bm g10 g9 g8 g7 g6 g5 g4 g3 g2 g1 e0 c4 c3 c2 c1 r4 r3 r2 r1 x2 iq x1 i1 hin hN ei hi ents pp hk hk2 lkl hn nf lf l3 sf hpq hp; (first|lia|omega)))
        obtain ⟨m2,b1,b2,b3,b4⟩:=E_scaled (q:=q) (by (clear a4 a3 a2 a1 t4 t3 t2 t1 hc2 hc1 hc cl0 cl lm2 lm' ne10 ci sR ok bm g10 g9 g8 g7 g6 g5 g4 g3 g2 g1 e0 c4 c3 c2 c1 r4 r3 r2 r1 x2 iq x1 i1 hin hN ei hi ents pp hk hk2 lkl hn nf lf l3 sf hpq hp; (first|lia|omega))) m' t (by (clear a4 a3 a2 a1 t4 t3 t2 t1 hc2 hc1 hc cl0 cl lm2 lm' ne10 ci sR ok bm g10 g9 g8 g7 g6 g4 g3 g2 g1 e0 c4 c3 c2 c1 r4 r3 r2 r1 x2 iq x1 i1 hin hN ei hi ents pp hk hk2 lkl hn nf h25 lf l3 sf hpq hp; (first|lia|omega))) (by (clear a4 a3 a2 a1 t4 t3 t2 hc2 hc1 hc cl0 cl lm2 lm' ne10 ci sR ok bm g10 g9 g8 g7 g6 g5 g4 g3 g2 g1 e0 c4 c3 c2 c1 r4 r3 r2 r1 x2 iq x1 i1 hin hN ei hi ents pp hk hk2 lkl hn nf h25 lf l3 sf hpq hp; (first|lia|omega))) (by (clear a4 a3 a2 a1 t4 t3 t1 hc2 hc1 hc cl0 cl lm2 lm' ne10 ci sR ok bm g10 g9 g8 g7 g6 g5 g4 g3 g2 g1 e0 c4 c3 c2 c1 r4 r3 r2 r1 x2 iq x1 i1 hin hN ei hi ents pp hk hk2 lkl hn nf lf l3 sf hpq hp; (first|lia|omega)))
        obtain ⟨w1,w2,w3⟩:=whole_of h25.1 hc t3 g2 a1 cl a2 a3
        have nk:l'.length ∉ kl.map (·.1):=by
          rcases g7 with z | z
          · exact absurd z cl
          · exact z
        obtain ⟨pk,pv⟩:=put_kp l'.length a m2 kl nk
        have at1:=atI_intsL cl
        rw [← hc] at at1
        refine hN (.inl ?_)
        unfold R.b_steady_sum_1
        rw [sR]
        refine ⟨_,?_,kl ++ [(l'.length,a,m2)],some (Slot.val (D.int i)),some (Slot.val (tupZ (xp i))),some (Slot.val (tupZ r)),some (Slot.val (.tup [tupZ l',tupZ m'])),some (Slot.val (D.int t)),rfl,?_,?_,?_⟩
        · have hlk:(kpK kl).length < 100000:=by
            unfold kpK
            rw [List.length_map]; (clear at1 pv pk nk w3 w2 w1 b4 b3 b2 b1 a4 a3 a2 a1 t4 t3 t2 t1 hc2 hc1 hc cl0 cl lm2 lm' ne10 ci sR ok bm g10 g9 g8 g7 g6 g5 g4 g3 g2 g1 e0 c4 c3 c2 c1 r4 r3 r2 r1 x2 iq x1 i1 hin hN ei hi ents pp hk hn nf h25 l3 sf hpq hp; (first|lia|omega))
          rw [seq_next (S':=[some (Slot.val (tupZ f)),some (Slot.val (D.int q)),some (Slot.owd (kpK kl) (kpV kl)),some (Slot.val (D.int i)),some (Slot.val (tupZ (xp i))),some (Slot.val (tupZ r)),some (Slot.val (.tup [tupZ l',tupZ m'])),v7]) (by simp [cl])]
          rw [seq_next (S':=[some (Slot.val (tupZ f)),some (Slot.val (D.int q)),some (Slot.owd (kpK kl) (kpV kl)),some (Slot.val (D.int i)),some (Slot.val (tupZ (xp i))),some (Slot.val (tupZ r)),some (Slot.val (.tup [tupZ l',tupZ m'])),some (Slot.val (D.int t))]) (by simp [at1,t4])]
          simp [a4,b4,hlk,pk,pv]
        · intro x hx
          rw [Nat.zero_add,← hi]
          rcases List.mem_append.mp hx with hx | hx
          · have en:=ents x hx
            exact ⟨en.sa,en.la,en.pos,en.lt,en.one,en.sm,en.bd.mono (by (clear en at1 pv pk nk w3 w2 w1 b4 b3 b2 b1 a4 a3 a2 a1 t4 t3 t2 t1 hc2 hc1 hc cl0 cl lm2 lm' ne10 ci sR ok bm g10 g9 g8 g7 g6 g5 g4 g3 g2 g1 e0 c4 c3 c2 c1 r4 r3 r2 r1 x2 iq x1 i1 hin hN ei hi ents pp hk hk2 lkl hn nf h25 lf l3 sf hpq hp; (first|lia|omega))),en.c0,en.eq⟩
          · have ex:x=(l'.length,a,m2):=by simpa using hx
            subst ex
            refine ⟨a1,w1,cl0,g3,by rw [← w1]; exact w2,b1,?_,?_,?_⟩
            · intro j hj
              show (ser q m2).c j=0
              rw [b3,mn_mul,if_pos (by (clear hj at1 pv pk nk w3 w2 w1 b4 b3 b2 b1 a4 a3 a2 a1 t4 t3 t2 t1 hc2 hc1 hc cl0 cl lm2 lm' ne10 ci sR ok bm g10 g9 g8 g7 g6 g5 g4 g3 g2 g1 e0 c4 c3 c2 c1 r4 r3 r2 r1 x2 iq x1 i1 hin hN ei hi ents pp hk hk2 lkl hn nf h25 lf l3 sf hpq hp; (first|lia|omega))),Nat.sub_zero,bm j hj]; grind
            · show (ser q m2).c 0=0
              rw [b3,mn_mul,if_pos (by (clear at1 pv pk nk w3 w2 w1 b4 b3 b2 b1 a4 a3 a2 a1 t4 t3 t2 t1 hc2 hc1 hc cl0 cl lm2 lm' ne10 ci sR ok bm g10 g9 g8 g7 g6 g5 g4 g3 g2 g1 e0 c4 c3 c2 c1 r4 r3 r2 r1 x2 iq x1 i1 hin hN ei hi ents pp hk hk2 lkl hn nf h25 lf l3 sf hpq hp; (first|lia|omega))),Nat.sub_zero,g8,sub_c,g10]
              simp only [mn]
              rw [if_neg (by (clear at1 pv pk nk w3 w2 w1 b4 b3 b2 b1 a4 a3 a2 a1 t4 t3 t2 t1 hc2 hc1 hc cl0 cl lm2 lm' ne10 ci sR ok bm g10 g9 g8 g7 g6 g5 g4 g3 g2 g1 e0 c4 c3 c2 c1 r4 r3 r2 r1 x2 iq x1 i1 hin hN ei ents pp hk hk2 lkl hn nf h25 lf l3 sf hpq hp; (first|lia|omega)))]; grind
            · show Eqv (ser q f) (ser q a) (ph (ser q m2))
              rw [a3,b3,ph_scale hp hpq]
              obtain ⟨w,pw,ew⟩:=g6
              exact ⟨mn (ic t) 0 * w,(Pl.mn _ _).mul pw,by
                have:mn (ic t) 0 * ser q l' - mn (ic t) 0 * ph (ser q m')=mn (ic t) 0 * (ser q l' - ph (ser q m')):=by grind
                rw [this,ew]; grind⟩
        · rw [List.length_append]; simp; (clear at1 pv pk nk w3 w2 w1 b4 b3 b2 b1 a4 a3 a2 a1 t4 t3 t2 t1 hc2 hc1 hc cl0 cl lm2 lm' ne10 ci sR ok bm g10 g9 g8 g7 g6 g5 g4 g3 g2 g1 e0 c4 c3 c2 c1 r4 r3 r2 r1 x2 iq x1 i1 hin hN ei hi ents pp hk hk2 hn nf h25 lf l3 sf hpq hp; (first|lia|omega))
        · rw [Nat.zero_add,← hi,List.map_append]
          exact pp.step hp hpq i1 g2 cl g3 nk g9 g10 (by rw [← g8]; exact g6))
  have hfor:dFor (dRange2 (dCons (dC (.int 1)) (dCons (dBin (opI2 fun i j=>i - j) (dUn uLen (dVar 0)) (dC (.int 1))) dNil))) (sName 3) (R.b_steady_sum_1 R.m_lone_power R.m_rest_by R.m_cleared R.m_minus R.m_turned_number R.m_scaled) [some (Slot.val (tupZ f)),some (Slot.val (D.int q)),some (Slot.owd [] []),none,none,none,none,none] =
      loopD (sName 3) (R.b_steady_sum_1 R.m_lone_power R.m_rest_by R.m_cleared R.m_minus R.m_turned_number R.m_scaled) (rangeD 1 ((f.length:Int) - 1)) [some (Slot.val (tupZ f)),some (Slot.val (D.int q)),some (Slot.owd [] []),none,none,none,none,none]:=by
    rw [dFor_e]
    have:dRange2 (dCons (dC (.int 1)) (dCons (dBin (opI2 fun i j=>i - j) (dUn uLen (dVar 0)) (dC (.int 1))) dNil)) [some (Slot.val (tupZ f)),some (Slot.val (D.int q)),some (Slot.owd [] []),none,none,none,none,none]=some (.ok (rangeD 1 ((f.length:Int) - 1))):=by
      simp; (clear main hn nf h25 l3 sf hpq hp; (first|lia|omega))
    rw [this]
  unfold R.m_steady_sum R.g_steady_sum
  rw [startN_2,seq_next (S':=[some (Slot.val (tupZ f)),some (Slot.val (D.int q)),some (Slot.owd [] []),none,none,none,none,none]) rfl]
  rcases main with ⟨S',e,kl,v3,v4,v5,v6,v7,hS,ents,lkl,pp⟩ | ⟨r,e,m,rfl,st⟩
  · left
    rw [seq_next (hfor.trans e)]
    refine ⟨rfl,kl.map (·.1),?_⟩
    rw [rangeD_len] at pp
    have:0 + ((f.length:Int) - 1 - 1).toNat + 1=f.length - 1:=by (clear pp lkl ents hS e hfor hn nf h25 lf sf hpq hp; (first|lia|omega))
    rw [this,hn] at pp
    exact pp
  · right
    refine ⟨m,?_,by rw [hn] at st; exact st⟩
    rw [dSeq_e,hfor,e]
    rfl
end
end PF
set_option Elab.async false
set_option linter.all false
set_option maxRecDepth 100000
set_option maxHeartbeats 4000000
namespace PF
open PySem L2 PA
theorem ex_max (g:Nat→Nat):∀ n,0 < n→∃ i,i < n∧∀ j,j < n→g j ≤ g i∧(j < i→g j < g i)
  | 0,h=>absurd h (by decide)
  | 1,_=>⟨0,by decide,fun j hj=>by
    have:j=0:=by (first|lia|omega)
    subst this
    exact ⟨Nat.le_refl _,fun h=>absurd h (by decide)⟩⟩
  | n + 2,_=>by
    obtain ⟨i,hi,h⟩:=ex_max g (n + 1) (by (first|lia|omega))
    by_cases c:g (n + 1) ≤ g i
    · refine ⟨i,by (clear c h; (first|lia|omega)),fun j hj=>?_⟩
      by_cases e:j=n + 1
      · subst e; exact ⟨c,fun z=>by (clear hj c h; (first|lia|omega))⟩
      · exact h j (by (clear c h hi; (first|lia|omega)))
    · refine ⟨n + 1,by (clear c h hi; (first|lia|omega)),fun j hj=>?_⟩
      by_cases e:j=n + 1
      · subst e; exact ⟨Nat.le_refl _,fun z=>by (clear hj c h hi; (first|lia|omega))⟩
      · have:=(h j (by (clear c h hi; (first|lia|omega)))).1
        exact ⟨by (clear e hj h hi; (first|lia|omega)),fun _=>by (clear e hj h hi; (first|lia|omega))⟩
theorem lensD_map {γ:Type} (G:γ→List Int) (l:List γ):lensD (l.map fun s=>tupZ (G s))=some (l.map fun s=>(G s).length):=by
  induction l with
  | nil=>rfl
  | cons a l ih=>rw [List.map_cons,tupZ,lensD,ih]; simp
theorem maxLen_range (G:Nat→List Int) (n:Nat) (hn:0 < n):∃ i,i < n∧(∀ j,j < n→(G j).length ≤ (G i).length)∧uMaxLen (.lst ((List.range n).map fun s=>tupZ (G s)))=some (tupZ (G i)):=by
  obtain ⟨ns,hns⟩:∃ ns,ns=(List.range n).map fun s=>(G s).length:=⟨_,rfl⟩
  have ln:ns.length=n:=by rw [hns]; simp
  have gd:∀ j,j < n→ns.getD j 0=(G j).length:=fun j hj=>by rw [hns]; simp [List.getD,hj]
  obtain ⟨k,hk,h⟩:=ex_max (fun s=>(G s).length) n hn
  have fk:firstMax ns k=true:=by
    unfold firstMax
    rw [Bool.and_eq_true,decide_eq_true_eq,List.all_eq_true]
    refine ⟨by (clear h gd hns hn; (first|lia|omega)),fun j hj=>?_⟩
    have hj':j < n:=by rw [← ln]; simpa using hj
    obtain ⟨h1,h2⟩:=h j hj'
    rw [gd j hj',gd k hk]
    simp only [Bool.and_eq_true,Bool.or_eq_true,decide_eq_true_eq,Bool.not_eq_true',decide_eq_false_iff_not]
    refine ⟨h1,?_⟩
    by_cases c:j < k
    · exact .inr (h2 c)
    · exact .inl c
  have fs:((List.range ns.length).find? (firstMax ns)).isSome=true:=List.find?_isSome.mpr ⟨k,by simp; (clear fk h gd hns hn; (first|lia|omega)),fk⟩
  obtain ⟨i,ei⟩:=Option.isSome_iff_exists.mp fs
  have fi:=List.find?_some ei
  have hi:i < n:=by
    have:=List.mem_of_find?_eq_some ei
    rw [← ln]; simpa using this
  refine ⟨i,hi,fun j hj=>?_,?_⟩
  · unfold firstMax at fi
    rw [Bool.and_eq_true,List.all_eq_true] at fi
    have:=fi.2 j (by simp; (clear hi fi ei fs fk h hk gd hns hn; (first|lia|omega)))
    rw [Bool.and_eq_true,decide_eq_true_eq] at this
    rw [← gd j hj,← gd i hi]
    exact this.1
  · unfold uMaxLen
    simp only [lensD_map,← hns,ei]
    simp [hi]
theorem S_less (m r l:List Int) (s z:Int) (r4:R.m_scaled [tupZ [1],.int s,.int z]=some (.ok (tupZ r))) (c4:R.m_minus [tupZ m,tupZ r,.int z]=some (.ok (tupZ l))):dCall 3 R.m_minus (dCons (dVar 1) (dCons (dCall 3 R.m_scaled (dCons (dC (.tup (([1]:List Int).map .int))) (dCons (dVar 0) (dCons (dVar 2) dNil)))) (dCons (dVar 2) dNil))) [some (Slot.val (D.int s)),some (Slot.val (tupZ m)),some (Slot.val (D.int z))]=some (.ok (.ok (tupZ l))):=by
  simp only [List.map_cons,List.map_nil,tupZ_one]
  simp [r4,c4]
theorem run_part (f m:List Int) (LS GS:Nat→List Int) (n:Nat) (z:Int) (h0:-1000000000 ≤ z) (h1:z ≤ 1000000000) (e5:(rangeD 0 z).length ≤ 100000) (e3:rangeD 0 z=(List.range n).map fun (k:Nat)=>D.int (k:Int)) (e6:((List.range n).map fun s=>tupZ (LS s)).length ≤ 100000) {r:D} (run:R.m_steady_sum [tupZ f,.int z]=some (.ok (tupZ m)))
    (hL:∀ s,s < n→dCall 3 R.m_minus (dCons (dVar 1) (dCons (dCall 3 R.m_scaled (dCons (dC (.tup (([1]:List Int).map .int))) (dCons (dVar 0) (dCons (dVar 2) dNil)))) (dCons (dVar 2) dNil))) [some (Slot.val (D.int ((s:Int)))),some (Slot.val (tupZ m)),some (Slot.val (D.int z))]=some (.ok (.ok (tupZ (LS s)))))
    (hG:∀ s,s < n→dBin opIx (dCall 3 R.m_common (dCons (dVar 1) (dCons (dVar 0) (dCons (dVar 2) dNil)))) (dC (.int 0)) [some (Slot.val (tupZ (LS s))),some (Slot.val (tupZ f)),some (Slot.val (D.int z))]=some (.ok (.ok (tupZ (GS s)))))
    (hm:uMaxLen (.lst ((List.range n).map fun s=>tupZ (GS s)))=some r):R.m_part_by_steady [tupZ f,.int z]=some (.ok r):=by
  have e1:=compD_map (set:=sName 0) (t:=fun _=>some (.ok true)) (fe:=dCall 3 R.m_minus (dCons (dVar 1) (dCons (dCall 3 R.m_scaled (dCons (dC (.tup (([1]:List Int).map .int))) (dCons (dVar 0) (dCons (dVar 2) dNil)))) (dCons (dVar 2) dNil)))) (γ:=Nat) (fun s=>D.int (s:Int)) (fun s=>tupZ (LS s)) (fun o=>[o,some (Slot.val (tupZ m)),some (Slot.val (D.int z))]) (List.range n) none
    (fun a o _=>rfl) (fun a _=>rfl) (fun s hs=>hL s (List.mem_range.mp hs))
  have e2:=compD_map (set:=sName 0) (t:=fun _=>some (.ok true)) (fe:=dBin opIx (dCall 3 R.m_common (dCons (dVar 1) (dCons (dVar 0) (dCons (dVar 2) dNil)))) (dC (.int 0))) (γ:=Nat) (fun s=>tupZ (LS s)) (fun s=>tupZ (GS s)) (fun o=>[o,some (Slot.val (tupZ f)),some (Slot.val (D.int z))]) (List.range n) none
    (fun a o _=>rfl) (fun a _=>rfl) (fun s hs=>hG s (List.mem_range.mp hs))
  rw [← e3] at e1
  unfold R.m_part_by_steady R.g_part_by_steady
  generalize hA:(List.range n).map (fun s=>tupZ (LS s))=A at e1 e2 e6
  generalize hB:(List.range n).map (fun s=>tupZ (GS s))=B at e2 hm
  rw [startN_2,seq_next (S':=[some (Slot.val (tupZ f)),some (Slot.val (D.int z)),some (Slot.val (tupZ m)),none]) (by simp [run])]
  rw [seq_next (S':=[some (Slot.val (tupZ f)),some (Slot.val (D.int z)),some (Slot.val (tupZ m)),none]) (by simp)]
  rw [seq_next (S':=[some (Slot.val (tupZ f)),some (Slot.val (D.int z)),some (Slot.val (tupZ m)),some (Slot.val (.lst A))]) (by
    simp only [List.map_cons,List.map_nil] at e1
    simp [e5,h0,h1,e1])]
  simp [e2,e6,hm]
section
variable {q:Nat} [NeZero q]
noncomputable def Part (f g:List Int):Prop:=Sm q g∧2 ≤ g.length∧g.length < f.length∧∃ u,Pl u∧ser q f=u * ser q g
noncomputable def NoPart_ (q:Nat) [NeZero q] (f:List Int):Prop:=∀ g,¬ Part (q:=q) f g
theorem E_steady_part {p:Int} (hp:Clock p) (hpq:p=q) (f:List Int) (sf:Sm q f) (l3:3 ≤ f.length) (lf:f.length ≤ 15) {x y:Ser (Fin q)} (px:Pl x) (py:Pl y) (cop:1=x * ser q f + y * dv (ser q f)) :
    (R.m_part_by_steady [tupZ f,.int q]=some (.ok .non)∧NoPart_ q f)∨∃ g,R.m_part_by_steady [tupZ f,.int q]=some (.ok (tupZ g))∧Part (q:=q) f g:=by
  have h25:=one_le_of hp hpq
  have nf:f ≠ []:=by rintro rfl; simp at l3
  rcases E_steady hp hpq f sf l3 lf with ⟨run,keys,pp⟩ | ⟨m,run,st⟩
  · left
    refine ⟨?_,fun g ⟨sg,lg,lg2,u,pu,e⟩=>no_part hp hpq sf nf (by (clear e pu lg2 lg sg pp run nf h25 cop py px l3 sf hpq hp; (first|lia|omega))) sg lg lg2 pu e px py cop pp⟩
    unfold R.m_part_by_steady R.g_part_by_steady
    simp [run]
  · right
    refine Classical.byContradiction fun hN=>?_
    obtain ⟨sm,lo,hi,eq⟩:=st
    -- the sums less a number
    have h1:∀ s:Nat,∃ l:List Int,s < q→Sm q l∧l.length ≤ m.length∧ser q l=ser q m - mn (ic (s:Int)) 0∧dCall 3 R.m_minus (dCons (dVar 1) (dCons (dCall 3 R.m_scaled (dCons (dC (.tup (([1]:List Int).map .int))) (dCons (dVar 0) (dCons (dVar 2) dNil)))) (dCons (dVar 2) dNil))) [some (Slot.val (D.int ((s:Int)))),some (Slot.val (tupZ m)),some (Slot.val (D.int q))]=some (.ok (.ok (tupZ l))):=fun s=>by
      by_cases c:s < q
      · refine Classical.byContradiction fun hN=>?_
        obtain ⟨r,r1,r2,r3,r4⟩:=E_scaled (q:=q) (by (clear c eq hi lo sm run nf cop py px lf l3 sf hpq hp; (first|lia|omega))) [1] s (by simp) (by (clear c eq hi lo sm run nf h25 cop py px lf l3 sf hpq hp; (first|lia|omega))) (by (clear eq hi lo sm run nf cop py px lf l3 sf hpq hp; (first|lia|omega)))
        obtain ⟨l,c1,c2,c3,c4⟩:=E_minus (q:=q) (by (clear r4 r3 r2 r1 c eq hi lo sm run nf cop py px lf l3 sf hpq hp; (first|lia|omega))) h25.2 m r sm.1 (by (clear r4 r3 r2 r1 c eq lo sm run nf h25 cop py px l3 sf hpq hp; (first|lia|omega))) (by simp at r2; (clear r4 r3 r1 c eq hi lo sm run nf h25 cop py px lf l3 sf hpq hp; (first|lia|omega)))
        refine hN ⟨l,fun _=>⟨c1,by simp at r2; (clear c4 c3 c1 r4 r3 r1 c eq hi sm run nf h25 cop py px lf l3 sf hpq hp; (first|lia|omega)),?_,?_⟩⟩
        · rw [c3,r3,ser_one]; grind
        · exact S_less m r l s q r4 c4
      · exact ⟨[],fun h=>absurd h c⟩
    obtain ⟨LS,hLS⟩:=Classical.skolem.mp h1
    have top0:∀ s,s < q→LS s ≠ []:=fun s hs e=>by
      obtain ⟨_,_,h3,_⟩:=hLS s hs
      rw [e,ser_nil] at h3
      have nm:m ≠ []:=by rintro rfl; simp at lo
      have h4:=congrArg (fun z=>z.c (m.length - 1)) h3
      simp only [zero_c,sub_c,mn] at h4
      rw [if_neg (by (clear h4 nm h3 e hs hLS h1 eq hi sm hN run nf h25 cop py px lf l3 sf hpq hp; (first|lia|omega)))] at h4
      exact sm.top nm (by grind)
    have h2:∀ s:Nat,∃ g:List Int,s < q→Sm q g∧g.length ≤ (LS s).length∧(∃ u,Pl u∧ser q f=u * ser q g)∧(g.length ≤ 1→∃ x y,Pl x∧Pl y∧1=x * ser q f + y * (ser q m - mn (ic (s:Int)) 0))∧dBin opIx (dCall 3 R.m_common (dCons (dVar 1) (dCons (dVar 0) (dCons (dVar 2) dNil)))) (dC (.int 0)) [some (Slot.val (tupZ (LS s))),some (Slot.val (tupZ f)),some (Slot.val (D.int q))]=some (.ok (.ok (tupZ g))):=fun s=>by
      by_cases c:s < q
      · refine Classical.byContradiction fun hN=>?_
        obtain ⟨a1,a2,a3,a4⟩:=hLS s c
        obtain ⟨g,x,y,sg,sx,sy,lg,lx,ly,eg,⟨u,pu,eu⟩,⟨v,pv,ev⟩,hw,hz,run2⟩:=E_common hp hpq f (LS s) sf a1 (by (clear a4 a3 a2 a1 c top0 hLS h1 eq hi lo sm run nf h25 cop py px l3 sf hpq hp; (first|lia|omega))) (by (clear a4 a3 a1 c top0 hLS h1 eq lo sm run nf h25 cop py px l3 sf hpq hp; (first|lia|omega)))
        have ng:g ≠ []:=by
          rintro rfl
          rw [ser_nil] at eu
          exact nf (sf.nil_of (by rw [eu]; grind))
        refine hN ⟨g,fun _=>⟨sg,dvd_len (nzd hp hpq) a1 sg (top0 s c) ng pv ev,⟨u,pu,eu⟩,fun l1=>?_,?_⟩⟩
        · have g0:=List.length_pos_iff.mpr ng
          have g1:g=[1]:=by
            match g,g0,l1,hw ng with
            | [t],_,_,e=>
              have:t=1:=by simpa [co] using e
              rw [this]
          rw [g1,ser_one,a3] at eg
          exact ⟨_,_,Pl.ser x,Pl.ser y,eg⟩
        · simp [run2]
      · exact ⟨[],fun h=>absurd h c⟩
    obtain ⟨GS,hGS⟩:=Classical.skolem.mp h2
    obtain ⟨i,hi1,hi2,hi3⟩:=maxLen_range GS q (by (clear hGS h2 top0 hLS h1 eq hi lo sm hN run nf cop py px lf l3 sf hpq hp; (first|lia|omega)))
    obtain ⟨b1,b2,b3,b4,b5⟩:=hGS i hi1
    refine hN ⟨GS i,?_,b1,?_,?_,b3⟩
    · exact run_part f m LS GS q q (by (clear b5 b4 b3 b2 b1 hi3 hi2 hi1 hGS h2 top0 hLS h1 eq hi lo sm hN run nf h25 cop py px lf l3 sf hpq hp; (first|lia|omega))) (by (clear b5 b4 b3 b2 b1 hi3 hi2 hi1 hGS h2 top0 hLS h1 eq hi lo sm hN run nf cop py px lf l3 sf hpq hp; (first|lia|omega))) (by rw [rangeD_len]; (clear b5 b4 b3 b2 b1 hi3 hi2 hi1 hGS h2 top0 hLS h1 eq hi lo sm hN run nf cop py px lf l3 sf hpq hp; (first|lia|omega))) (by simp [rangeD]) (by simp; (clear b5 b4 b3 b2 b1 hi3 hi2 hi1 hGS h2 top0 hLS h1 eq hi lo sm hN run nf cop py px lf l3 sf hpq hp; (first|lia|omega))) run (fun s hs=>(hLS s hs).2.2.2) (fun s hs=>(hGS s hs).2.2.2.2) hi3
    · rcases Nat.lt_or_ge (GS i).length 2 with z | z
      · exfalso
        have all1:∀ s:Nat,s < q→∃ x y,Pl x∧Pl y∧1=x * ser q f + y * (ser q m - mn (ic (s:Int)) 0):=fun s hs=>(hGS s hs).2.2.2.1 (by have:=hi2 s hs; (clear hs b5 b4 b3 b2 b1 hi3 hi2 hi1 hGS h2 top0 hLS h1 eq hi lo sm hN run nf h25 cop py px lf l3 sf hpq hp; (first|lia|omega)))
        obtain ⟨x',y',px',py',e'⟩:=pr_cop (Pl.ser m) all1 q (Nat.le_refl _)
        rw [← ph_pr hp hpq] at e'
        obtain ⟨w,pw,ew⟩:=eq
        have e2:(1:Ser (Fin q))=(x' - y' * w) * ser q f:=by
          have:ph (ser q m)=0 - w * ser q f:=by grind
          rw [this] at e'
          rw [e']; grind
        have:=dvd_len (nzd hp hpq) (Sm.one h25.1) sf (by simp) nf (px'.sub (py'.mul pw)) (by rw [ser_one]; exact e2)
        simp at this; (clear e2 ew pw e' py' px' all1 z b5 b4 b3 b2 b1 hi3 hi2 hi1 hGS h2 top0 hLS h1 hi lo sm hN run nf h25 cop py px lf sf hpq hp; (first|lia|omega))
      · exact z
    · have:=(hLS i hi1).2.1
      (clear b5 b4 b3 b1 hi3 hi2 hi1 hGS h2 top0 hLS h1 eq lo sm hN run nf h25 cop py px lf l3 sf hpq hp; (first|lia|omega))
end
end PF
set_option Elab.async false
set_option linter.all false
set_option maxRecDepth 100000
set_option maxHeartbeats 4000000
namespace PF
open PySem L2 PA
theorem pickS_map {α β:Type} (g:α→β) (l:List α) (k:Nat):pickS (l.map g) k=(pickS l k).map g:=by
  unfold pickS
  rw [List.length_map,List.map_filterMap]
  congr 1
  funext i
  simp
section
variable {q:Nat} [NeZero q]
theorem zpow (m:Nat):(0:Ser (Fin q)) ^ (m + 1)=0:=by rw [psucc]; grind
theorem pow_c {p:Int} (hp:Clock p) (hpq:p=q):∀ (l:List Int) (k:Nat),(ser q l ^ q).c k=if k % q=0 then ic (co l (k / q)) else 0
  | [],k=>by
    have h25:=one_le_of hp hpq
    have:(ser q [] ^ q)=0:=by
      rw [ser_nil]
      have:=zpow (q:=q) (q - 1)
      rwa [show q - 1 + 1=q by (clear this hpq hp; (first|lia|omega))] at this
    rw [this,zero_c]
    simp [co,ic_zero]
  | a :: l,k=>by
    have h25:=one_le_of hp hpq
    rw [ser_cons,frob hp hpq,fermat hp hpq,mulp,mn_pow,Nat.one_mul,add_c,mn_mul]
    by_cases c:q ≤ k
    · obtain ⟨j,rfl⟩:∃ j,k=j + q:=⟨k - q,by (clear h25 hpq hp; (first|lia|omega))⟩
      rw [if_pos c,Nat.add_sub_cancel,pow_c hp hpq l j]
      have e1:(j + q) % q=j % q:=Nat.add_mod_right j q
      have e2:(j + q) / q=j / q + 1:=Nat.add_div_right j (by (clear e1 c hpq hp; (first|lia|omega)))
      rw [e1,e2]
      have e3:co (a :: l) (j / q + 1)=co l (j / q):=by simp [co,List.getD]
      rw [e3]
      simp only [mn]
      rw [if_neg (by (clear e3 e2 e1 c hpq hp; (first|lia|omega)))]
      split <;> grind
    · rw [if_neg c]
      simp only [mn]
      by_cases k0:k=0
      · subst k0
        simp [co]
      · rw [if_neg k0,if_neg (by rw [Nat.mod_eq_of_lt (by (clear k0 h25 hpq hp; (first|lia|omega)))]; exact k0)]
        grind
theorem co_pick {f:List Int} (hq:0 < q) (i:Nat):co (pickS f q) i=co f (i * q):=by
  have e:pickS f q=(List.range (places f.length q)).map fun i=>co f (i * q):=by
    unfold pickS
    have:∀ l:List Nat,(∀ i ∈ l,i * q < f.length)→l.filterMap (fun i=>f[i * q]?)=l.map fun i=>co f (i * q):=by
      intro l
      induction l with
      | nil=>intro _; rfl
      | cons a l ih=>
        intro h
        have ha:=h a (by simp)
        rw [List.filterMap_cons,List.getElem?_eq_getElem ha,List.map_cons,ih fun i hi=>h i (by simp [hi]),getD_lt ha]
    refine this _ fun i hi=>?_
    have hi:=List.mem_range.mp hi
    unfold places at hi
    split at hi
    · (clear this hq; (first|lia|omega))
    · have h1:i ≤ (f.length - 1) / q:=by (clear this hq; (first|lia|omega))
      have h2:i * q ≤ (f.length - 1) / q * q:=Nat.mul_le_mul_right q h1
      have h3:=Nat.div_mul_le_self (f.length - 1) q
      (clear h1 this hq; (first|lia|omega))
  rw [e]
  by_cases c:i < places f.length q
  · rw [getD_lt (by simpa using c)]
    simp
  · rw [getD_ge (by simpa using c),getD_ge]
    unfold places at c
    split at c
    · (clear c e hq; (first|lia|omega))
    · rcases Nat.lt_or_ge (i * q) f.length with z | z
      · exfalso
        have h1:(i * q) / q ≤ (f.length - 1) / q:=Nat.div_le_div_right (by (clear c e hq; (first|lia|omega)))
        rw [Nat.mul_div_cancel _ hq] at h1
        (clear z e hq; (first|lia|omega))
      · exact z
theorem pick_len {f:List Int} (nf:f ≠ []):(pickS f q).length ≤ (f.length - 1) / q + 1:=by
  unfold pickS
  refine Nat.le_trans (List.length_filterMap_le _ _) ?_
  rw [List.length_range]
  unfold places
  split
  · exact Nat.zero_le _
  · exact Nat.le_refl _
theorem step_power {p:Int} (hp:Clock p) (hpq:p=q) (f:List Int) (sf:Sm q f) (l3:3 ≤ f.length) (h:dv (ser q f)=0):Part (q:=q) f (pickS f q):=by
  have h25:=one_le_of hp hpq
  have nf:f ≠ []:=by rintro rfl; simp at l3
  have zz:∀ k,k % q ≠ 0→co f k=0:=fun k hk=>by
    obtain ⟨j,rfl⟩:∃ j,k=j + 1:=⟨k - 1,by
      have:k ≠ 0:=by rintro rfl; simp at hk
      (clear hk nf h25 h l3 sf hpq hp; (first|lia|omega))⟩
    have h1:=congrArg (fun z=>z.c j) h
    simp only [dv_c,zero_c,ser_c] at h1
    rcases nzd hp hpq _ _ h1 with e | e
    · exfalso
      have e':(ic ((j:Int) + 1):Fin q)=ic 0:=by rw [e,ic_zero]
      have:=ic_eq.mp e'
      have e3:((j:Int) + 1) % (q:Int)=(((j + 1) % q:Nat):Int):=by
        rw [Int.natCast_emod]; simp
      rw [e3] at this
      simp at this
      (clear e' e h1 nf h25 h l3 sf hpq hp; (first|lia|omega))
    · have hr:=sf.1.getD (show (0:Int) < q by (clear e h1 hk nf h l3 sf hpq hp; (first|lia|omega))) (j + 1)
      have e':(ic (co f (j + 1)):Fin q)=ic 0:=by rw [e,ic_zero]
      exact ic_red hr (by (clear e' hr e h1 hk nf h l3 sf hpq hp; (first|lia|omega))) e'
  have es:ser q f=ser q (pickS f q) ^ q:=Ser.ext fun k=>by
    rw [pow_c hp hpq,ser_c]
    by_cases c:k % q=0
    · rw [if_pos c,co_pick (by (clear c zz nf h l3 sf hpq hp; (first|lia|omega))),Nat.div_mul_cancel (Nat.dvd_of_mod_eq_zero c)]
    · rw [if_neg c,zz k c,ic_zero]
  have red:Red q (pickS f q):=fun x hx=>by
    obtain ⟨i,hi,rfl⟩:=List.mem_iff_getElem.mp hx
    rw [← getD_lt hi,co_pick (by (clear hx hi es zz nf h l3 sf hpq hp; (first|lia|omega)))]
    exact sf.1.getD (by (clear hx hi es zz nf h l3 sf hpq hp; (first|lia|omega))) _
  have top:=sf.2.last nf
  have dvd:(f.length - 1) % q=0:=by
    rcases Classical.em ((f.length - 1) % q=0) with z | z
    · exact z
    · exact absurd (zz _ z) top
  obtain ⟨t,ht⟩:∃ t,f.length - 1=q * t:=⟨(f.length - 1) / q,(Nat.mul_div_cancel' (Nat.dvd_of_mod_eq_zero dvd)).symm⟩
  have t1:1 ≤ t:=by
    rcases Nat.eq_zero_or_pos t with z | z
    · subst z; simp at ht; (clear dvd top red es zz nf h25 h sf hpq hp; (first|lia|omega))
    · exact z
  have lt:t * 2 ≤ q * t:=by
    have:=Nat.mul_le_mul_right t h25.1
    (clear t1 ht dvd top red es zz nf h25 h l3 sf hpq hp; (first|lia|omega))
  have pl:=pick_len (q:=q) nf
  have hdiv:(f.length - 1) / q=t:=by rw [ht]; exact Nat.mul_div_cancel_left t (by (clear pl lt t1 ht dvd top red es zz nf h l3 sf hpq hp; (first|lia|omega)))
  rw [hdiv] at pl
  have ct:co (pickS f q) t ≠ 0:=by
    rw [co_pick (by (clear hdiv pl lt t1 ht dvd top red es zz nf h l3 sf hpq hp; (first|lia|omega)))]
    have:t * q=f.length - 1:=by rw [ht,Nat.mul_comm]
    rw [this]; exact top
  have ll:(pickS f q).length=t + 1:=by
    rcases Nat.lt_or_ge t (pickS f q).length with z | z
    · (clear ct hdiv lt t1 ht dvd top red es zz nf h25 h l3 sf hpq hp; (first|lia|omega))
    · exact absurd (getD_ge z) ct
  have sm:Sm q (pickS f q):=⟨red,fun e=>by
    rw [List.getLast?_eq_getElem?,ll,Nat.add_sub_cancel] at e
    apply ct
    rw [getD_lt (by (clear e ct hdiv pl lt t1 ht dvd top red es zz nf h25 h l3 sf hpq hp; (first|lia|omega)))]
    rw [List.getElem?_eq_getElem (by (clear e ct hdiv pl lt t1 ht dvd top red es zz nf h25 h l3 sf hpq hp; (first|lia|omega)))] at e
    exact Option.some.inj e⟩
  refine ⟨sm,by (clear sm ct hdiv pl lt ht dvd top red es zz nf h25 h l3 sf hpq hp; (first|lia|omega)),by (clear sm ll ct hdiv t1 dvd top red es zz nf h25 h sf hpq hp; (first|lia|omega)),ser q (pickS f q) ^ (q - 1),(Pl.ser _).pow _,?_⟩
  rw [← psucc,show q - 1 + 1=q by (clear sm ll ct hdiv pl lt t1 ht dvd top red es zz nf h l3 sf hpq hp; (first|lia|omega))]
  exact es
theorem S_root (f rs:List Int) (r0 z:Int) (hz:0 < z) (a0:atI (rs.map D.int) 0=some (.int r0)) (h0:(0:Int) < rs.length) {R':DS→Option Fl}:okM (fin ((dSeq (dIf (dtB (dBin cGt (dUn uLen (dVar 2)) (dC (.int 0)))) (dRet (dTup (dCons (dBin (opC2 okMod fun i j=>i % j) (dBin (opI2 fun i j=>i - j) (dVar 1) (dBin opIx (dVar 2) (dC (.int 0)))) (dVar 1)) (dCons (dC (.int 1)) dNil)))) dNext) R') [some (Slot.val (tupZ f)),some (Slot.val (D.int z)),some (Slot.val (tupZ rs)),none,none]))=some (.ok (.tup [.int ((z - r0) % z),.int 1])):=by
  have h1:0 < rs.length:=by (clear a0 hz; (first|lia|omega))
  simp [a0,h0,h1,hz]
theorem S_step (f:List Int) (z:Int) (h2:2 ≤ z) (h5:z ≤ 1000) (b4:R.m_slope [tupZ f,.int z]=some (.ok (tupZ []))) {R':DS→Option Fl}:okM (fin ((dSeq (dIf (dtB (dBin cGt (dUn uLen (dVar 2)) (dC (.int 0)))) (dRet (dTup (dCons (dBin (opC2 okMod fun i j=>i % j) (dBin (opI2 fun i j=>i - j) (dVar 1) (dBin opIx (dVar 2) (dC (.int 0)))) (dVar 1)) (dCons (dC (.int 1)) dNil)))) dNext)
    (dSeq (dSet 3 (dCall 2 R.m_slope (dCons (dVar 0) (dCons (dVar 1) dNil))))
    (dSeq (dIf (dtB (dBin cEq (dUn uLen (dVar 3)) (dC (.int 0)))) (dRet (dBin opStep (dVar 0) (dVar 1))) dNext) R'))) [some (Slot.val (tupZ f)),some (Slot.val (D.int z)),some (Slot.val (tupZ ([]))),none,none]))=some (.ok (tupZ (pickS f z.toNat))):=by
  have e:opStep (tupZ f) (.int z)=some (tupZ (pickS f z.toNat)):=by
    unfold opStep tupZ
    simp only
    rw [if_pos ⟨h2,h5⟩,pickS_map]
  simp [b4,e]
theorem E_part_of {p:Int} (hp:Clock p) (hpq:p=q) (f:List Int) (sf:Sm q f) (lf:f.length ≤ 15) :
    (R.m_part_of [tupZ f,.int q]=some (.ok .non)∧NoPart_ q f)∨∃ g,R.m_part_of [tupZ f,.int q]=some (.ok (tupZ g))∧Part (q:=q) f g:=by
  have h25:=one_le_of hp hpq
  by_cases l3:f.length < 3
  · left
    have l3':(f.length:Int) < 3:=by (clear h25 lf sf hpq hp; (first|lia|omega))
    refine ⟨?_,fun g ⟨_,h1,h2,_⟩=>by (clear l3' h25 lf sf hpq hp; (first|lia|omega))⟩
    unfold R.m_part_of R.g_part_of
    simp [l3']
  have l3':¬ (f.length:Int) < 3:=by (clear h25 lf sf hpq hp; (first|lia|omega))
  have nf:f ≠ []:=by rintro rfl; simp at l3
  have rt:=E_roots (q:=q) f (by (clear nf l3' l3 lf sf hpq hp; (first|lia|omega))) h25.2
  have s1:∀ R',dSeq (dIf (dtB (dBin cLt (dUn uLen (dVar 0)) (dC (.int 3)))) (dRet (dC .non)) dNext) (dSeq (dSet 2 (dCall 2 R.m_roots (dCons (dVar 0) (dCons (dVar 1) dNil)))) R') [some (Slot.val (tupZ f)),some (Slot.val (D.int q)),none,none,none]=R' [some (Slot.val (tupZ f)),some (Slot.val (D.int q)),some (Slot.val (tupZ (rootsZ q f))),none,none]:=fun R'=>by
    rw [seq_next (S':=[some (Slot.val (tupZ f)),some (Slot.val (D.int q)),none,none,none]) (by simp [l3'])]
    rw [seq_next (S':=[some (Slot.val (tupZ f)),some (Slot.val (D.int q)),some (Slot.val (tupZ (rootsZ q f))),none,none]) (by simp [rt])]
  by_cases cr:rootsZ q f ≠ []
  · refine Classical.byContradiction fun hN=>?_
    obtain ⟨r0,rs,er⟩:∃ r0 rs,rootsZ q f=r0 :: rs:=by
      cases z:rootsZ q f with
      | nil=>exact absurd z cr
      | cons a b=>exact ⟨a,b,rfl⟩
    obtain ⟨h0,hq,hz⟩:=roots_mem.mp (show r0 ∈ rootsZ q f by rw [er]; simp)
    have el:((q:Int) - r0) % q=-r0 % q:=by
      have:(q:Int) - r0=-r0 + q:=by (clear hz hq h0 er hN cr s1 rt nf l3' l3 h25 lf sf hpq hp; (first|lia|omega))
      rw [this,Int.add_emod_right]
    refine hN (.inr ⟨[-r0 % (q:Int),1],?_,Sm.lin h25.1 r0,by simp,by simp; (clear el hz hq h0 er hN cr s1 rt nf l3' h25 lf sf hpq hp; (first|lia|omega)),?_⟩)
    · unfold R.m_part_of R.g_part_of
      rw [startN_2]
      show okM (fin (dSeq _ (dSeq _ _) _))=_
      rw [rep_3,s1,er]
      have e2:D.tup [D.int (-r0 % (q:Int)),D.int 1]=tupZ [-r0 % (q:Int),1]:=rfl
      have a0:atI (List.map D.int (r0 :: rs)) 0=some (.int r0):=by rw [atI_nat' (by (clear e2 el hz hq h0 er hN cr s1 rt nf l3' l3 h25 lf sf hpq hp; (first|lia|omega)))]; rfl
      rw [← e2,← el]
      exact S_root f (r0 :: rs) r0 q (by (clear a0 e2 el hz hq h0 er hN cr s1 rt nf l3' l3 lf sf hpq hp; (first|lia|omega))) a0 (by simp)
    · obtain ⟨r,Q,a1,a2,a3,a4,a5,a6⟩:=E_l_rest hp hpq f [-r0 % (q:Int),1] sf (Sm.lin h25.1 r0) (by simp) (by (clear el hz hq h0 er hN cr s1 rt nf l3' l3 h25 sf hpq hp; (first|lia|omega))) (by simp)
      have:=(root_iff hp hpq r0 a1 (by simpa using a2) ⟨_,a4⟩ a5).mpr hz
      subst this
      rw [ser_nil] at a5
      exact ⟨Q,⟨_,a4⟩,by rw [a5]; grind⟩
  have cr:rootsZ q f=[]:=Classical.byContradiction cr
  rw [cr] at s1
  obtain ⟨s,b1,b2,b3,b4⟩:=E_slope (q:=q) (by (clear s1 rt nf l3' l3 lf sf hpq hp; (first|lia|omega))) h25.2 f sf.1 (by (clear s1 rt nf l3' l3 h25 sf hpq hp; (first|lia|omega)))
  by_cases cs:s=[]
  · right
    subst cs
    rw [ser_nil] at b3
    refine ⟨pickS f q,?_,step_power hp hpq f sf (by (clear b4 b3 b2 b1 s1 rt nf l3' h25 lf sf hpq hp; (first|lia|omega))) b3.symm⟩
    unfold R.m_part_of R.g_part_of
    rw [startN_2]
    show okM (fin (dSeq _ (dSeq _ _) _))=_
    rw [rep_3,s1]
    exact S_step f q (by (clear b4 b3 b2 b1 s1 rt nf l3' l3 lf sf hpq hp; (first|lia|omega))) (by (clear b4 b3 b2 b1 s1 rt nf l3' l3 lf sf hpq hp; (first|lia|omega))) b4
  obtain ⟨g,x,y,sg,sx,sy,lg,lx,ly,eg,⟨u,pu,eu⟩,⟨v,pv,ev⟩,hw,hz,run⟩:=E_common hp hpq f s sf b1 (by (clear cs b4 b3 b2 b1 s1 rt nf l3' l3 h25 sf hpq hp; (first|lia|omega))) (by (clear cs b4 b3 b1 s1 rt nf l3' l3 h25 sf hpq hp; (first|lia|omega)))
  have ng:g ≠ []:=by
    rintro rfl
    rw [ser_nil] at eu
    exact nf (sf.nil_of (by rw [eu]; grind))
  have gl:=dvd_len (nzd hp hpq) b1 sg cs ng pv ev
  have s2:∀ R',(dSeq (dIf (dtB (dBin cGt (dUn uLen (dVar 2)) (dC (.int 0)))) (dRet (dTup (dCons (dBin (opC2 okMod fun i j=>i % j) (dBin (opI2 fun i j=>i - j) (dVar 1) (dBin opIx (dVar 2) (dC (.int 0)))) (dVar 1)) (dCons (dC (.int 1)) dNil)))) dNext)
    (dSeq (dSet 3 (dCall 2 R.m_slope (dCons (dVar 0) (dCons (dVar 1) dNil))))
    (dSeq (dIf (dtB (dBin cEq (dUn uLen (dVar 3)) (dC (.int 0)))) (dRet (dBin opStep (dVar 0) (dVar 1))) dNext)
    (dSeq (dSet 4 (dBin opIx (dCall 3 R.m_common (dCons (dVar 0) (dCons (dVar 3) (dCons (dVar 1) dNil)))) (dC (.int 0)))) R')))) [some (Slot.val (tupZ f)),some (Slot.val (D.int q)),some (Slot.val (tupZ ([]))),none,none]=R' [some (Slot.val (tupZ f)),some (Slot.val (D.int q)),some (Slot.val (tupZ ([]))),some (Slot.val (tupZ s)),some (Slot.val (tupZ g))]:=fun R'=>by
    rw [seq_next (S':=[some (Slot.val (tupZ f)),some (Slot.val (D.int q)),some (Slot.val (tupZ ([]))),none,none]) (by simp)]
    rw [seq_next (S':=[some (Slot.val (tupZ f)),some (Slot.val (D.int q)),some (Slot.val (tupZ ([]))),some (Slot.val (tupZ s)),none]) (by simp [b4])]
    rw [seq_next (S':=[some (Slot.val (tupZ f)),some (Slot.val (D.int q)),some (Slot.val (tupZ ([]))),some (Slot.val (tupZ s)),none]) (by simp [cs])]
    rw [seq_next (S':=[some (Slot.val (tupZ f)),some (Slot.val (D.int q)),some (Slot.val (tupZ ([]))),some (Slot.val (tupZ s)),some (Slot.val (tupZ g))]) (by simp [run])]
  by_cases c1:1 < g.length
  · right
    have c1':(1:Int) < g.length:=by (clear s2 gl ng run hz hw ev pv eu pu eg ly lx lg sy sx sg cs b4 b3 b2 b1 s1 rt nf l3' l3 h25 lf sf hpq hp; (first|lia|omega))
    refine ⟨g,?_,sg,by (clear c1' s2 gl ng run hz hw ev pv eu pu eg ly lx lg sy sx sg cs b4 b3 b2 b1 s1 rt nf l3' l3 h25 lf sf hpq hp; (first|lia|omega)),by (clear c1' c1 s2 ng run hz hw ev pv eu pu eg ly lx lg sy sx sg cs b4 b3 b1 s1 rt nf l3' h25 lf sf hpq hp; (first|lia|omega)),u,pu,eu⟩
    unfold R.m_part_of R.g_part_of
    rw [startN_2]
    show okM (fin (dSeq _ (dSeq _ _) _))=_
    rw [rep_3,s1,s2]
    simp [c1']
  · have c1':¬ (1:Int) < g.length:=by (clear s2 gl ng run hz hw ev pv eu pu eg ly lx lg sy sx sg cs b4 b3 b2 b1 s1 rt nf l3' l3 h25 lf sf hpq hp; (first|lia|omega))
    have g0:=List.length_pos_iff.mpr ng
    have g1:g=[1]:=by
      match g,g0,c1,hw ng with
      | [t],_,_,e=>
        have:t=1:=by simpa [co] using e
        rw [this]
      | _ :: _ :: _,_,c,_=>exact absurd (by simp) c
    have cop:1=ser q x * ser q f + ser q y * dv (ser q f):=by rw [← b3,← eg,g1,ser_one]
    have fin_:∀ d,R.m_part_by_steady [tupZ f,.int q]=some (.ok d)→R.m_part_of [tupZ f,.int q]=some (.ok d):=fun d hd=>by
      unfold R.m_part_of R.g_part_of
      rw [startN_2]
      show okM (fin (dSeq _ (dSeq _ _) _))=_
      rw [rep_3,s1,s2]
      simp [c1',hd]
    rcases E_steady_part hp hpq f sf (by (clear fin_ cop g1 g0 c1' c1 s2 gl ng run hz hw ev pv eu pu eg ly lx lg sy sx sg cs b4 b3 b2 b1 s1 rt nf l3' h25 lf sf hpq hp; (first|lia|omega))) lf (Pl.ser x) (Pl.ser y) cop with ⟨h1,h2⟩ | ⟨g',h1,h2⟩
    · exact .inl ⟨fin_ _ h1,h2⟩
    · exact .inr ⟨g',fin_ _ h1,h2⟩
theorem E_is_prime {p:Int} (hp:Clock p) (hpq:p=q) (f:List Int) (lf:f.length ≤ 15) {d:D} {b:Bool} (h:R.m_part_of [tupZ f,.int q]=some (.ok d)) (hb:uIsN d=some (.bl b)):R.m_is_prime [tupZ f,.int q]=some (.ok (.bl (decide (1 < f.length) && b))):=by
  unfold R.m_is_prime R.g_is_prime
  by_cases c:1 < f.length
  · have c':(1:Int) < f.length:=by (clear hb h lf hpq hp; (first|lia|omega))
    simp [c,c',h,hb]
  · have c':¬ (1:Int) < f.length:=by (clear hb h lf hpq hp; (first|lia|omega))
    simp [c,c']
theorem E_split {p:Int} (hp:Clock p) (hpq:p=q) (f:List Int) (sf:Sm q f) (lf:f.length ≤ 15) :
    (R.m_split [tupZ f,.int q]=some (.ok .non)∧R.m_is_prime [tupZ f,.int q]=some (.ok (.bl (decide (1 < f.length))))∧NoPart_ q f)∨
    ∃ g m,R.m_split [tupZ f,.int q]=some (.ok (.tup [tupZ g,tupZ m]))∧R.m_is_prime [tupZ f,.int q]=some (.ok (.bl false))∧Sm q g∧Sm q m∧2 ≤ g.length∧2 ≤ m.length∧g.length ≤ 15∧m.length ≤ 15∧ser q f=ser q g * ser q m:=by
  rcases E_part_of hp hpq f sf lf with ⟨h1,h2⟩ | ⟨g,h1,sg,l2,lg,u,pu,eu⟩
  · left
    have ip:=E_is_prime hp hpq f lf h1 (b:=true) rfl
    rw [Bool.and_true] at ip
    refine ⟨?_,ip,h2⟩
    unfold R.m_split R.g_split
    simp [h1]
  · right
    have ip:=E_is_prime hp hpq f lf h1 (b:=false) rfl
    rw [Bool.and_false] at ip
    have ng:g ≠ []:=by rintro rfl; simp at l2
    have nf:f ≠ []:=by rintro rfl; simp at lg
    obtain ⟨m,r,m1,m2,m3,m4,m5,m6⟩:=E_parted hp hpq f g sf.1 sg ng (by (clear nf ng ip eu pu lg l2 sg h1 sf hpq hp; (first|lia|omega))) (by (clear nf ng ip eu pu l2 sg h1 sf hpq hp; (first|lia|omega)))
    have dv:=div_uniq (nzd hp hpq) sg ng (Pl.ser m) pu ((ser_bd r).mono (by (clear m6 m5 m3 m2 m1 nf ng ip eu pu lg l2 sg h1 lf sf hpq hp; (first|lia|omega)))) (Bd.zero _) (show ser q m * ser q g + ser q r=u * ser q g + 0 by rw [← m5,eu]; grind)
    have e:ser q f=ser q g * ser q m:=by rw [m5,dv.2]; grind
    have nm:m ≠ []:=by
      rintro rfl
      rw [ser_nil] at e
      exact nf (sf.nil_of (by rw [e]; grind))
    have ml:=mul_len (nzd hp hpq) sg m1 sf ng nm e
    refine ⟨g,m,?_,ip,sg,m1,l2,by (clear nm e dv m6 m5 m4 m3 m2 m1 nf ng ip eu pu l2 sg h1 lf sf hpq hp; (first|lia|omega)),by (clear ml nm e dv m6 m5 m4 m3 m2 m1 nf ng ip eu pu l2 sg h1 sf hpq hp; (first|lia|omega)),by (clear ml nm e dv m6 m5 m4 m2 m1 nf ng ip eu pu lg l2 sg h1 sf hpq hp; (first|lia|omega)),e⟩
    unfold R.m_split R.g_split
    simp [h1,m6]
end
end PF
set_option Elab.async false
set_option linter.all false
set_option maxRecDepth 100000
set_option maxHeartbeats 4000000
namespace PF
open PySem L2 PA
noncomputable def getWs:List D→Option (List (List Int))
  | []=>some []
  | .tup l :: r=>(match asIntsD l with
    | some z=>(getWs r).map (z :: ·)
    | none=>none)
  | _ :: _=>none
theorem getWs_of:∀ {l:List D} {z:List (List Int)},getWs l=some z→l=z.map tupZ
  | [],z,e=>by
    have e':=Option.some.inj e
    subst e'; rfl
  | .tup l :: r,z,e=>by
    have e2:(match asIntsD l with | some z=>(getWs r).map (z :: ·) | none=>none)=some z:=e
    cases w:asIntsD l with
    | none=>rw [w] at e2; cases e2
    | some x=>
      rw [w] at e2
      cases w2:getWs r with
      | none=>rw [w2] at e2; cases e2
      | some y=>
        rw [w2] at e2
        have e':=Option.some.inj e2
        subst e'
        rw [asIntsD_of w,getWs_of w2]; rfl
  | .non :: _,_,e=>by cases e
  | .str _ :: _,_,e=>by cases e
  | .bl _ :: _,_,e=>by cases e
  | .int _ :: _,_,e=>by cases e
  | .lst _ :: _,_,e=>by cases e
  | .scr _ :: _,_,e=>by cases e
  | .dic _ _ :: _,_,e=>by cases e
noncomputable def wchk (q d:Nat):Bool:=match R.m_l_wholes [.int (d:Int),.int (q:Int)] with
  | some (.ok (.lst l))=>(match getWs l with
    | some W=>decide (W.length ≤ 1000) && W.all fun w=>w.all (fun x=>decide (0 ≤ x) && decide (x < (q:Int))) && (w.getLast? == some 1) && (w.length == d + 1)
    | none=>false)
  | _=>false
theorem wchk2:∀ d,1 ≤ d→d ≤ 4→wchk 2 d=true:=by
  intro d h1 h2
  have:d=1∨d=2∨d=3∨d=4:=by (first|lia|omega)
  rcases this with rfl | rfl | rfl | rfl <;> decide +kernel
theorem wchk3:∀ d,1 ≤ d→d ≤ 3→wchk 3 d=true:=by
  intro d h1 h2
  have:d=1∨d=2∨d=3:=by (first|lia|omega)
  rcases this with rfl | rfl | rfl <;> decide +kernel
theorem wchk5:∀ d,1 ≤ d→d ≤ 2→wchk 5 d=true:=by
  intro d h1 h2
  have:d=1∨d=2:=by (first|lia|omega)
  rcases this with rfl | rfl <;> decide +kernel
theorem cNe_Zs:cNe (.lst []) (.lst [])=some (.bl false):=by
  have:=cNe_lst_nil [] (by simp [deps])
  simpa using this
theorem S_len (f:List Int) (d z:Int) (W:List (List Int)) (hW:R.m_l_wholes [.int d,.int z]=some (.ok (.lst (W.map tupZ)))) (lW:W.length ≤ 1000) (hr:∀ w ∈ W,∃ r,r ≠ []∧R.m_l_rest [tupZ f,tupZ w,.int z]=some (.ok (tupZ r))) :
    R.b_l_is_prime_1 R.m_l_wholes R.m_l_rest [some (Slot.val (tupZ f)),some (Slot.val (D.int z)),some (Slot.val (D.int d))]=some (.next [some (Slot.val (tupZ f)),some (Slot.val (D.int z)),some (Slot.val (D.int d))]):=by
  have e:=compD_filter (set:=sName 0) (t:=dtB (dBin cEq (dCall 3 R.m_l_rest (dCons (dVar 1) (dCons (dVar 0) (dCons (dVar 2) dNil)))) (dTup dNil))) (fe:=dVar 0) (γ:=List Int) tupZ tupZ (fun _=>false) (fun o=>[o,some (Slot.val (tupZ f)),some (Slot.val (D.int z))]) W none
    (fun a o _=>rfl) (fun w hw=>by
      obtain ⟨r,nr,hr⟩:=hr w hw
      simp [hr,tupZ_nil,nr]) (fun a _=>rfl)
  have e2:W.filter (fun _=>false)=[]:=List.filter_eq_nil_iff.mpr (by simp)
  rw [e2,List.map_nil] at e
  have lW':(W.map tupZ).length ≤ 100000:=by rw [List.length_map]; (clear e2 e hr hW; (first|lia|omega))
  unfold R.b_l_is_prime_1
  generalize W.map tupZ=A at hW e lW'
  simp [hW,e,lW',cNe_Zs]
section
variable {q:Nat} [NeZero q]
theorem E_l_is_prime {p:Int} (hp:Clock p) (hpq:p=q) (f:List Int) (sf:Sm q f) (l2:2 ≤ f.length) (lf:f.length ≤ 15) (h:NoPart_ q f) (hw:∀ d,1 ≤ d→d ≤ (f.length - 1) / 2→wchk q d=true):R.m_l_is_prime [tupZ f,.int q]=some (.ok (.bl true)):=by
  have h25:=one_le_of hp hpq
  have l2':¬ (f.length:Int) < 2:=by (clear h25 hw h lf sf hpq hp; (first|lia|omega))
  obtain ⟨S',e,hS⟩:=loopD_inv0 (set:=sName 2) (g:=R.b_l_is_prime_1 R.m_l_wholes R.m_l_rest) (fun k S=>∃ v,S=[some (Slot.val (tupZ f)),some (Slot.val (D.int q)),v]) (l:=rangeD 1 (((f.length:Int) - 1) / 2 + 1)) (S:=[some (Slot.val (tupZ f)),some (Slot.val (D.int q)),none]) ⟨none,rfl⟩ (fun k d S hk ⟨v,hS⟩=>by
    obtain ⟨rfl,hk2⟩:=rangeD_get hk
    subst hS
    obtain ⟨i,hi⟩:∃ i:Nat,i=k + 1:=⟨_,rfl⟩
    have ei:(1:Int) + (k:Int)=(i:Int):=by (clear hk hk2 l2' h25 hw h lf l2 sf hpq hp; (first|lia|omega))
    rw [ei]
    have hc:=hw i (by (clear ei hk hk2 l2' h25 hw h lf l2 sf hpq hp; (first|lia|omega))) (by (clear ei hk l2' h25 hw h lf l2 sf hpq hp; (first|lia|omega)))
    unfold wchk at hc
    cases z:R.m_l_wholes [.int (i:Int),.int (q:Int)] with
    | none=>rw [z] at hc; cases hc
    | some y=>
      rw [z] at hc
      cases y with
      | error c=>cases hc
      | ok y=>
        cases y <;> first | (cases hc; done) | skip
        rename_i l
        simp only at hc
        cases z2:getWs l with
        | none=>rw [z2] at hc; cases hc
        | some W=>
          rw [z2] at hc
          simp only [Bool.and_eq_true,decide_eq_true_eq] at hc
          obtain ⟨lW,hall⟩:=hc
          have el:=getWs_of z2
          subst el
          refine ⟨_,_,rfl,S_len f i q W z lW fun w hw=>?_,_,rfl⟩
          have hw1:=List.all_eq_true.mp hall w hw
          simp only [Bool.and_eq_true,beq_iff_eq] at hw1
          obtain ⟨⟨w1,w2⟩,w3⟩:=hw1
          have sw:Sm q w:=by
            refine ⟨fun x hx=>?_,?_⟩
            · have:=List.all_eq_true.mp w1 x hx
              simp at this
              exact this
            · unfold Top; rw [w2]; simp
          have nw:w ≠ []:=by rintro rfl; simp at w3
          obtain ⟨r,Q,a1,a2,a3,a4,a5,a6⟩:=E_l_rest hp hpq f w sf sw nw (by (clear nw sw w2 w1 w3 z2 z hall lW ei hi hk hk2 l2' h25 h l2 sf hpq hp; (first|lia|omega))) (by (clear nw sw w2 w1 z2 z hall lW ei hk l2' h25 h l2 sf hpq hp; (first|lia|omega)))
          refine ⟨r,fun er=>?_,a6⟩
          subst er
          rw [ser_nil] at a5
          exact h w ⟨sw,by (clear a6 a5 a3 a2 a1 a4 nw sw w2 w1 z2 z hall lW ei hk hk2 l2' h25 h lf l2 sf hpq hp; (first|lia|omega)),by (clear a6 a5 a3 a2 a1 a4 nw sw w2 w1 z2 z hall lW ei hk l2' h25 h lf l2 sf hpq hp; (first|lia|omega)),Q,⟨_,a4⟩,by rw [a5]; grind⟩)
  unfold R.m_l_is_prime R.g_l_is_prime
  rw [startN_2,seq_next (S':=[some (Slot.val (tupZ f)),some (Slot.val (D.int q)),none]) (by simp [l2'])]
  have hfor:dFor (dRange2 (dCons (dC (.int 1)) (dCons (dBin opAdd (dBin (opC2 okDiv fun i j=>i / j) (dBin (opI2 fun i j=>i - j) (dUn uLen (dVar 0)) (dC (.int 1))) (dC (.int 2))) (dC (.int 1))) dNil))) (sName 2) (R.b_l_is_prime_1 R.m_l_wholes R.m_l_rest) [some (Slot.val (tupZ f)),some (Slot.val (D.int q)),none]=some (.next S'):=by
    rw [dFor_e]
    have:dRange2 (dCons (dC (.int 1)) (dCons (dBin opAdd (dBin (opC2 okDiv fun i j=>i / j) (dBin (opI2 fun i j=>i - j) (dUn uLen (dVar 0)) (dC (.int 1))) (dC (.int 2))) (dC (.int 1))) dNil)) [some (Slot.val (tupZ f)),some (Slot.val (D.int q)),none]=some (.ok (rangeD 1 (((f.length:Int) - 1) / 2 + 1))):=by
      simp; (clear hS e l2' h25 hw h l2 sf hpq hp; (first|lia|omega))
    rw [this]
    exact e
  rw [seq_next hfor]
  rfl
end
end PF
namespace K21
open PySem L2 PF PA
theorem tail {q:Nat} [NeZero q] {p:Int} (hp:Clock p) (hpq:p=q) (f:List Int) (sf:Sm q f) (lf:f.length ≤ 9) (hw:∀ d,1 ≤ d→d ≤ (f.length - 1) / 2→wchk q d=true) (ns:List Int) (v2 v4 v5:Option Slot) :
    okM (fin ((dSeq (dSet 6 (dCall 2 R.m_split (dCons (dVar 3) (dCons (dVar 1) dNil))))
    (dSeq (dSet 7 (dCall 2 R.m_is_prime (dCons (dVar 3) (dCons (dVar 1) dNil))))
    (dSeq (dIf (dOr (dNot (dtB (dUn (uIsiT "bool") (dVar 7)))) (dtB (dBin cNe (dVar 7) (dAndV (dBin cGt (dUn uLen (dVar 3)) (dC (.int 1))) (dUn uIsN (dVar 6)))))) (dRet (dC (.bl false))) dNext)
    (dSeq (dIf (dtB (dUn uIsN (dVar 6))) (dRet (dOrV (dBin cLt (dUn uLen (dVar 3)) (dC (.int 2))) (dCall 2 R.m_l_is_prime (dCons (dVar 3) (dCons (dVar 1) dNil))))) dNext)
    (dSeq (dIf (dOr (dNot (dtB (dUn (uIsiT "tuple") (dVar 6)))) (dtB (dBin cNe (dUn uLen (dVar 6)) (dC (.int 2))))) (dRet (dC (.bl false))) dNext)
    (dSeq (dIf (dtB (dBin cNe (dOf (dComp 1 [1] (dIter (dVar 6)) (sName 0) (dOr (dNot (dtB (dCall 2 R.m_l_is_long_sum (dCons (dVar 0) (dCons (dVar 1) dNil))))) (dtB (dBin cLt (dUn uLen (dVar 0)) (dC (.int 2))))) (dVar 0))) (dOf (dLst dNil)))) (dRet (dC (.bl false))) dNext)
    (dRet (dBin cEq (dCall 3 R.m_l_times (dCons (dBin opIx (dVar 6) (dC (.int 0))) (dCons (dBin opIx (dVar 6) (dC (.int 1))) (dCons (dVar 1) dNil)))) (dVar 3))))))))) [some (Slot.val ((D.scr ns))),some (Slot.val (D.int q)),v2,some (Slot.val (tupZ f)),v4,v5,none,none]))=some (.ok (.bl true)):=by
  have h25:=one_le_of hp hpq
  refine Classical.byContradiction fun hN=>?_
  rcases E_split hp hpq f sf (by (clear hN h25 hw sf hpq hp; (first|lia|omega))) with ⟨h1,h2,h3⟩ | ⟨g,m,h1,h2,sg,sm,lg,lm,lg2,lm2,e⟩
  · refine hN ?_
    rw [seq_next (S':=[some (Slot.val ((D.scr ns))),some (Slot.val (D.int q)),v2,some (Slot.val (tupZ f)),v4,v5,some (Slot.val D.non),none]) (by simp [h1])]
    rw [seq_next (S':=[some (Slot.val ((D.scr ns))),some (Slot.val (D.int q)),v2,some (Slot.val (tupZ f)),v4,v5,some (Slot.val D.non),some (Slot.val ((D.bl (decide (1 < f.length)))))]) (by simp [h2])]
    by_cases c:1 < f.length
    · have c':(1:Int) < f.length:=by (clear h3 h2 h1 hN h25 hw lf sf hpq hp; (first|lia|omega))
      have c2:¬ (f.length:Int) < 2:=by (clear c' h3 h2 h1 hN h25 hw lf sf hpq hp; (first|lia|omega))
      have ip:=E_l_is_prime hp hpq f sf (by (clear c2 c' h3 h2 h1 hN h25 hw lf sf hpq hp; (first|lia|omega))) (by (clear c2 c' c h3 h2 h1 hN h25 hw sf hpq hp; (first|lia|omega))) h3 hw
      rw [seq_next (S':=[some (Slot.val ((D.scr ns))),some (Slot.val (D.int q)),v2,some (Slot.val (tupZ f)),v4,v5,some (Slot.val D.non),some (Slot.val ((D.bl (decide (1 < f.length)))))]) (by simp [c,c'])]
      simp [c2,ip]
    · have c':¬ (1:Int) < f.length:=by (clear h3 h2 h1 hN h25 hw lf sf hpq hp; (first|lia|omega))
      have c2:(f.length:Int) < 2:=by (clear c' h3 h2 h1 hN h25 hw lf sf hpq hp; (first|lia|omega))
      rw [seq_next (S':=[some (Slot.val ((D.scr ns))),some (Slot.val (D.int q)),v2,some (Slot.val (tupZ f)),v4,v5,some (Slot.val D.non),some (Slot.val ((D.bl (decide (1 < f.length)))))]) (by simp [c,c'])]
      simp [c2]
  · have isg:=E_longZ sg (by (clear e lm2 lm lg sm sg h2 h1 hN h25 hw lf sf hpq hp; (first|lia|omega)))
    have ism:=E_longZ sm (by (clear isg e lg2 lm lg sm sg h2 h1 hN h25 hw lf sf hpq hp; (first|lia|omega)))
    have g2:¬ (g.length:Int) < 2:=by (clear ism isg e lm2 lg2 lm sm sg h2 h1 hN h25 hw lf sf hpq hp; (first|lia|omega))
    have m2:¬ (m.length:Int) < 2:=by (clear g2 ism isg e lm2 lg2 lg sm sg h2 h1 hN h25 hw lf sf hpq hp; (first|lia|omega))
    obtain ⟨t,t1,t2,t3,t4⟩:=E_l_times (q:=q) (by (clear m2 g2 ism isg e lm2 lg2 lm lg sm sg h2 h1 hN hw lf sf hpq hp; (first|lia|omega))) h25.2 g m sg.1 (by (clear m2 g2 ism isg e lm2 lm lg sm sg h2 h1 hN h25 hw lf sf hpq hp; (first|lia|omega))) (by (clear m2 g2 ism isg e lg2 lm lg sm sg h2 h1 hN h25 hw lf sf hpq hp; (first|lia|omega)))
    refine hN ?_
    clear hN
    have et:t=f:=ser_inj t1 sf (by rw [t3,e])
    subst et
    have nn:uIsN (D.tup [tupZ g,tupZ m])=some (.bl false):=rfl
    rw [seq_next (S':=[some (Slot.val ((D.scr ns))),some (Slot.val (D.int q)),v2,some (Slot.val (tupZ t)),v4,v5,some (Slot.val ((D.tup [tupZ g,tupZ m]))),none]) (by simp [h1])]
    rw [seq_next (S':=[some (Slot.val ((D.scr ns))),some (Slot.val (D.int q)),v2,some (Slot.val (tupZ t)),v4,v5,some (Slot.val ((D.tup [tupZ g,tupZ m]))),some (Slot.val ((D.bl false)))]) (by simp [h2])]
    rw [seq_next (S':=[some (Slot.val ((D.scr ns))),some (Slot.val (D.int q)),v2,some (Slot.val (tupZ t)),v4,v5,some (Slot.val ((D.tup [tupZ g,tupZ m]))),some (Slot.val ((D.bl false)))]) (by
      by_cases c:1 < t.length
      · have c':(1:Int) < t.length:=by (clear nn e h2 h1 hw lf sf t4 t3 t2 t1 m2 g2 ism isg lm2 lg2 lm lg sm sg h25 hpq hp; (first|lia|omega))
        simp [c',nn]
      · have c':¬ (1:Int) < t.length:=by (clear nn e h2 h1 hw lf sf t4 t3 t2 t1 m2 g2 ism isg lm2 lg2 lm lg sm sg h25 hpq hp; (first|lia|omega))
        simp [c'])]
    rw [seq_next (S':=[some (Slot.val ((D.scr ns))),some (Slot.val (D.int q)),v2,some (Slot.val (tupZ t)),v4,v5,some (Slot.val ((D.tup [tupZ g,tupZ m]))),some (Slot.val ((D.bl false)))]) (by simp)]
    rw [seq_next (S':=[some (Slot.val ((D.scr ns))),some (Slot.val (D.int q)),v2,some (Slot.val (tupZ t)),v4,v5,some (Slot.val ((D.tup [tupZ g,tupZ m]))),some (Slot.val ((D.bl false)))]) (by simp)]
    rw [seq_next (S':=[some (Slot.val ((D.scr ns))),some (Slot.val (D.int q)),v2,some (Slot.val (tupZ t)),v4,v5,some (Slot.val ((D.tup [tupZ g,tupZ m]))),some (Slot.val ((D.bl false)))]) (by
      simp [compD,isg,ism,g2,m2,cNe_Zs])]
    simp [t4]
theorem S_prod (ns:List Int) (z most half:Int) (f a b t:List Int) (c:mixedZ ns 2 % 2=1) (h5:True) (e2:R.m_l_mixed [.scr ns,.int 2]=some (.ok (.int (mixedZ ns 2)))) (e3:R.m_l_mixed [.scr ns,.int 3]=some (.ok (.int (mixedZ ns 3)))) (e4:R.m_l_mixed [.scr ns,.int 4]=some (.ok (.int (mixedZ ns 4)))) (hh:most / 2=half)
    (ea:R.m_l_sum [.int (mixedZ ns 3),.int z,.int half]=some (.ok (tupZ a))) (eb:R.m_l_sum [.int (mixedZ ns 4),.int z,.int half]=some (.ok (tupZ b))) (t4:R.m_l_times [tupZ a,tupZ b,.int z]=some (.ok (tupZ t))) :
    (dIf (dtB (dBin cEq (dBin (opC2 okMod fun i j=>i % j) (dCall 2 R.m_l_mixed (dCons (dVar 0) (dCons (dC (.int 2)) dNil))) (dC (.int 2))) (dC (.int 1)))) (dSeq (dSet 4 (dCall 3 R.m_l_sum (dCons (dCall 2 R.m_l_mixed (dCons (dVar 0) (dCons (dC (.int 3)) dNil))) (dCons (dVar 1) (dCons (dBin (opC2 okDiv fun i j=>i / j) (dVar 2) (dC (.int 2))) dNil)))))
    (dSeq (dSet 5 (dCall 3 R.m_l_sum (dCons (dCall 2 R.m_l_mixed (dCons (dVar 0) (dCons (dC (.int 4)) dNil))) (dCons (dVar 1) (dCons (dBin (opC2 okDiv fun i j=>i / j) (dVar 2) (dC (.int 2))) dNil)))))
    (dSet 3 (dCall 3 R.m_l_times (dCons (dVar 4) (dCons (dVar 5) (dCons (dVar 1) dNil))))))) dNext) [some (Slot.val ((D.scr ns))),some (Slot.val (D.int z)),some (Slot.val (D.int most)),some (Slot.val (tupZ f)),none,none,none,none]=some (.next [some (Slot.val ((D.scr ns))),some (Slot.val (D.int z)),some (Slot.val (D.int most)),some (Slot.val (tupZ t)),some (Slot.val (tupZ a)),some (Slot.val (tupZ b)),none,none]):=by
  simp [e2,e3,e4,c,hh,ea,eb,t4]
theorem law_holds:∀ ns:List Int,ns.length ≤ 63→R.m_law_k21 [.scr ns]=some (.ok (.bl true)):=fun ns _=>by
  obtain ⟨p,hp,ep⟩:=size_of ns
  obtain ⟨most,hmost,h9,m0,hwk⟩:∃ most:Nat,opGet (.dic [.inl 2,.inl 3,.inl 5] [.int 9,.int 7,.int 6]) (.int p)=some (.int (most:Int))∧most ≤ 9∧6 ≤ most∧∀ q:Nat,p=q→∀ d,1 ≤ d→d ≤ (most - 1) / 2→wchk q d=true:=by
    rcases hp with rfl | rfl | rfl
    · exact ⟨9,rfl,by decide,by decide,fun q hq d d1 d2=>by
        obtain rfl:q=2:=by (clear d2 d1 ep; (first|lia|omega))
        exact wchk2 d d1 (by (clear hq d1 ep; (first|lia|omega)))⟩
    · exact ⟨7,rfl,by decide,by decide,fun q hq d d1 d2=>by
        obtain rfl:q=3:=by (clear d2 d1 ep; (first|lia|omega))
        exact wchk3 d d1 (by (clear hq d1 ep; (first|lia|omega)))⟩
    · exact ⟨6,rfl,by decide,by decide,fun q hq d d1 d2=>by
        obtain rfl:q=5:=by (clear d2 d1 ep; (first|lia|omega))
        exact wchk5 d d1 (by (clear hq d1 ep; (first|lia|omega)))⟩
  obtain ⟨q,hpq,h2,h5⟩:=clock_nat hp
  haveI:NeZero q:=⟨by (clear h5 hpq hwk m0 h9 hmost ep hp; (first|lia|omega))⟩
  have hw:=hwk q hpq
  subst hpq
  have e1:R.m_l_mixed [.scr ns,.int 1]=some (.ok (.int (mixedZ ns 1))):=E_mixed ns 1 (by decide) 1 rfl
  have e2:R.m_l_mixed [.scr ns,.int 2]=some (.ok (.int (mixedZ ns 2))):=E_mixed ns 2 (by decide) 2 rfl
  have e3:R.m_l_mixed [.scr ns,.int 3]=some (.ok (.int (mixedZ ns 3))):=E_mixed ns 3 (by decide) 3 rfl
  have e4:R.m_l_mixed [.scr ns,.int 4]=some (.ok (.int (mixedZ ns 4))):=E_mixed ns 4 (by decide) 4 rfl
  obtain ⟨f,sf,lf,ef⟩:=E_sum hp (mixedZ ns 1) most (mixed_nn ns 1).1 (by (clear e4 e3 e2 e1 hwk hmost ep hp hw this h5 h2 m0 h9; (first|lia|omega))) (by (clear e4 e3 e2 e1 hwk hmost ep hp hw this h5 h2 m0; (first|lia|omega)))
  have lf':f.length ≤ most:=by have:=Int.emod_lt_of_pos (mixedZ ns 1) (show (0:Int) < (most:Int) + 1 by (clear ef lf sf e4 e3 e2 e1 hwk hmost ep hp hw this h5 h2 m0 h9; (first|lia|omega))); (clear ef sf e4 e3 e2 e1 hwk hmost ep hp hw h5 h2 m0 h9; (first|lia|omega))
  obtain ⟨half,hh⟩:∃ half:Nat,(most:Int) / 2=half:=⟨most / 2,by (clear lf' ef lf sf e4 e3 e2 e1 hwk hmost ep hp hw this h5 h2 m0 h9; (first|lia|omega))⟩
  obtain ⟨a,sa,la,ea⟩:=E_sum hp (mixedZ ns 3) half (mixed_nn ns 3).1 (by (clear hh lf' ef lf sf e4 e3 e2 e1 hwk hmost ep hp hw this h5 h2 m0 h9; (first|lia|omega))) (by (clear lf' ef lf sf e4 e3 e2 e1 hwk hmost ep hp hw this h5 h2 m0; (first|lia|omega)))
  obtain ⟨b,sb,lb,eb⟩:=E_sum hp (mixedZ ns 4) half (mixed_nn ns 4).1 (by (clear ea la sa hh lf' ef lf sf e4 e3 e2 e1 hwk hmost ep hp hw this h5 h2 m0 h9; (first|lia|omega))) (by (clear ea la sa lf' ef lf sf e4 e3 e2 e1 hwk hmost ep hp hw this h5 h2 m0; (first|lia|omega)))
  have la':a.length ≤ half:=by have:=Int.emod_lt_of_pos (mixedZ ns 3) (show (0:Int) < (half:Int) + 1 by (clear eb lb sb ea la sa hh lf' ef lf sf e4 e3 e2 e1 hwk hmost ep hp hw this h5 h2 m0 h9; (first|lia|omega))); (clear eb lb sb ea sa hh lf' ef lf sf e4 e3 e2 e1 hwk hmost ep hp hw h5 h2 m0 h9; (first|lia|omega))
  have lb':b.length ≤ half:=by have:=Int.emod_lt_of_pos (mixedZ ns 4) (show (0:Int) < (half:Int) + 1 by (clear la' eb lb sb ea la sa hh lf' ef lf sf e4 e3 e2 e1 hwk hmost ep hp hw this h5 h2 m0 h9; (first|lia|omega))); (clear la' eb sb ea la sa hh lf' ef lf sf e4 e3 e2 e1 hwk hmost ep hp hw h5 h2 m0 h9; (first|lia|omega))
  unfold R.m_law_k21 R.g_law_k21
  rw [startN_1,seq_next (S':=[some (Slot.val ((D.scr ns))),some (Slot.val (D.int q)),none,none,none,none,none,none]) (by rw [dSet_e,ep (by rfl)]; rfl)]
  rw [seq_next (S':=[some (Slot.val ((D.scr ns))),some (Slot.val (D.int q)),some (Slot.val (D.int most)),none,none,none,none,none]) (by
    rw [dSet_e,dBin_e]
    simp only [dC_e,dVar_e,List.getElem?_cons_succ,List.getElem?_cons_zero,mb_ok,toD_ok,hmost]
    rfl)]
  rw [seq_next (S':=[some (Slot.val ((D.scr ns))),some (Slot.val (D.int q)),some (Slot.val (D.int most)),some (Slot.val (tupZ f)),none,none,none,none]) (by simp [e1,ef])]
  by_cases c:mixedZ ns 2 % 2=1
  · obtain ⟨t,t1,t2,t3,t4⟩:=E_l_times (q:=q) (by (clear c lb' la' eb lb sb ea la sa hh lf' ef lf sf e4 e3 e2 e1 hwk hmost ep hp hw this h5 m0 h9; (first|lia|omega))) h5 a b sa.1 (by (clear c lb' eb lb sb ea la sa lf' ef lf sf e4 e3 e2 e1 hwk hmost ep hp hw this h5 h2 m0; (first|lia|omega))) (by (clear c la' eb lb sb ea la sa lf' ef lf sf e4 e3 e2 e1 hwk hmost ep hp hw this h5 h2 m0; (first|lia|omega)))
    have lt:t.length ≤ most:=by (clear t4 t3 t1 c eb lb sb ea la sa lf' ef lf sf e4 e3 e2 e1 hwk hmost ep hp hw this h5 h2 m0 h9; (first|lia|omega))
    rw [seq_next (S':=[some (Slot.val ((D.scr ns))),some (Slot.val (D.int q)),some (Slot.val (D.int most)),some (Slot.val (tupZ t)),some (Slot.val (tupZ a)),some (Slot.val (tupZ b)),none,none]) (S_prod ns q most half f a b t c trivial e2 e3 e4 hh ea eb t4)]
    exact tail hp rfl t t1 (by (clear lt t4 t3 t1 c eb lb sb ea la sa lf' ef lf sf e4 e3 e2 e1 hwk hmost ep hp hw this h5 h2 m0; (first|lia|omega))) (fun d d1 d2=>hw d d1 (by (clear d1 lt t4 t3 t1 c eb lb sb ea la sa lf' ef lf sf e4 e3 e2 e1 hwk hmost ep hp hw this h5 h2 m0 h9; (first|lia|omega)))) ns _ _ _
  · rw [seq_next (S':=[some (Slot.val ((D.scr ns))),some (Slot.val (D.int q)),some (Slot.val (D.int most)),some (Slot.val (tupZ f)),none,none,none,none]) (by simp [e2,c])]
    exact tail hp rfl f sf (by (clear c lb' la' eb lb sb ea la sa hh ef lf sf e4 e3 e2 e1 hwk hmost ep hp hw this h5 h2 m0; (first|lia|omega))) (fun d d1 d2=>hw d d1 (by (clear d1 c lb' la' eb lb sb ea la sa hh ef lf sf e4 e3 e2 e1 hwk hmost ep hp hw this h5 h2 m0 h9; (first|lia|omega)))) ns _ _ _
end K21
set_option Elab.async false
set_option linter.all false
set_option maxRecDepth 100000
set_option maxHeartbeats 4000000
namespace K21
open PySem L2 PF
noncomputable def top (i:Nat):Stmt:=PySem.Challenge.pw_primefold_k21_whole_split_or_prime.main.body.getD i (.Pass ⟨0,0,0,0⟩)
structure Tx (K:PySem.W.Frag) (mg:Str→Option Value):Prop where
  b_bool:mg "bool" = none
  b_enumerate:mg "enumerate" = none
  b_int:mg "int" = none
  b_isinstance:mg "isinstance" = none
  b_len:mg "len" = none
  b_list:mg "list" = none
  b_max:mg "max" = none
  b_range:mg "range" = none
  b_reversed:mg "reversed" = none
  b_tuple:mg "tuple" = none
  b_zip:mg "zip" = none
  g_ONE:∃ t,mg "ONE" = some (.ref t)∧∃ (o:Obj) (its:Array Value) (n:Nat),K.lookup t=some o∧o.cls=.type "tuple" ∧ o.data=.seq its n∧its.size ≤ sizeLine∧Vals (([1]:List Int).map V.int) its.toList
noncomputable abbrev s_trimmed:Stmt:=top 5
noncomputable abbrev n_trimmed:List Str:=["numbers", "count"]
noncomputable abbrev p_trimmed:List Str:=["numbers"]
theorem sc_trimmed:FnScope n_trimmed p_trimmed (defScope s_trimmed):=⟨rfl,rfl,rfl,by decide +kernel,rfl,by decide +kernel,by decide +kernel⟩
theorem ok_trimmed {P:Program} {w:World} {K:PySem.W.Frag} {mg:Str→Option Value} {base:Heap} {f:Addr} {fd:FuncData} {k:Nat} {m:List D→M D} (T:Tx K mg) (F:Fun K "trimmed" "trimmed" s_trimmed f fd)
    (hm:m=fun ds=>okM (fin (R.g_trimmed (startN 2 ds)))):FnOk P w K mg base CX0 (k + 1) f fd p_trimmed (spM K p_trimmed.length m):=
  Fun.d (g:=R.g_trimmed) F sc_trimmed (fun cdv A outer s H E hr F0 H0=>(dss_cons (ds_set 1 sc_trimmed.nd (de_len rfl T.b_len (de_var 0)))
    (dss_cons (ds_while 200 PassesOwn.never (dt_w (dw_and (dt_gt (de_var 1) de_int) (dw_and1 (dt_eq hr.units (de_ix (de_var 0) (de_sub (de_var 1) de_int) (fun _ _=>rfl)) de_int)))) (dss_one (ds_set 1 sc_trimmed.nd (de_sub (de_var 1) de_int))))
    (dss_one (ds_ret (de_tuple1 rfl T.b_tuple (de_slice (de_var 0) do_none (do_some (de_var 1))))))))) (okM_hg hm)
noncomputable abbrev s_lone_power:Stmt:=top 6
noncomputable abbrev n_lone_power:List Str:=["places"]
noncomputable abbrev p_lone_power:List Str:=["places"]
theorem sc_lone_power:FnScope n_lone_power p_lone_power (defScope s_lone_power):=⟨rfl,rfl,rfl,by decide +kernel,rfl,by decide +kernel,by decide +kernel⟩
theorem ok_lone_power {P:Program} {w:World} {K:PySem.W.Frag} {mg:Str→Option Value} {base:Heap} {f:Addr} {fd:FuncData} {k:Nat} {m:List D→M D} (T:Tx K mg) (F:Fun K "lone_power" "lone_power" s_lone_power f fd)
    (hm:m=fun ds=>okM (fin (R.g_lone_power (startN 1 ds)))):FnOk P w K mg base CX0 (k + 1) f fd p_lone_power (spM K p_lone_power.length m):=
  Fun.d (g:=R.g_lone_power) F sc_lone_power (fun cdv A outer s H E hr F0 H0=>(dss_one (ds_ret (de_add (de_mul (de_tup (da_cons de_int da_nil)) (de_var 0)) (de_globT (l:=[1]) rfl T.g_ONE))))) (okM_hg hm)
noncomputable abbrev s_scaled:Stmt:=top 7
noncomputable abbrev n_scaled:List Str:=["one", "number", "size"]
noncomputable abbrev p_scaled:List Str:=["one", "number", "size"]
theorem sc_scaled:FnScope n_scaled p_scaled (defScope s_scaled):=⟨rfl,rfl,rfl,by decide +kernel,rfl,by decide +kernel,by decide +kernel⟩
theorem ok_scaled {P:Program} {w:World} {K:PySem.W.Frag} {mg:Str→Option Value} {base:Heap} {f:Addr} {fd:FuncData} {k:Nat} {m_trimmed:List D→M D} {m:List D→M D} (T:Tx K mg) (F:Fun K "scaled" "scaled" s_scaled f fd) (F_trimmed:FnD P w K mg base CX0 k "trimmed" 1 m_trimmed)
    (hm:m=fun ds=>okM (fin (R.g_scaled m_trimmed (startN 3 ds)))):FnOk P w K mg base CX0 (k + 1) f fd p_scaled (spM K p_scaled.length m):=
  Fun.d (g:=R.g_scaled m_trimmed) F sc_scaled (fun cdv A outer s H E hr F0 H0=>(dss_one (ds_ret (de_call F_trimmed hr rfl pass0' (da_cons (de_of (df_comp 1 [2,1] ["part"] ["size", "number"] rfl rfl (by decide) (by decide) (free_by (by rfl)) rfl ⟨rfl,.inl rfl,by decide,.inl rfl,⟨rfl,.inl rfl,by decide,.inl rfl,trivial⟩⟩ (by decide) (di_seq (de_var 0)) (fun _ _ _ _ _ _=>(dg_name 0 (show (["part", "size", "number"]:List Str).Nodup by decide +kernel))) (fun _ _ _ _ _ _=>difs_nil) (fun _ _ _ _ _ _=>(de_mod (de_mul (de_var 2) (de_var 0)) (de_var 1))))) da_nil))))) (okM_hg hm)
noncomputable abbrev s_turned_number:Stmt:=top 8
noncomputable abbrev n_turned_number:List Str:=["number", "size"]
noncomputable abbrev p_turned_number:List Str:=["number", "size"]
theorem sc_turned_number:FnScope n_turned_number p_turned_number (defScope s_turned_number):=⟨rfl,rfl,rfl,by decide +kernel,rfl,by decide +kernel,by decide +kernel⟩
theorem ok_turned_number {P:Program} {w:World} {K:PySem.W.Frag} {mg:Str→Option Value} {base:Heap} {f:Addr} {fd:FuncData} {k:Nat} {m:List D→M D} (T:Tx K mg) (F:Fun K "turned_number" "turned_number" s_turned_number f fd)
    (hm:m=fun ds=>okM (fin (R.g_turned_number (startN 2 ds)))):FnOk P w K mg base CX0 (k + 1) f fd p_turned_number (spM K p_turned_number.length m):=
  Fun.d (g:=R.g_turned_number) F sc_turned_number (fun cdv A outer s H E hr F0 H0=>(dss_one (ds_ret (de_ix (de_of (df_comp 1 [1,0] ["other"] ["size", "number"] rfl rfl (by decide) (by decide) (free_by (by rfl)) rfl ⟨rfl,.inl rfl,by decide,.inl rfl,⟨rfl,.inl rfl,by decide,.inl rfl,trivial⟩⟩ (by decide) (di_range2 rfl T.b_range (da_cons de_int (da_cons (de_var 1) da_nil))) (fun _ _ _ _ _ _=>(dg_name 0 (show (["other", "size", "number"]:List Str).Nodup by decide +kernel))) (fun _ _ _ _ _ _=>(difs_one (dt_eq hr.units (de_mod (de_mul (de_var 2) (de_var 0)) (de_var 1)) de_int))) (fun _ _ _ _ _ _=>(de_var 0)))) de_int (fun _ _=>rfl))))) (okM_hg hm)
noncomputable abbrev s_plus:Stmt:=top 9
noncomputable abbrev n_plus:List Str:=["one", "other", "size", "numbers", "power", "number"]
noncomputable abbrev p_plus:List Str:=["one", "other", "size"]
theorem sc_plus:FnScope n_plus p_plus (defScope s_plus):=⟨rfl,rfl,rfl,by decide +kernel,rfl,by decide +kernel,by decide +kernel⟩
theorem ok_plus {P:Program} {w:World} {K:PySem.W.Frag} {mg:Str→Option Value} {base:Heap} {f:Addr} {fd:FuncData} {k:Nat} {m_trimmed:List D→M D} {m:List D→M D} (T:Tx K mg) (F:Fun K "plus" "plus" s_plus f fd) (F_trimmed:FnD P w K mg base CX0 k "trimmed" 1 m_trimmed)
    (hm:m=fun ds=>okM (fin (R.g_plus m_trimmed (startN 6 ds)))):FnOk P w K mg base CX0 (k + 1) f fd p_plus (spM K p_plus.length m):=
  Fun.d (g:=R.g_plus m_trimmed) F sc_plus (fun cdv A outer s H E hr F0 H0=>(dss_cons (ds_own 3 sc_plus.nd (df_mul (de_of (df_lst (da_cons de_int da_nil))) (de_max rfl T.b_max (de_len rfl T.b_len (de_var 0)) (de_len rfl T.b_len (de_var 1)))))
    (dss_cons (ds_for PassesOwn.never rfl (di_enum rfl T.b_enumerate (de_var 0)) (fun _=>(dg_tup rfl (dgs_cons 4 sc_plus.nd (dgs_cons 5 sc_plus.nd dgs_nil)))) (fun _=>(dss_one (ds_store 3 (de_var 4) (de_var 5)))))
    (dss_cons (ds_for PassesOwn.never rfl (di_enum rfl T.b_enumerate (de_var 1)) (fun _=>(dg_tup rfl (dgs_cons 4 sc_plus.nd (dgs_cons 5 sc_plus.nd dgs_nil)))) (fun _=>(dss_one (ds_store 3 (de_var 4) (de_mod (de_add (de_ix (de_var 3) (de_var 4) (fun _ _=>rfl)) (de_var 5)) (de_var 2))))))
    (dss_one (ds_ret (de_call F_trimmed hr rfl pass0' (da_cons (de_var 3) da_nil)))))))) (okM_hg hm)
noncomputable abbrev s_minus:Stmt:=top 10
noncomputable abbrev n_minus:List Str:=["one", "other", "size"]
noncomputable abbrev p_minus:List Str:=["one", "other", "size"]
theorem sc_minus:FnScope n_minus p_minus (defScope s_minus):=⟨rfl,rfl,rfl,by decide +kernel,rfl,by decide +kernel,by decide +kernel⟩
theorem ok_minus {P:Program} {w:World} {K:PySem.W.Frag} {mg:Str→Option Value} {base:Heap} {f:Addr} {fd:FuncData} {k:Nat} {m_plus:List D→M D} {m_scaled:List D→M D} {m:List D→M D} (T:Tx K mg) (F:Fun K "minus" "minus" s_minus f fd) (F_plus:FnD P w K mg base CX0 k "plus" 3 m_plus) (F_scaled:FnD P w K mg base CX0 k "scaled" 3 m_scaled)
    (hm:m=fun ds=>okM (fin (R.g_minus m_plus m_scaled (startN 3 ds)))):FnOk P w K mg base CX0 (k + 1) f fd p_minus (spM K p_minus.length m):=
  Fun.d (g:=R.g_minus m_plus m_scaled) F sc_minus (fun cdv A outer s H E hr F0 H0=>(dss_one (ds_ret (de_call F_plus hr rfl pass0' (da_cons (de_var 0) (da_cons (de_call F_scaled hr rfl pass0' (da_cons (de_var 1) (da_cons (de_sub (de_var 2) de_int) (da_cons (de_var 2) da_nil)))) (da_cons (de_var 2) da_nil))))))) (okM_hg hm)
noncomputable abbrev s_times:Stmt:=top 11
noncomputable abbrev n_times:List Str:=["one", "other", "size", "numbers", "power", "number", "place", "factor"]
noncomputable abbrev p_times:List Str:=["one", "other", "size"]
theorem sc_times:FnScope n_times p_times (defScope s_times):=⟨rfl,rfl,rfl,by decide +kernel,rfl,by decide +kernel,by decide +kernel⟩
theorem ok_times {P:Program} {w:World} {K:PySem.W.Frag} {mg:Str→Option Value} {base:Heap} {f:Addr} {fd:FuncData} {k:Nat} {m_trimmed:List D→M D} {m:List D→M D} (T:Tx K mg) (F:Fun K "times" "times" s_times f fd) (F_trimmed:FnD P w K mg base CX0 k "trimmed" 1 m_trimmed)
    (hm:m=fun ds=>okM (fin (R.g_times m_trimmed (startN 8 ds)))):FnOk P w K mg base CX0 (k + 1) f fd p_times (spM K p_times.length m):=
  Fun.d (g:=R.g_times m_trimmed) F sc_times (fun cdv A outer s H E hr F0 H0=>(dss_cons (ds_own 3 sc_times.nd (df_mul (de_of (df_lst (da_cons de_int da_nil))) (de_add (de_len rfl T.b_len (de_var 0)) (de_len rfl T.b_len (de_var 1)))))
    (dss_cons (ds_for PassesOwn.never rfl (di_enum rfl T.b_enumerate (de_var 0)) (fun _=>(dg_tup rfl (dgs_cons 4 sc_times.nd (dgs_cons 5 sc_times.nd dgs_nil)))) (fun _=>(dss_one (ds_for PassesOwn.never rfl (di_enum rfl T.b_enumerate (de_var 1)) (fun _=>(dg_tup rfl (dgs_cons 6 sc_times.nd (dgs_cons 7 sc_times.nd dgs_nil)))) (fun _=>(dss_one (ds_store 3 (de_add (de_var 4) (de_var 6)) (de_mod (de_add (de_ix (de_var 3) (de_add (de_var 4) (de_var 6)) (fun _ _=>rfl)) (de_mul (de_var 5) (de_var 7))) (de_var 2)))))))))
    (dss_one (ds_ret (de_call F_trimmed hr rfl pass0' (da_cons (de_var 3) da_nil))))))) (okM_hg hm)
noncomputable abbrev s_parted:Stmt:=top 12
noncomputable abbrev n_parted:List Str:=["one", "other", "size", "turned", "left", "many", "shift", "often", "place", "number"]
noncomputable abbrev p_parted:List Str:=["one", "other", "size"]
theorem sc_parted:FnScope n_parted p_parted (defScope s_parted):=⟨rfl,rfl,rfl,by decide +kernel,rfl,by decide +kernel,by decide +kernel⟩
theorem ok_parted {P:Program} {w:World} {K:PySem.W.Frag} {mg:Str→Option Value} {base:Heap} {f:Addr} {fd:FuncData} {k:Nat} {m_turned_number:List D→M D} {m_trimmed:List D→M D} {m:List D→M D} (T:Tx K mg) (F:Fun K "parted" "parted" s_parted f fd) (F_turned_number:FnD P w K mg base CX0 k "turned_number" 2 m_turned_number) (F_trimmed:FnD P w K mg base CX0 k "trimmed" 1 m_trimmed)
    (hm:m=fun ds=>okM (fin (R.g_parted m_turned_number m_trimmed (startN 10 ds)))):FnOk P w K mg base CX0 (k + 1) f fd p_parted (spM K p_parted.length m):=
  Fun.d (g:=R.g_parted m_turned_number m_trimmed) F sc_parted (fun cdv A outer s H E hr F0 H0=>(dss_cons (ds_if (dt_eq hr.units (de_len rfl T.b_len (de_var 1)) de_int) (dss_one ds_never) dss_nil)
    (dss_cons (ds_set 3 sc_parted.nd (de_call F_turned_number hr rfl pass0' (da_cons (de_ix (de_var 1) (de_neg de_int) (fun _ _=>rfl)) (da_cons (de_var 2) da_nil))))
    (dss_cons (ds_own 4 sc_parted.nd (df_list1 rfl T.b_list (de_var 0)))
    (dss_cons (ds_own 5 sc_parted.nd (df_mul (de_of (df_lst (da_cons de_int da_nil))) (de_len rfl T.b_len (de_var 0))))
    (dss_cons (ds_for PassesOwn.never rfl (di_range3 rfl T.b_range (da_cons (de_sub (de_len rfl T.b_len (de_var 0)) (de_len rfl T.b_len (de_var 1))) (da_cons (de_neg de_int) (da_cons (de_neg de_int) da_nil)))) (fun _=>(dg_name 6 sc_parted.nd)) (fun _=>(dss_cons (ds_set 7 sc_parted.nd (de_mod (de_mul (de_ix (de_var 4) (de_sub (de_add (de_var 6) (de_len rfl T.b_len (de_var 1))) de_int) (fun _ _=>rfl)) (de_var 3)) (de_var 2)))
    (dss_cons (ds_store 5 (de_var 6) (de_var 7))
    (dss_one (ds_for PassesOwn.never rfl (di_enum rfl T.b_enumerate (de_var 1)) (fun _=>(dg_tup rfl (dgs_cons 8 sc_parted.nd (dgs_cons 9 sc_parted.nd dgs_nil)))) (fun _=>(dss_one (ds_store 4 (de_add (de_var 6) (de_var 8)) (de_mod (de_sub (de_ix (de_var 4) (de_add (de_var 6) (de_var 8)) (fun _ _=>rfl)) (de_mul (de_var 7) (de_var 9))) (de_var 2)))))))))))
    (dss_one (ds_ret (de_tup (da_cons (de_call F_trimmed hr rfl pass0' (da_cons (de_var 5) da_nil)) (da_cons (de_call F_trimmed hr rfl pass0' (da_cons (de_var 4) da_nil)) da_nil))))))))))) (okM_hg hm)
noncomputable abbrev s_rest_by:Stmt:=top 13
noncomputable abbrev n_rest_by:List Str:=["one", "other", "size"]
noncomputable abbrev p_rest_by:List Str:=["one", "other", "size"]
theorem sc_rest_by:FnScope n_rest_by p_rest_by (defScope s_rest_by):=⟨rfl,rfl,rfl,by decide +kernel,rfl,by decide +kernel,by decide +kernel⟩
theorem ok_rest_by {P:Program} {w:World} {K:PySem.W.Frag} {mg:Str→Option Value} {base:Heap} {f:Addr} {fd:FuncData} {k:Nat} {m_parted:List D→M D} {m:List D→M D} (T:Tx K mg) (F:Fun K "rest_by" "rest_by" s_rest_by f fd) (F_parted:FnD P w K mg base CX0 k "parted" 3 m_parted)
    (hm:m=fun ds=>okM (fin (R.g_rest_by m_parted (startN 3 ds)))):FnOk P w K mg base CX0 (k + 1) f fd p_rest_by (spM K p_rest_by.length m):=
  Fun.d (g:=R.g_rest_by m_parted) F sc_rest_by (fun cdv A outer s H E hr F0 H0=>(dss_one (ds_ret (de_ix (de_call F_parted hr rfl pass0' (da_cons (de_var 0) (da_cons (de_var 1) (da_cons (de_var 2) da_nil)))) de_int (fun _ _=>rfl))))) (okM_hg hm)
noncomputable abbrev s_value:Stmt:=top 14
noncomputable abbrev n_value:List Str:=["one", "number", "size", "reached", "part"]
noncomputable abbrev p_value:List Str:=["one", "number", "size"]
theorem sc_value:FnScope n_value p_value (defScope s_value):=⟨rfl,rfl,rfl,by decide +kernel,rfl,by decide +kernel,by decide +kernel⟩
theorem ok_value {P:Program} {w:World} {K:PySem.W.Frag} {mg:Str→Option Value} {base:Heap} {f:Addr} {fd:FuncData} {k:Nat} {m:List D→M D} (T:Tx K mg) (F:Fun K "value" "value" s_value f fd)
    (hm:m=fun ds=>okM (fin (R.g_value (startN 5 ds)))):FnOk P w K mg base CX0 (k + 1) f fd p_value (spM K p_value.length m):=
  Fun.d (g:=R.g_value) F sc_value (fun cdv A outer s H E hr F0 H0=>(dss_cons (ds_set 3 sc_value.nd de_int)
    (dss_cons (ds_for PassesOwn.never rfl (di_rev rfl T.b_reversed (de_var 0)) (fun _=>(dg_name 4 sc_value.nd)) (fun _=>(dss_one (ds_set 3 sc_value.nd (de_mod (de_add (de_mul (de_var 3) (de_var 1)) (de_var 4)) (de_var 2))))))
    (dss_one (ds_ret (de_var 3)))))) (okM_hg hm)
noncomputable abbrev s_roots:Stmt:=top 15
noncomputable abbrev n_roots:List Str:=["one", "size"]
noncomputable abbrev p_roots:List Str:=["one", "size"]
theorem sc_roots:FnScope n_roots p_roots (defScope s_roots):=⟨rfl,rfl,rfl,by decide +kernel,rfl,by decide +kernel,by decide +kernel⟩
theorem ok_roots {P:Program} {w:World} {K:PySem.W.Frag} {mg:Str→Option Value} {base:Heap} {f:Addr} {fd:FuncData} {k:Nat} {m_value:List D→M D} {m:List D→M D} (T:Tx K mg) (F:Fun K "roots" "roots" s_roots f fd) (F_value:FnD P w K mg base CX0 k "value" 3 m_value)
    (hm:m=fun ds=>okM (fin (R.g_roots m_value (startN 2 ds)))):FnOk P w K mg base CX0 (k + 1) f fd p_roots (spM K p_roots.length m):=
  Fun.d (g:=R.g_roots m_value) F sc_roots (fun cdv A outer s H E hr F0 H0=>(dss_one (ds_ret (de_tuple1 rfl T.b_tuple (de_of (df_comp 1 [0,1] ["number"] ["one", "size"] rfl rfl (by decide) (by decide) (free_by (by rfl)) rfl ⟨rfl,.inl rfl,by decide,.inl rfl,⟨rfl,.inl rfl,by decide,.inl rfl,trivial⟩⟩ (by decide) (di_range1 rfl T.b_range (da_cons (de_var 1) da_nil)) (fun _ _ _ _ _ _=>(dg_name 0 (show (["number", "one", "size"]:List Str).Nodup by decide +kernel))) (fun _ _ _ _ _ _=>(difs_one (dt_eq hr.units (de_call F_value hr rfl pass0' (da_cons (de_var 1) (da_cons (de_var 0) (da_cons (de_var 2) da_nil)))) de_int))) (fun _ _ _ _ _ _=>(de_var 0)))))))) (okM_hg hm)
noncomputable abbrev s_row_less:Stmt:=top 17
noncomputable abbrev n_row_less:List Str:=["row", "below", "size", "many"]
noncomputable abbrev p_row_less:List Str:=["row", "below", "size"]
theorem sc_row_less:FnScope n_row_less p_row_less (defScope s_row_less):=⟨rfl,rfl,rfl,by decide +kernel,rfl,by decide +kernel,by decide +kernel⟩
theorem ok_row_less {P:Program} {w:World} {K:PySem.W.Frag} {mg:Str→Option Value} {base:Heap} {f:Addr} {fd:FuncData} {k:Nat} {m_parted:List D→M D} {m_minus:List D→M D} {m_times:List D→M D} {m:List D→M D} (T:Tx K mg) (F:Fun K "row_less" "row_less" s_row_less f fd) (F_parted:FnD P w K mg base CX0 k "parted" 3 m_parted) (F_minus:FnD P w K mg base CX0 k "minus" 3 m_minus) (F_times:FnD P w K mg base CX0 k "times" 3 m_times)
    (hm:m=fun ds=>okM (fin (R.g_row_less m_parted m_minus m_times (startN 4 ds)))):FnOk P w K mg base CX0 (k + 1) f fd p_row_less (spM K p_row_less.length m):=
  Fun.d (g:=R.g_row_less m_parted m_minus m_times) F sc_row_less (fun cdv A outer s H E hr F0 H0=>(dss_cons (ds_set 3 sc_row_less.nd (de_ix (de_call F_parted hr rfl pass0' (da_cons (de_ix (de_var 0) de_int (fun _ _=>rfl)) (da_cons (de_ix (de_var 1) de_int (fun _ _=>rfl)) (da_cons (de_var 2) da_nil)))) de_int (fun _ _=>rfl)))
    (dss_one (ds_ret (de_of (df_comp 2 [2,3] ["part", "lower"] ["size", "many"] rfl rfl (by decide) (by decide) (free_by (by rfl)) rfl ⟨rfl,.inl rfl,by decide,.inl rfl,⟨rfl,.inl rfl,by decide,.inl rfl,trivial⟩⟩ (by decide) (di_zip rfl T.b_zip (da_cons (de_var 0) (da_cons (de_var 1) da_nil))) (fun _ _ _ _ _ _=>(dg_tup rfl (dgs_cons 0 (show (["part", "lower", "size", "many"]:List Str).Nodup by decide +kernel) (dgs_cons 1 (show (["part", "lower", "size", "many"]:List Str).Nodup by decide +kernel) dgs_nil)))) (fun _ _ _ _ _ _=>difs_nil) (fun _ _ _ _ _ _=>(de_call F_minus hr rfl pass0' (da_cons (de_var 0) (da_cons (de_call F_times hr rfl pass0' (da_cons (de_var 3) (da_cons (de_var 1) (da_cons (de_var 2) da_nil)))) (da_cons (de_var 2) da_nil))))))))))) (okM_hg hm)
noncomputable abbrev s_common:Stmt:=top 18
noncomputable abbrev n_common:List Str:=["one", "other", "size", "row", "below", "following", "turned"]
noncomputable abbrev p_common:List Str:=["one", "other", "size"]
theorem sc_common:FnScope n_common p_common (defScope s_common):=⟨rfl,rfl,rfl,by decide +kernel,rfl,by decide +kernel,by decide +kernel⟩
theorem ok_common {P:Program} {w:World} {K:PySem.W.Frag} {mg:Str→Option Value} {base:Heap} {f:Addr} {fd:FuncData} {k:Nat} {m_row_less:List D→M D} {m_turned_number:List D→M D} {m_scaled:List D→M D} {m:List D→M D} (T:Tx K mg) (F:Fun K "common" "common" s_common f fd) (F_row_less:FnD P w K mg base CX0 k "row_less" 3 m_row_less) (F_turned_number:FnD P w K mg base CX0 k "turned_number" 2 m_turned_number) (F_scaled:FnD P w K mg base CX0 k "scaled" 3 m_scaled)
    (hm:m=fun ds=>okM (fin (R.g_common m_row_less m_turned_number m_scaled (startN 7 ds)))):FnOk P w K mg base CX0 (k + 1) f fd p_common (spM K p_common.length m):=
  Fun.d (g:=R.g_common m_row_less m_turned_number m_scaled) F sc_common (fun cdv A outer s H E hr F0 H0=>(dss_cons (ds_set 3 sc_common.nd (de_of (df_lst (da_cons (de_var 0) (da_cons (de_globT (l:=[1]) rfl T.g_ONE) (da_cons (de_tup da_nil) da_nil))))))
    (dss_cons (ds_set 4 sc_common.nd (de_of (df_lst (da_cons (de_var 1) (da_cons (de_tup da_nil) (da_cons (de_globT (l:=[1]) rfl T.g_ONE) da_nil))))))
    (dss_cons (ds_while 200 PassesOwn.never (dt_gt (de_len rfl T.b_len (de_ix (de_var 4) de_int (fun _ _=>rfl))) de_int) (dss_cons (ds_set 5 sc_common.nd (de_call F_row_less hr rfl pass0' (da_cons (de_var 3) (da_cons (de_var 4) (da_cons (de_var 2) da_nil)))))
    (dss_cons (ds_set 3 sc_common.nd (de_var 4))
    (dss_one (ds_set 4 sc_common.nd (de_var 5))))))
    (dss_cons (ds_if (dt_eq hr.units (de_len rfl T.b_len (de_ix (de_var 3) de_int (fun _ _=>rfl))) de_int) (dss_one (ds_ret (de_tup (da_cons (de_tup da_nil) (da_cons (de_tup da_nil) (da_cons (de_tup da_nil) da_nil)))))) dss_nil)
    (dss_cons (ds_set 6 sc_common.nd (de_call F_turned_number hr rfl pass0' (da_cons (de_ix (de_ix (de_var 3) de_int (fun _ _=>rfl)) (de_neg de_int) (fun _ _=>rfl)) (da_cons (de_var 2) da_nil))))
    (dss_one (ds_ret (de_tuple1 rfl T.b_tuple (de_of (df_comp 1 [6,2] ["part"] ["turned", "size"] rfl rfl (by decide) (by decide) (free_by (by rfl)) rfl ⟨rfl,.inl rfl,by decide,.inl rfl,⟨rfl,.inl rfl,by decide,.inl rfl,trivial⟩⟩ (by decide) (di_seq (de_var 3)) (fun _ _ _ _ _ _=>(dg_name 0 (show (["part", "turned", "size"]:List Str).Nodup by decide +kernel))) (fun _ _ _ _ _ _=>difs_nil) (fun _ _ _ _ _ _=>(de_call F_scaled hr rfl pass0' (da_cons (de_var 0) (da_cons (de_var 1) (da_cons (de_var 2) da_nil)))))))))))))))) (okM_hg hm)
noncomputable abbrev s_slope:Stmt:=top 20
noncomputable abbrev n_slope:List Str:=["total", "size", "numbers"]
noncomputable abbrev p_slope:List Str:=["total", "size"]
theorem sc_slope:FnScope n_slope p_slope (defScope s_slope):=⟨rfl,rfl,rfl,by decide +kernel,rfl,by decide +kernel,by decide +kernel⟩
theorem ok_slope {P:Program} {w:World} {K:PySem.W.Frag} {mg:Str→Option Value} {base:Heap} {f:Addr} {fd:FuncData} {k:Nat} {m_trimmed:List D→M D} {m:List D→M D} (T:Tx K mg) (F:Fun K "slope" "slope" s_slope f fd) (F_trimmed:FnD P w K mg base CX0 k "trimmed" 1 m_trimmed)
    (hm:m=fun ds=>okM (fin (R.g_slope m_trimmed (startN 3 ds)))):FnOk P w K mg base CX0 (k + 1) f fd p_slope (spM K p_slope.length m):=
  Fun.d (g:=R.g_slope m_trimmed) F sc_slope (fun cdv A outer s H E hr F0 H0=>(dss_cons (ds_setcomp 2 sc_slope.nd 2 [1] ["power", "number"] ["size"] rfl rfl (by decide) (by decide) (free_by (by rfl)) rfl ⟨rfl,.inl rfl,by decide,.inl rfl,trivial⟩ (by decide) (di_enum rfl T.b_enumerate (de_var 0)) (fun _ _ _ _ _ _=>(dg_tup rfl (dgs_cons 0 (show (["power", "number", "size"]:List Str).Nodup by decide +kernel) (dgs_cons 1 (show (["power", "number", "size"]:List Str).Nodup by decide +kernel) dgs_nil)))) (fun _ _ _ _ _ _=>difs_nil) (fun _ _ _ _ _ _=>(de_mod (de_mul (de_var 0) (de_var 1)) (de_var 2))))
    (dss_one (ds_ret (de_call F_trimmed hr rfl pass0' (da_cons (de_slice (de_var 2) (do_some de_int) do_none) da_nil)))))) (okM_hg hm)
noncomputable abbrev s_cleared:Stmt:=top 21
noncomputable abbrev n_cleared:List Str:=["row", "kept", "size", "left", "making", "above", "often"]
noncomputable abbrev p_cleared:List Str:=["row", "kept", "size"]
theorem sc_cleared:FnScope n_cleared p_cleared (defScope s_cleared):=⟨rfl,rfl,rfl,by decide +kernel,rfl,by decide +kernel,by decide +kernel⟩
theorem ok_cleared {P:Program} {w:World} {K:PySem.W.Frag} {mg:Str→Option Value} {base:Heap} {f:Addr} {fd:FuncData} {k:Nat} {m_minus:List D→M D} {m_scaled:List D→M D} {m:List D→M D} (T:Tx K mg) (F:Fun K "cleared" "cleared" s_cleared f fd) (F_minus:FnD P w K mg base CX0 k "minus" 3 m_minus) (F_scaled:FnD P w K mg base CX0 k "scaled" 3 m_scaled)
    (hm:m=fun ds=>okM (fin (R.g_cleared m_minus m_scaled (startN 7 ds)))):FnOk P w K mg base CX0 (k + 1) f fd p_cleared (spM K p_cleared.length m):=
  Fun.d (g:=R.g_cleared m_minus m_scaled) F sc_cleared (fun cdv A outer s H E hr F0 H0=>(dss_cons (ds_set 3 sc_cleared.nd (de_ix (de_var 0) de_int (fun _ _=>rfl)))
    (dss_cons (ds_set 4 sc_cleared.nd (de_ix (de_var 0) de_int (fun _ _=>rfl)))
    (dss_cons (ds_while 200 PassesOwn.never (dt_w (dw_and (dt_gt (de_len rfl T.b_len (de_var 3)) de_int) (dw_and1 (dt_din hr.units (de_len rfl T.b_len (de_var 3)) (de_var 1))))) (dss_cons (ds_set 5 sc_cleared.nd (de_dget hr.units (de_var 1) (de_len rfl T.b_len (de_var 3))))
    (dss_cons (ds_set 6 sc_cleared.nd (de_ix (de_var 3) (de_neg de_int) (fun _ _=>rfl)))
    (dss_cons (ds_set 3 sc_cleared.nd (de_call F_minus hr rfl pass0' (da_cons (de_var 3) (da_cons (de_call F_scaled hr rfl pass0' (da_cons (de_ix (de_var 5) de_int (fun _ _=>rfl)) (da_cons (de_var 6) (da_cons (de_var 2) da_nil)))) (da_cons (de_var 2) da_nil)))))
    (dss_one (ds_set 4 sc_cleared.nd (de_call F_minus hr rfl pass0' (da_cons (de_var 4) (da_cons (de_call F_scaled hr rfl pass0' (da_cons (de_ix (de_var 5) de_int (fun _ _=>rfl)) (da_cons (de_var 6) (da_cons (de_var 2) da_nil)))) (da_cons (de_var 2) da_nil))))))))))
    (dss_one (ds_ret (de_tup (da_cons (de_var 3) (da_cons (de_var 4) da_nil))))))))) (okM_hg hm)
noncomputable abbrev s_steady_sum:Stmt:=top 22
noncomputable abbrev n_steady_sum:List Str:=["total", "size", "kept", "place", "start", "moved", "row", "turned"]
noncomputable abbrev p_steady_sum:List Str:=["total", "size"]
theorem sc_steady_sum:FnScope n_steady_sum p_steady_sum (defScope s_steady_sum):=⟨rfl,rfl,rfl,by decide +kernel,rfl,by decide +kernel,by decide +kernel⟩
theorem ok_steady_sum {P:Program} {w:World} {K:PySem.W.Frag} {mg:Str→Option Value} {base:Heap} {f:Addr} {fd:FuncData} {k:Nat} {m_lone_power:List D→M D} {m_rest_by:List D→M D} {m_cleared:List D→M D} {m_minus:List D→M D} {m_turned_number:List D→M D} {m_scaled:List D→M D} {m:List D→M D} (T:Tx K mg) (F:Fun K "steady_sum" "steady_sum" s_steady_sum f fd) (F_lone_power:FnD P w K mg base CX0 k "lone_power" 1 m_lone_power) (F_rest_by:FnD P w K mg base CX0 k "rest_by" 3 m_rest_by) (F_cleared:FnD P w K mg base CX0 k "cleared" 3 m_cleared) (F_minus:FnD P w K mg base CX0 k "minus" 3 m_minus) (F_turned_number:FnD P w K mg base CX0 k "turned_number" 2 m_turned_number) (F_scaled:FnD P w K mg base CX0 k "scaled" 3 m_scaled)
    (hm:m=fun ds=>okM (fin (R.g_steady_sum m_lone_power m_rest_by m_cleared m_minus m_turned_number m_scaled (startN 8 ds)))):FnOk P w K mg base CX0 (k + 1) f fd p_steady_sum (spM K p_steady_sum.length m):=
  Fun.d (g:=R.g_steady_sum m_lone_power m_rest_by m_cleared m_minus m_turned_number m_scaled) F sc_steady_sum (fun cdv A outer s H E hr F0 H0=>(dss_cons (ds_owd 2 sc_steady_sum.nd)
    (dss_cons (ds_for PassesOwn.never rfl (di_range2 rfl T.b_range (da_cons de_int (da_cons (de_sub (de_len rfl T.b_len (de_var 0)) de_int) da_nil))) (fun _=>(dg_name 3 sc_steady_sum.nd)) (fun _=>(dss_cons (ds_set 4 sc_steady_sum.nd (de_call F_lone_power hr rfl pass0' (da_cons (de_var 3) da_nil)))
    (dss_cons (ds_set 5 sc_steady_sum.nd (de_call F_rest_by hr rfl pass0' (da_cons (de_call F_lone_power hr rfl pass0' (da_cons (de_mul (de_var 3) (de_var 1)) da_nil)) (da_cons (de_var 0) (da_cons (de_var 1) da_nil)))))
    (dss_cons (ds_set 6 sc_steady_sum.nd (de_call F_cleared hr rfl pass0' (da_cons (de_tup (da_cons (de_call F_minus hr rfl pass0' (da_cons (de_var 5) (da_cons (de_var 4) (da_cons (de_var 1) da_nil)))) (da_cons (de_var 4) da_nil))) (da_cons (de_var 2) (da_cons (de_var 1) da_nil)))))
    (dss_cons (ds_if (dt_eq hr.units (de_len rfl T.b_len (de_ix (de_var 6) de_int (fun _ _=>rfl))) de_int) (dss_one (ds_ret (de_ix (de_var 6) de_int (fun _ _=>rfl)))) dss_nil)
    (dss_cons (ds_set 7 sc_steady_sum.nd (de_call F_turned_number hr rfl pass0' (da_cons (de_ix (de_ix (de_var 6) de_int (fun _ _=>rfl)) (de_neg de_int) (fun _ _=>rfl)) (da_cons (de_var 1) da_nil))))
    (dss_one (ds_dput 2 hr.units (de_len rfl T.b_len (de_ix (de_var 6) de_int (fun _ _=>rfl))) (de_tup (da_cons (de_call F_scaled hr rfl pass0' (da_cons (de_ix (de_var 6) de_int (fun _ _=>rfl)) (da_cons (de_var 7) (da_cons (de_var 1) da_nil)))) (da_cons (de_call F_scaled hr rfl pass0' (da_cons (de_ix (de_var 6) de_int (fun _ _=>rfl)) (da_cons (de_var 7) (da_cons (de_var 1) da_nil)))) da_nil))))))))))))
    (dss_one (ds_ret de_non))))) (okM_hg hm)
noncomputable abbrev s_part_by_steady:Stmt:=top 23
noncomputable abbrev n_part_by_steady:List Str:=["total", "size", "steady", "less"]
noncomputable abbrev p_part_by_steady:List Str:=["total", "size"]
theorem sc_part_by_steady:FnScope n_part_by_steady p_part_by_steady (defScope s_part_by_steady):=⟨rfl,rfl,rfl,by decide +kernel,rfl,by decide +kernel,by decide +kernel⟩
theorem ok_part_by_steady {P:Program} {w:World} {K:PySem.W.Frag} {mg:Str→Option Value} {base:Heap} {f:Addr} {fd:FuncData} {k:Nat} {m_steady_sum:List D→M D} {m_minus:List D→M D} {m_scaled:List D→M D} {m_common:List D→M D} {m:List D→M D} (T:Tx K mg) (F:Fun K "part_by_steady" "part_by_steady" s_part_by_steady f fd) (F_steady_sum:FnD P w K mg base CX0 k "steady_sum" 2 m_steady_sum) (F_minus:FnD P w K mg base CX0 k "minus" 3 m_minus) (F_scaled:FnD P w K mg base CX0 k "scaled" 3 m_scaled) (F_common:FnD P w K mg base CX0 k "common" 3 m_common)
    (hm:m=fun ds=>okM (fin (R.g_part_by_steady m_steady_sum m_minus m_scaled m_common (startN 4 ds)))):FnOk P w K mg base CX0 (k + 1) f fd p_part_by_steady (spM K p_part_by_steady.length m):=
  Fun.d (g:=R.g_part_by_steady m_steady_sum m_minus m_scaled m_common) F sc_part_by_steady (fun cdv A outer s H E hr F0 H0=>(dss_cons (ds_set 2 sc_part_by_steady.nd (de_call F_steady_sum hr rfl pass0' (da_cons (de_var 0) (da_cons (de_var 1) da_nil))))
    (dss_cons (ds_if (dt_isN (de_var 2)) (dss_one (ds_ret de_non)) dss_nil)
    (dss_cons (ds_setcomp 3 sc_part_by_steady.nd 1 [2,1] ["number"] ["steady", "size"] rfl rfl (by decide) (by decide) (free_by (by rfl)) rfl ⟨rfl,.inl rfl,by decide,.inl rfl,⟨rfl,.inl rfl,by decide,.inl rfl,trivial⟩⟩ (by decide) (di_range1 rfl T.b_range (da_cons (de_var 1) da_nil)) (fun _ _ _ _ _ _=>(dg_name 0 (show (["number", "steady", "size"]:List Str).Nodup by decide +kernel))) (fun _ _ _ _ _ _=>difs_nil) (fun _ _ _ _ _ _=>(de_call F_minus hr rfl pass0' (da_cons (de_var 1) (da_cons (de_call F_scaled hr rfl pass0' (da_cons (de_globT (l:=[1]) rfl T.g_ONE) (da_cons (de_var 0) (da_cons (de_var 2) da_nil)))) (da_cons (de_var 2) da_nil))))))
    (dss_one (ds_ret (de_maxlen rfl T.b_max rfl T.b_len (de_of (df_comp 1 [0,1] ["one"] ["total", "size"] rfl rfl (by decide) (by decide) (free_by (by rfl)) rfl ⟨rfl,.inl rfl,by decide,.inl rfl,⟨rfl,.inl rfl,by decide,.inl rfl,trivial⟩⟩ (by decide) (di_seq (de_var 3)) (fun _ _ _ _ _ _=>(dg_name 0 (show (["one", "total", "size"]:List Str).Nodup by decide +kernel))) (fun _ _ _ _ _ _=>difs_nil) (fun _ _ _ _ _ _=>(de_ix (de_call F_common hr rfl pass0' (da_cons (de_var 1) (da_cons (de_var 0) (da_cons (de_var 2) da_nil)))) de_int (fun _ _=>rfl)))))))))))) (okM_hg hm)
noncomputable abbrev s_part_of:Stmt:=top 24
noncomputable abbrev n_part_of:List Str:=["total", "size", "found", "sloping", "shared"]
noncomputable abbrev p_part_of:List Str:=["total", "size"]
theorem sc_part_of:FnScope n_part_of p_part_of (defScope s_part_of):=⟨rfl,rfl,rfl,by decide +kernel,rfl,by decide +kernel,by decide +kernel⟩
theorem ok_part_of {P:Program} {w:World} {K:PySem.W.Frag} {mg:Str→Option Value} {base:Heap} {f:Addr} {fd:FuncData} {k:Nat} {m_roots:List D→M D} {m_slope:List D→M D} {m_common:List D→M D} {m_part_by_steady:List D→M D} {m:List D→M D} (T:Tx K mg) (F:Fun K "part_of" "part_of" s_part_of f fd) (F_roots:FnD P w K mg base CX0 k "roots" 2 m_roots) (F_slope:FnD P w K mg base CX0 k "slope" 2 m_slope) (F_common:FnD P w K mg base CX0 k "common" 3 m_common) (F_part_by_steady:FnD P w K mg base CX0 k "part_by_steady" 2 m_part_by_steady)
    (hm:m=fun ds=>okM (fin (R.g_part_of m_roots m_slope m_common m_part_by_steady (startN 5 ds)))):FnOk P w K mg base CX0 (k + 1) f fd p_part_of (spM K p_part_of.length m):=
  Fun.d (g:=R.g_part_of m_roots m_slope m_common m_part_by_steady) F sc_part_of (fun cdv A outer s H E hr F0 H0=>(dss_cons (ds_if (dt_lt (de_len rfl T.b_len (de_var 0)) de_int) (dss_one (ds_ret de_non)) dss_nil)
    (dss_cons (ds_set 2 sc_part_of.nd (de_call F_roots hr rfl pass0' (da_cons (de_var 0) (da_cons (de_var 1) da_nil))))
    (dss_cons (ds_if (dt_gt (de_len rfl T.b_len (de_var 2)) de_int) (dss_one (ds_ret (de_tup (da_cons (de_mod (de_sub (de_var 1) (de_ix (de_var 2) de_int (fun _ _=>rfl))) (de_var 1)) (da_cons de_int da_nil))))) dss_nil)
    (dss_cons (ds_set 3 sc_part_of.nd (de_call F_slope hr rfl pass0' (da_cons (de_var 0) (da_cons (de_var 1) da_nil))))
    (dss_cons (ds_if (dt_eq hr.units (de_len rfl T.b_len (de_var 3)) de_int) (dss_one (ds_ret (de_step (de_var 0) (de_var 1)))) dss_nil)
    (dss_cons (ds_set 4 sc_part_of.nd (de_ix (de_call F_common hr rfl pass0' (da_cons (de_var 0) (da_cons (de_var 3) (da_cons (de_var 1) da_nil)))) de_int (fun _ _=>rfl)))
    (dss_cons (ds_if (dt_gt (de_len rfl T.b_len (de_var 4)) de_int) (dss_one (ds_ret (de_var 4))) dss_nil)
    (dss_one (ds_ret (de_call F_part_by_steady hr rfl pass0' (da_cons (de_var 0) (da_cons (de_var 1) da_nil))))))))))))) (okM_hg hm)
noncomputable abbrev s_split:Stmt:=top 25
noncomputable abbrev n_split:List Str:=["total", "size", "part"]
noncomputable abbrev p_split:List Str:=["total", "size"]
theorem sc_split:FnScope n_split p_split (defScope s_split):=⟨rfl,rfl,rfl,by decide +kernel,rfl,by decide +kernel,by decide +kernel⟩
theorem ok_split {P:Program} {w:World} {K:PySem.W.Frag} {mg:Str→Option Value} {base:Heap} {f:Addr} {fd:FuncData} {k:Nat} {m_part_of:List D→M D} {m_parted:List D→M D} {m:List D→M D} (T:Tx K mg) (F:Fun K "split" "split" s_split f fd) (F_part_of:FnD P w K mg base CX0 k "part_of" 2 m_part_of) (F_parted:FnD P w K mg base CX0 k "parted" 3 m_parted)
    (hm:m=fun ds=>okM (fin (R.g_split m_part_of m_parted (startN 3 ds)))):FnOk P w K mg base CX0 (k + 1) f fd p_split (spM K p_split.length m):=
  Fun.d (g:=R.g_split m_part_of m_parted) F sc_split (fun cdv A outer s H E hr F0 H0=>(dss_cons (ds_set 2 sc_split.nd (de_call F_part_of hr rfl pass0' (da_cons (de_var 0) (da_cons (de_var 1) da_nil))))
    (dss_cons (ds_if (dt_isN (de_var 2)) (dss_one (ds_ret de_non)) dss_nil)
    (dss_one (ds_ret (de_tup (da_cons (de_var 2) (da_cons (de_ix (de_call F_parted hr rfl pass0' (da_cons (de_var 0) (da_cons (de_var 2) (da_cons (de_var 1) da_nil)))) de_int (fun _ _=>rfl)) da_nil)))))))) (okM_hg hm)
noncomputable abbrev s_is_prime:Stmt:=top 26
noncomputable abbrev n_is_prime:List Str:=["total", "size"]
noncomputable abbrev p_is_prime:List Str:=["total", "size"]
theorem sc_is_prime:FnScope n_is_prime p_is_prime (defScope s_is_prime):=⟨rfl,rfl,rfl,by decide +kernel,rfl,by decide +kernel,by decide +kernel⟩
theorem ok_is_prime {P:Program} {w:World} {K:PySem.W.Frag} {mg:Str→Option Value} {base:Heap} {f:Addr} {fd:FuncData} {k:Nat} {m_part_of:List D→M D} {m:List D→M D} (T:Tx K mg) (F:Fun K "is_prime" "is_prime" s_is_prime f fd) (F_part_of:FnD P w K mg base CX0 k "part_of" 2 m_part_of)
    (hm:m=fun ds=>okM (fin (R.g_is_prime m_part_of (startN 2 ds)))):FnOk P w K mg base CX0 (k + 1) f fd p_is_prime (spM K p_is_prime.length m):=
  Fun.d (g:=R.g_is_prime m_part_of) F sc_is_prime (fun cdv A outer s H E hr F0 H0=>(dss_one (ds_ret (de_and (de_gt (de_len rfl T.b_len (de_var 0)) de_int) (de_one (de_isN (de_call F_part_of hr rfl pass0' (da_cons (de_var 0) (da_cons (de_var 1) da_nil))))))))) (okM_hg hm)
noncomputable abbrev s_l_cell_at:Stmt:=top 28
noncomputable abbrev n_l_cell_at:List Str:=["_law_script", "_law_k"]
noncomputable abbrev p_l_cell_at:List Str:=["_law_script", "_law_k"]
theorem sc_l_cell_at:FnScope n_l_cell_at p_l_cell_at (defScope s_l_cell_at):=⟨rfl,rfl,rfl,by decide +kernel,rfl,by decide +kernel,by decide +kernel⟩
theorem ok_l_cell_at {P:Program} {w:World} {K:PySem.W.Frag} {mg:Str→Option Value} {base:Heap} {f:Addr} {fd:FuncData} {k:Nat} {m:List D→M D} (T:Tx K mg) (F:Fun K "_law_cell_at" "_law_cell_at" s_l_cell_at f fd)
    (hm:m=fun ds=>okM (fin (R.g_l_cell_at (startN 2 ds)))):FnOk P w K mg base CX0 (k + 1) f fd p_l_cell_at (spM K p_l_cell_at.length m):=
  Fun.d (g:=R.g_l_cell_at) F sc_l_cell_at (fun cdv A outer s H E hr F0 H0=>(dss_cons (ds_if (dt_lt (de_var 1) (de_len rfl T.b_len (de_var 0))) (dss_one (ds_ret (de_ix (de_var 0) (de_var 1) (fun _ _=>rfl)))) dss_nil)
    (dss_one (ds_ret de_int)))) (okM_hg hm)
noncomputable abbrev s_l_mixed:Stmt:=top 29
noncomputable abbrev n_l_mixed:List Str:=["_law_script", "_law_k", "_law_drawn_here"]
noncomputable abbrev p_l_mixed:List Str:=["_law_script", "_law_k"]
theorem sc_l_mixed:FnScope n_l_mixed p_l_mixed (defScope s_l_mixed):=⟨rfl,rfl,rfl,by decide +kernel,rfl,by decide +kernel,by decide +kernel⟩
theorem ok_l_mixed {P:Program} {w:World} {K:PySem.W.Frag} {mg:Str→Option Value} {base:Heap} {f:Addr} {fd:FuncData} {k:Nat} {m_l_cell_at:List D→M D} {m:List D→M D} (T:Tx K mg) (F:Fun K "_law_mixed" "_law_mixed" s_l_mixed f fd) (F_l_cell_at:FnD P w K mg base CX0 k "_law_cell_at" 2 m_l_cell_at)
    (hm:m=fun ds=>okM (fin (R.g_l_mixed m_l_cell_at (startN 3 ds)))):FnOk P w K mg base CX0 (k + 1) f fd p_l_mixed (spM K p_l_mixed.length m):=
  Fun.d (g:=R.g_l_mixed m_l_cell_at) F sc_l_mixed (fun cdv A outer s H E hr F0 H0=>(dss_cons (ds_set 2 sc_l_mixed.nd (de_mod (de_mul (de_add (de_add (de_call F_l_cell_at hr rfl pass0' (da_cons (de_var 0) (da_cons (de_var 1) da_nil))) (de_mul de_int (de_var 1))) de_int) de_int) de_int))
    (dss_one (ds_ret (de_mod (de_add (de_add (de_mul (de_var 2) (de_var 2)) (de_mul de_int (de_var 2))) (de_var 1)) de_int))))) (okM_hg hm)
noncomputable abbrev s_l_drawn:Stmt:=top 30
noncomputable abbrev n_l_drawn:List Str:=["_law_number_here", "_law_k", "_law_drawn_here"]
noncomputable abbrev p_l_drawn:List Str:=["_law_number_here", "_law_k"]
theorem sc_l_drawn:FnScope n_l_drawn p_l_drawn (defScope s_l_drawn):=⟨rfl,rfl,rfl,by decide +kernel,rfl,by decide +kernel,by decide +kernel⟩
theorem ok_l_drawn {P:Program} {w:World} {K:PySem.W.Frag} {mg:Str→Option Value} {base:Heap} {f:Addr} {fd:FuncData} {k:Nat} {m:List D→M D} (T:Tx K mg) (F:Fun K "_law_drawn" "_law_drawn" s_l_drawn f fd)
    (hm:m=fun ds=>okM (fin (R.g_l_drawn (startN 3 ds)))):FnOk P w K mg base CX0 (k + 1) f fd p_l_drawn (spM K p_l_drawn.length m):=
  Fun.d (g:=R.g_l_drawn) F sc_l_drawn (fun cdv A outer s H E hr F0 H0=>(dss_cons (ds_set 2 sc_l_drawn.nd (de_mod (de_mul (de_add (de_add (de_var 0) (de_mul de_int (de_var 1))) de_int) de_int) de_int))
    (dss_one (ds_ret (de_mod (de_add (de_add (de_mul (de_var 2) (de_var 2)) (de_mul de_int (de_var 2))) (de_var 1)) de_int))))) (okM_hg hm)
noncomputable abbrev s_l_number:Stmt:=top 31
noncomputable abbrev n_l_number:List Str:=["_law_thing", "_law_low", "_law_high"]
noncomputable abbrev p_l_number:List Str:=["_law_thing", "_law_low", "_law_high"]
theorem sc_l_number:FnScope n_l_number p_l_number (defScope s_l_number):=⟨rfl,rfl,rfl,by decide +kernel,rfl,by decide +kernel,by decide +kernel⟩
theorem ok_l_number {P:Program} {w:World} {K:PySem.W.Frag} {mg:Str→Option Value} {base:Heap} {f:Addr} {fd:FuncData} {k:Nat} {m:List D→M D} (T:Tx K mg) (F:Fun K "_law_number" "_law_number" s_l_number f fd)
    (hm:m=fun ds=>okM (fin (R.g_l_number (startN 3 ds)))):FnOk P w K mg base CX0 (k + 1) f fd p_l_number (spM K p_l_number.length m):=
  Fun.d (g:=R.g_l_number) F sc_l_number (fun cdv A outer s H E hr F0 H0=>(dss_one (ds_ret (de_and (de_isi_int rfl T.b_isinstance rfl T.b_int (de_var 0)) (de_and (de_not (de_isi_bool rfl T.b_isinstance rfl T.b_bool (de_var 0))) (de_one (de_lele (de_var 1) (de_var 0) (de_var 2)))))))) (okM_hg hm)
noncomputable abbrev s_l_sum:Stmt:=top 32
noncomputable abbrev n_l_sum:List Str:=["_law_number_here", "_law_size", "_law_most", "_law_many", "_law_found", "_law_k", "_law_drawn_here"]
noncomputable abbrev p_l_sum:List Str:=["_law_number_here", "_law_size", "_law_most"]
theorem sc_l_sum:FnScope n_l_sum p_l_sum (defScope s_l_sum):=⟨rfl,rfl,rfl,by decide +kernel,rfl,by decide +kernel,by decide +kernel⟩
theorem ok_l_sum {P:Program} {w:World} {K:PySem.W.Frag} {mg:Str→Option Value} {base:Heap} {f:Addr} {fd:FuncData} {k:Nat} {m_l_drawn:List D→M D} {m:List D→M D} (T:Tx K mg) (F:Fun K "_law_sum" "_law_sum" s_l_sum f fd) (F_l_drawn:FnD P w K mg base CX0 k "_law_drawn" 2 m_l_drawn)
    (hm:m=fun ds=>okM (fin (R.g_l_sum m_l_drawn (startN 7 ds)))):FnOk P w K mg base CX0 (k + 1) f fd p_l_sum (spM K p_l_sum.length m):=
  Fun.d (g:=R.g_l_sum m_l_drawn) F sc_l_sum (fun cdv A outer s H E hr F0 H0=>(dss_cons (ds_set 3 sc_l_sum.nd (de_mod (de_var 0) (de_add (de_var 2) de_int)))
    (dss_cons (ds_own 4 sc_l_sum.nd (df_lst da_nil))
    (dss_cons (ds_for PassesOwn.never rfl (di_range1 rfl T.b_range (da_cons (de_var 3) da_nil)) (fun _=>(dg_name 5 sc_l_sum.nd)) (fun _=>(dss_cons (ds_set 6 sc_l_sum.nd (de_call F_l_drawn hr rfl pass0' (da_cons (de_var 0) (da_cons (de_var 5) da_nil))))
    (dss_one (ds_append 4 (de_mul (de_mod (de_div (de_var 6) de_int) (de_var 1)) (de_int1 rfl T.b_int (de_or (de_gt (de_mod (de_div (de_var 0) de_int) de_int) de_int) (de_one (de_eq hr.units (de_mod (de_var 6) de_int) de_int))))))))))
    (dss_cons (ds_if (dt_gt (de_var 3) de_int) (dss_one (ds_store 4 (de_neg de_int) (de_add de_int (de_mod (de_call F_l_drawn hr rfl pass0' (da_cons (de_var 0) (da_cons de_int da_nil))) (de_sub (de_var 1) de_int))))) dss_nil)
    (dss_one (ds_ret (de_tuple1 rfl T.b_tuple (de_var 4))))))))) (okM_hg hm)
noncomputable abbrev s_l_trim:Stmt:=top 33
noncomputable abbrev n_l_trim:List Str:=["_law_numbers", "_law_found"]
noncomputable abbrev p_l_trim:List Str:=["_law_numbers"]
theorem sc_l_trim:FnScope n_l_trim p_l_trim (defScope s_l_trim):=⟨rfl,rfl,rfl,by decide +kernel,rfl,by decide +kernel,by decide +kernel⟩
theorem ok_l_trim {P:Program} {w:World} {K:PySem.W.Frag} {mg:Str→Option Value} {base:Heap} {f:Addr} {fd:FuncData} {k:Nat} {m:List D→M D} (T:Tx K mg) (F:Fun K "_law_trim" "_law_trim" s_l_trim f fd)
    (hm:m=fun ds=>okM (fin (R.g_l_trim (startN 2 ds)))):FnOk P w K mg base CX0 (k + 1) f fd p_l_trim (spM K p_l_trim.length m):=
  Fun.d (g:=R.g_l_trim) F sc_l_trim (fun cdv A outer s H E hr F0 H0=>(dss_cons (ds_own 1 sc_l_trim.nd (df_list1 rfl T.b_list (de_var 0)))
    (dss_cons (ds_while 200 PassesOwn.never (dt_w (dw_and (dt_ne hr.units (de_var 1) (de_of (df_lst da_nil))) (dw_and1 (dt_eq hr.units (de_ix (de_var 1) (de_neg de_int) (fun _ _=>rfl)) de_int)))) (dss_one (ds_pop 1)))
    (dss_one (ds_ret (de_tuple1 rfl T.b_tuple (de_var 1))))))) (okM_hg hm)
noncomputable abbrev s_l_times:Stmt:=top 35
noncomputable abbrev n_l_times:List Str:=["_law_one", "_law_other", "_law_size", "_law_found", "_law_k", "_law_left", "_law_n", "_law_right"]
noncomputable abbrev p_l_times:List Str:=["_law_one", "_law_other", "_law_size"]
theorem sc_l_times:FnScope n_l_times p_l_times (defScope s_l_times):=⟨rfl,rfl,rfl,by decide +kernel,rfl,by decide +kernel,by decide +kernel⟩
theorem ok_l_times {P:Program} {w:World} {K:PySem.W.Frag} {mg:Str→Option Value} {base:Heap} {f:Addr} {fd:FuncData} {k:Nat} {m_l_trim:List D→M D} {m:List D→M D} (T:Tx K mg) (F:Fun K "_law_times" "_law_times" s_l_times f fd) (F_l_trim:FnD P w K mg base CX0 k "_law_trim" 1 m_l_trim)
    (hm:m=fun ds=>okM (fin (R.g_l_times m_l_trim (startN 8 ds)))):FnOk P w K mg base CX0 (k + 1) f fd p_l_times (spM K p_l_times.length m):=
  Fun.d (g:=R.g_l_times m_l_trim) F sc_l_times (fun cdv A outer s H E hr F0 H0=>(dss_cons (ds_own 3 sc_l_times.nd (df_mul (de_of (df_lst (da_cons de_int da_nil))) (de_add (de_len rfl T.b_len (de_var 0)) (de_len rfl T.b_len (de_var 1)))))
    (dss_cons (ds_for PassesOwn.never rfl (di_enum rfl T.b_enumerate (de_var 0)) (fun _=>(dg_tup rfl (dgs_cons 4 sc_l_times.nd (dgs_cons 5 sc_l_times.nd dgs_nil)))) (fun _=>(dss_one (ds_for PassesOwn.never rfl (di_enum rfl T.b_enumerate (de_var 1)) (fun _=>(dg_tup rfl (dgs_cons 6 sc_l_times.nd (dgs_cons 7 sc_l_times.nd dgs_nil)))) (fun _=>(dss_one (ds_store 3 (de_add (de_var 4) (de_var 6)) (de_mod (de_add (de_ix (de_var 3) (de_add (de_var 4) (de_var 6)) (fun _ _=>rfl)) (de_mul (de_var 5) (de_var 7))) (de_var 2)))))))))
    (dss_one (ds_ret (de_call F_l_trim hr rfl pass0' (da_cons (de_var 3) da_nil))))))) (okM_hg hm)
noncomputable abbrev s_l_rest:Stmt:=top 36
noncomputable abbrev n_l_rest:List Str:=["_law_one", "_law_other", "_law_size", "_law_found", "_law_lead", "_law_often", "_law_by"]
noncomputable abbrev p_l_rest:List Str:=["_law_one", "_law_other", "_law_size"]
theorem sc_l_rest:FnScope n_l_rest p_l_rest (defScope s_l_rest):=⟨rfl,rfl,rfl,by decide +kernel,rfl,by decide +kernel,by decide +kernel⟩
theorem ok_l_rest {P:Program} {w:World} {K:PySem.W.Frag} {mg:Str→Option Value} {base:Heap} {f:Addr} {fd:FuncData} {k:Nat} {m_l_trim:List D→M D} {m:List D→M D} (T:Tx K mg) (F:Fun K "_law_rest" "_law_rest" s_l_rest f fd) (F_l_trim:FnD P w K mg base CX0 k "_law_trim" 1 m_l_trim)
    (hm:m=fun ds=>okM (fin (R.g_l_rest m_l_trim (startN 7 ds)))):FnOk P w K mg base CX0 (k + 1) f fd p_l_rest (spM K p_l_rest.length m):=
  Fun.d (g:=R.g_l_rest m_l_trim) F sc_l_rest (fun cdv A outer s H E hr F0 H0=>(dss_cons (ds_set 3 sc_l_rest.nd (de_of (df_list1 rfl T.b_list (de_var 0))))
    (dss_cons (ds_set 4 sc_l_rest.nd (de_ix (de_of (df_comp 1 [2,1] ["_law_k"] ["_law_size", "_law_other"] rfl rfl (by decide) (by decide) (free_by (by rfl)) rfl ⟨rfl,.inl rfl,by decide,.inl rfl,⟨rfl,.inl rfl,by decide,.inl rfl,trivial⟩⟩ (by decide) (di_range1 rfl T.b_range (da_cons (de_var 2) da_nil)) (fun _ _ _ _ _ _=>(dg_name 0 (show (["_law_k", "_law_size", "_law_other"]:List Str).Nodup by decide +kernel))) (fun _ _ _ _ _ _=>(difs_one (dt_eq hr.units (de_mod (de_mul (de_var 0) (de_ix (de_var 2) (de_neg de_int) (fun _ _=>rfl))) (de_var 1)) de_int))) (fun _ _ _ _ _ _=>(de_var 0)))) de_int (fun _ _=>rfl)))
    (dss_cons (ds_while 200 PassesOwn.never (dt_ge (de_len rfl T.b_len (de_var 3)) (de_len rfl T.b_len (de_var 1))) (dss_cons (ds_set 5 sc_l_rest.nd (de_mul (de_ix (de_var 3) (de_neg de_int) (fun _ _=>rfl)) (de_var 4)))
    (dss_cons (ds_set 6 sc_l_rest.nd (de_sub (de_len rfl T.b_len (de_var 3)) (de_len rfl T.b_len (de_var 1))))
    (dss_one (ds_set 3 sc_l_rest.nd (de_of (df_list1 rfl T.b_list (de_call F_l_trim hr rfl pass0' (da_cons (de_of (df_comp 2 [2,5,1,6] ["_law_k", "_law_part"] ["_law_size", "_law_often", "_law_other", "_law_by"] rfl rfl (by decide) (by decide) (free_by (by rfl)) rfl ⟨rfl,.inl rfl,by decide,.inl rfl,⟨rfl,.inl rfl,by decide,.inl rfl,⟨rfl,.inl rfl,by decide,.inl rfl,⟨rfl,.inl rfl,by decide,.inl rfl,trivial⟩⟩⟩⟩ (by decide) (di_enum rfl T.b_enumerate (de_var 3)) (fun _ _ _ _ _ _=>(dg_tup rfl (dgs_cons 0 (show (["_law_k", "_law_part", "_law_size", "_law_often", "_law_other", "_law_by"]:List Str).Nodup by decide +kernel) (dgs_cons 1 (show (["_law_k", "_law_part", "_law_size", "_law_often", "_law_other", "_law_by"]:List Str).Nodup by decide +kernel) dgs_nil)))) (fun _ _ _ _ _ _=>difs_nil) (fun _ _ _ _ _ _=>(de_mod (de_sub (de_var 1) (de_mul (de_var 3) (de_ix (de_add (de_mul (de_tup (da_cons de_int da_nil)) (de_var 5)) (de_var 4)) (de_var 0) (fun _ _=>rfl)))) (de_var 2))))) da_nil)))))))))
    (dss_one (ds_ret (de_tuple1 rfl T.b_tuple (de_var 3)))))))) (okM_hg hm)
noncomputable abbrev s_l_is_long_sum:Stmt:=top 37
noncomputable abbrev n_l_is_long_sum:List Str:=["_law_thing", "_law_size"]
noncomputable abbrev p_l_is_long_sum:List Str:=["_law_thing", "_law_size"]
theorem sc_l_is_long_sum:FnScope n_l_is_long_sum p_l_is_long_sum (defScope s_l_is_long_sum):=⟨rfl,rfl,rfl,by decide +kernel,rfl,by decide +kernel,by decide +kernel⟩
theorem ok_l_is_long_sum {P:Program} {w:World} {K:PySem.W.Frag} {mg:Str→Option Value} {base:Heap} {f:Addr} {fd:FuncData} {k:Nat} {m_l_number:List D→M D} {m:List D→M D} (T:Tx K mg) (F:Fun K "_law_is_long_sum" "_law_is_long_sum" s_l_is_long_sum f fd) (F_l_number:FnD P w K mg base CX0 k "_law_number" 3 m_l_number)
    (hm:m=fun ds=>okM (fin (R.g_l_is_long_sum m_l_number (startN 2 ds)))):FnOk P w K mg base CX0 (k + 1) f fd p_l_is_long_sum (spM K p_l_is_long_sum.length m):=
  Fun.d (g:=R.g_l_is_long_sum m_l_number) F sc_l_is_long_sum (fun cdv A outer s H E hr F0 H0=>(dss_cons (ds_if (dt_w (dw_or (dt_not (dt_val (de_isi_tuple rfl T.b_isinstance rfl T.b_tuple (de_var 0)))) (dw_or1 (dt_ne hr.units (de_of (df_comp 1 [1] ["_law_part"] ["_law_size"] rfl rfl (by decide) (by decide) (free_by (by rfl)) rfl ⟨rfl,.inl rfl,by decide,.inl rfl,trivial⟩ (by decide) (di_seq (de_var 0)) (fun _ _ _ _ _ _=>(dg_name 0 (show (["_law_part", "_law_size"]:List Str).Nodup by decide +kernel))) (fun _ _ _ _ _ _=>(difs_one (dt_not (dt_val (de_call F_l_number hr rfl pass0' (da_cons (de_var 0) (da_cons de_int (da_cons (de_sub (de_var 1) de_int) da_nil)))))))) (fun _ _ _ _ _ _=>(de_var 0)))) (de_of (df_lst da_nil)))))) (dss_one (ds_ret de_bl)) dss_nil)
    (dss_one (ds_ret (de_or (de_eq hr.units (de_var 0) (de_tup da_nil)) (de_one (de_ne hr.units (de_ix (de_var 0) (de_neg de_int) (fun _ _=>rfl)) de_int))))))) (okM_hg hm)
noncomputable abbrev s_l_wholes:Stmt:=top 39
noncomputable abbrev n_l_wholes:List Str:=["_law_length", "_law_size", "_law_found", "_law_k", "_law_longer", "_law_some"]
noncomputable abbrev p_l_wholes:List Str:=["_law_length", "_law_size"]
theorem sc_l_wholes:FnScope n_l_wholes p_l_wholes (defScope s_l_wholes):=⟨rfl,rfl,rfl,by decide +kernel,rfl,by decide +kernel,by decide +kernel⟩
theorem ok_l_wholes {P:Program} {w:World} {K:PySem.W.Frag} {mg:Str→Option Value} {base:Heap} {f:Addr} {fd:FuncData} {k:Nat} {m:List D→M D} (T:Tx K mg) (F:Fun K "_law_wholes" "_law_wholes" s_l_wholes f fd)
    (hm:m=fun ds=>okM (fin (R.g_l_wholes (startN 6 ds)))):FnOk P w K mg base CX0 (k + 1) f fd p_l_wholes (spM K p_l_wholes.length m):=
  Fun.d (g:=R.g_l_wholes) F sc_l_wholes (fun cdv A outer s H E hr F0 H0=>(dss_cons (ds_set 2 sc_l_wholes.nd (de_of (df_lst (da_cons (de_tup da_nil) da_nil))))
    (dss_cons (ds_for PassesOwn.never rfl (di_range1 rfl T.b_range (da_cons (de_var 0) da_nil)) (fun _=>(dg_name 3 sc_l_wholes.nd)) (fun _=>(dss_cons (ds_set 4 sc_l_wholes.nd (de_of (df_lst da_nil)))
    (dss_cons (ds_for PassesOwn.never rfl (di_seq (de_var 2)) (fun _=>(dg_name 5 sc_l_wholes.nd)) (fun _=>(dss_one (ds_set 4 sc_l_wholes.nd (de_add (de_var 4) (de_of (df_comp 1 [5] ["_law_number_here"] ["_law_some"] rfl rfl (by decide) (by decide) (free_by (by rfl)) rfl ⟨rfl,.inl rfl,by decide,.inl rfl,trivial⟩ (by decide) (di_range1 rfl T.b_range (da_cons (de_var 1) da_nil)) (fun _ _ _ _ _ _=>(dg_name 0 (show (["_law_number_here", "_law_some"]:List Str).Nodup by decide +kernel))) (fun _ _ _ _ _ _=>difs_nil) (fun _ _ _ _ _ _=>(de_add (de_var 1) (de_tup (da_cons (de_var 0) da_nil)))))))))))
    (dss_one (ds_set 2 sc_l_wholes.nd (de_var 4)))))))
    (dss_one (ds_ret (de_of (df_comp 1 [] ["_law_some"] [] rfl rfl (by decide) (by decide) (free_by (by rfl)) rfl trivial (by decide) (di_seq (de_var 2)) (fun _ _ _ _ _ _=>(dg_name 0 (show (["_law_some"]:List Str).Nodup by decide +kernel))) (fun _ _ _ _ _ _=>difs_nil) (fun _ _ _ _ _ _=>(de_add (de_var 0) (de_tup (da_cons de_int da_nil))))))))))) (okM_hg hm)
noncomputable abbrev s_l_is_prime:Stmt:=top 40
noncomputable abbrev n_l_is_prime:List Str:=["_law_thing", "_law_size", "_law_length"]
noncomputable abbrev p_l_is_prime:List Str:=["_law_thing", "_law_size"]
theorem sc_l_is_prime:FnScope n_l_is_prime p_l_is_prime (defScope s_l_is_prime):=⟨rfl,rfl,rfl,by decide +kernel,rfl,by decide +kernel,by decide +kernel⟩
theorem ok_l_is_prime {P:Program} {w:World} {K:PySem.W.Frag} {mg:Str→Option Value} {base:Heap} {f:Addr} {fd:FuncData} {k:Nat} {m_l_wholes:List D→M D} {m_l_rest:List D→M D} {m:List D→M D} (T:Tx K mg) (F:Fun K "_law_is_prime" "_law_is_prime" s_l_is_prime f fd) (F_l_wholes:FnD P w K mg base CX0 k "_law_wholes" 2 m_l_wholes) (F_l_rest:FnD P w K mg base CX0 k "_law_rest" 3 m_l_rest)
    (hm:m=fun ds=>okM (fin (R.g_l_is_prime m_l_wholes m_l_rest (startN 3 ds)))):FnOk P w K mg base CX0 (k + 1) f fd p_l_is_prime (spM K p_l_is_prime.length m):=
  Fun.d (g:=R.g_l_is_prime m_l_wholes m_l_rest) F sc_l_is_prime (fun cdv A outer s H E hr F0 H0=>(dss_cons (ds_if (dt_lt (de_len rfl T.b_len (de_var 0)) de_int) (dss_one (ds_ret de_bl)) dss_nil)
    (dss_cons (ds_for PassesOwn.never rfl (di_range2 rfl T.b_range (da_cons de_int (da_cons (de_add (de_div (de_sub (de_len rfl T.b_len (de_var 0)) de_int) de_int) de_int) da_nil))) (fun _=>(dg_name 2 sc_l_is_prime.nd)) (fun _=>(dss_one (ds_if (dt_ne hr.units (de_of (df_comp 1 [0,1] ["_law_some"] ["_law_thing", "_law_size"] rfl rfl (by decide) (by decide) (free_by (by rfl)) rfl ⟨rfl,.inl rfl,by decide,.inl rfl,⟨rfl,.inl rfl,by decide,.inl rfl,trivial⟩⟩ (by decide) (di_seq (de_call F_l_wholes hr rfl pass0' (da_cons (de_var 2) (da_cons (de_var 1) da_nil)))) (fun _ _ _ _ _ _=>(dg_name 0 (show (["_law_some", "_law_thing", "_law_size"]:List Str).Nodup by decide +kernel))) (fun _ _ _ _ _ _=>(difs_one (dt_eq hr.units (de_call F_l_rest hr rfl pass0' (da_cons (de_var 1) (da_cons (de_var 0) (da_cons (de_var 2) da_nil)))) (de_tup da_nil)))) (fun _ _ _ _ _ _=>(de_var 0)))) (de_of (df_lst da_nil))) (dss_one (ds_ret de_bl)) dss_nil))))
    (dss_one (ds_ret de_bl))))) (okM_hg hm)
noncomputable abbrev s_law:Stmt:=top 41
noncomputable abbrev n_law:List Str:=["_law_script", "_law_size", "_law_most", "_law_thing", "_law_one", "_law_other", "_law_found", "_law_told"]
noncomputable abbrev p_law:List Str:=["_law_script"]
theorem sc_law:FnScope n_law p_law (defScope s_law):=⟨rfl,rfl,rfl,by decide +kernel,rfl,by decide +kernel,by decide +kernel⟩
theorem ok_law {P:Program} {w:World} {K:PySem.W.Frag} {mg:Str→Option Value} {base:Heap} {f:Addr} {fd:FuncData} {k:Nat} {m_l_mixed:List D→M D} {m_l_sum:List D→M D} {m_l_times:List D→M D} {m_split:List D→M D} {m_is_prime:List D→M D} {m_l_is_prime:List D→M D} {m_l_is_long_sum:List D→M D} {m:List D→M D} (T:Tx K mg) (F:Fun K "law" "law" s_law f fd) (F_l_mixed:FnD P w K mg base CX0 k "_law_mixed" 2 m_l_mixed) (F_l_sum:FnD P w K mg base CX0 k "_law_sum" 3 m_l_sum) (F_l_times:FnD P w K mg base CX0 k "_law_times" 3 m_l_times) (F_split:FnD P w K mg base CX0 k "split" 2 m_split) (F_is_prime:FnD P w K mg base CX0 k "is_prime" 2 m_is_prime) (F_l_is_prime:FnD P w K mg base CX0 k "_law_is_prime" 2 m_l_is_prime) (F_l_is_long_sum:FnD P w K mg base CX0 k "_law_is_long_sum" 2 m_l_is_long_sum)
    (hm:m=fun ds=>okM (fin (R.g_law_k21 m_l_mixed m_l_sum m_l_times m_split m_is_prime m_l_is_prime m_l_is_long_sum (startN 8 ds)))):FnOk P w K mg base CX0 (k + 1) f fd p_law (spM K p_law.length m):=
  Fun.d (g:=R.g_law_k21 m_l_mixed m_l_sum m_l_times m_split m_is_prime m_l_is_prime m_l_is_long_sum) F sc_law (fun cdv A outer s H E hr F0 H0=>(dss_cons (ds_set 1 sc_law.nd (de_ix (de_tup (da_cons de_int (da_cons de_int (da_cons de_int da_nil)))) (de_mod (de_call F_l_mixed hr rfl pass0' (da_cons (de_var 0) (da_cons de_int da_nil))) de_int) (fun _ _=>rfl)))
    (dss_cons (ds_set 2 sc_law.nd (de_dget hr.units de_disp3 (de_var 1)))
    (dss_cons (ds_set 3 sc_law.nd (de_call F_l_sum hr rfl pass0' (da_cons (de_call F_l_mixed hr rfl pass0' (da_cons (de_var 0) (da_cons de_int da_nil))) (da_cons (de_var 1) (da_cons (de_var 2) da_nil)))))
    (dss_cons (ds_if (dt_eq hr.units (de_mod (de_call F_l_mixed hr rfl pass0' (da_cons (de_var 0) (da_cons de_int da_nil))) de_int) de_int) (dss_cons (ds_set 4 sc_law.nd (de_call F_l_sum hr rfl pass0' (da_cons (de_call F_l_mixed hr rfl pass0' (da_cons (de_var 0) (da_cons de_int da_nil))) (da_cons (de_var 1) (da_cons (de_div (de_var 2) de_int) da_nil)))))
    (dss_cons (ds_set 5 sc_law.nd (de_call F_l_sum hr rfl pass0' (da_cons (de_call F_l_mixed hr rfl pass0' (da_cons (de_var 0) (da_cons de_int da_nil))) (da_cons (de_var 1) (da_cons (de_div (de_var 2) de_int) da_nil)))))
    (dss_one (ds_set 3 sc_law.nd (de_call F_l_times hr rfl pass0' (da_cons (de_var 4) (da_cons (de_var 5) (da_cons (de_var 1) da_nil)))))))) dss_nil)
    (dss_cons (ds_set 6 sc_law.nd (de_call F_split hr rfl pass0' (da_cons (de_var 3) (da_cons (de_var 1) da_nil))))
    (dss_cons (ds_set 7 sc_law.nd (de_call F_is_prime hr rfl pass0' (da_cons (de_var 3) (da_cons (de_var 1) da_nil))))
    (dss_cons (ds_if (dt_w (dw_or (dt_not (dt_val (de_isi_bool rfl T.b_isinstance rfl T.b_bool (de_var 7)))) (dw_or1 (dt_ne hr.units (de_var 7) (de_and (de_gt (de_len rfl T.b_len (de_var 3)) de_int) (de_one (de_isN (de_var 6)))))))) (dss_one (ds_ret de_bl)) dss_nil)
    (dss_cons (ds_if (dt_isN (de_var 6)) (dss_one (ds_ret (de_or (de_lt (de_len rfl T.b_len (de_var 3)) de_int) (de_one (de_call F_l_is_prime hr rfl pass0' (da_cons (de_var 3) (da_cons (de_var 1) da_nil))))))) dss_nil)
    (dss_cons (ds_if (dt_w (dw_or (dt_not (dt_val (de_isi_tuple rfl T.b_isinstance rfl T.b_tuple (de_var 6)))) (dw_or1 (dt_ne hr.units (de_len rfl T.b_len (de_var 6)) de_int)))) (dss_one (ds_ret de_bl)) dss_nil)
    (dss_cons (ds_if (dt_ne hr.units (de_of (df_comp 1 [1] ["_law_part"] ["_law_size"] rfl rfl (by decide) (by decide) (free_by (by rfl)) rfl ⟨rfl,.inl rfl,by decide,.inl rfl,trivial⟩ (by decide) (di_seq (de_var 6)) (fun _ _ _ _ _ _=>(dg_name 0 (show (["_law_part", "_law_size"]:List Str).Nodup by decide +kernel))) (fun _ _ _ _ _ _=>(difs_one (dt_w (dw_or (dt_not (dt_val (de_call F_l_is_long_sum hr rfl pass0' (da_cons (de_var 0) (da_cons (de_var 1) da_nil))))) (dw_or1 (dt_lt (de_len rfl T.b_len (de_var 0)) de_int)))))) (fun _ _ _ _ _ _=>(de_var 0)))) (de_of (df_lst da_nil))) (dss_one (ds_ret de_bl)) dss_nil)
    (dss_one (ds_ret (de_eq hr.units (de_call F_l_times hr rfl pass0' (da_cons (de_ix (de_var 6) de_int (fun _ _=>rfl)) (da_cons (de_ix (de_var 6) de_int (fun _ _=>rfl)) (da_cons (de_var 1) da_nil)))) (de_var 3))))))))))))))) (okM_hg hm)
theorem all_mk {l:PySem.W.OpenLaw} {w:World} {K:PySem.W.Frag} {h:Heap} {mg:Str→Option Value} {fa:Addr} (X:K.In h) (G:h.Ns mainGlobals mg) (hfa:mg "law" = some (.ref fa))
    {f1:Addr} {od1 an1:Option Addr} {sl1:Array (Option Value)} {oc1 kV1 dc1 pm1 cd1 ct1:Value}
    (a1:PySem.W.nsIn K mainGlobals "trimmed" = some (some (.ref f1))) (l1:K.lookup f1=some ⟨oc1,od1,.func (PySem.W.fnOf "trimmed" "trimmed" (defArgs s_trimmed) (defBody s_trimmed) (defScope s_trimmed) .none kV1 dc1 pm1 an1 cd1 ct1),sl1⟩) (c1:PySem.W.codeIn K cd1 "trimmed" = true) (k1:PySem.W.keepIn K (.ref f1)=true)
    {f2:Addr} {od2 an2:Option Addr} {sl2:Array (Option Value)} {oc2 kV2 dc2 pm2 cd2 ct2:Value}
    (a2:PySem.W.nsIn K mainGlobals "lone_power" = some (some (.ref f2))) (l2:K.lookup f2=some ⟨oc2,od2,.func (PySem.W.fnOf "lone_power" "lone_power" (defArgs s_lone_power) (defBody s_lone_power) (defScope s_lone_power) .none kV2 dc2 pm2 an2 cd2 ct2),sl2⟩) (c2:PySem.W.codeIn K cd2 "lone_power" = true) (k2:PySem.W.keepIn K (.ref f2)=true)
    {f3:Addr} {od3 an3:Option Addr} {sl3:Array (Option Value)} {oc3 kV3 dc3 pm3 cd3 ct3:Value}
    (a3:PySem.W.nsIn K mainGlobals "scaled" = some (some (.ref f3))) (l3:K.lookup f3=some ⟨oc3,od3,.func (PySem.W.fnOf "scaled" "scaled" (defArgs s_scaled) (defBody s_scaled) (defScope s_scaled) .none kV3 dc3 pm3 an3 cd3 ct3),sl3⟩) (c3:PySem.W.codeIn K cd3 "scaled" = true) (k3:PySem.W.keepIn K (.ref f3)=true)
    {f4:Addr} {od4 an4:Option Addr} {sl4:Array (Option Value)} {oc4 kV4 dc4 pm4 cd4 ct4:Value}
    (a4:PySem.W.nsIn K mainGlobals "turned_number" = some (some (.ref f4))) (l4:K.lookup f4=some ⟨oc4,od4,.func (PySem.W.fnOf "turned_number" "turned_number" (defArgs s_turned_number) (defBody s_turned_number) (defScope s_turned_number) .none kV4 dc4 pm4 an4 cd4 ct4),sl4⟩) (c4:PySem.W.codeIn K cd4 "turned_number" = true) (k4:PySem.W.keepIn K (.ref f4)=true)
    {f5:Addr} {od5 an5:Option Addr} {sl5:Array (Option Value)} {oc5 kV5 dc5 pm5 cd5 ct5:Value}
    (a5:PySem.W.nsIn K mainGlobals "plus" = some (some (.ref f5))) (l5:K.lookup f5=some ⟨oc5,od5,.func (PySem.W.fnOf "plus" "plus" (defArgs s_plus) (defBody s_plus) (defScope s_plus) .none kV5 dc5 pm5 an5 cd5 ct5),sl5⟩) (c5:PySem.W.codeIn K cd5 "plus" = true) (k5:PySem.W.keepIn K (.ref f5)=true)
    {f6:Addr} {od6 an6:Option Addr} {sl6:Array (Option Value)} {oc6 kV6 dc6 pm6 cd6 ct6:Value}
    (a6:PySem.W.nsIn K mainGlobals "minus" = some (some (.ref f6))) (l6:K.lookup f6=some ⟨oc6,od6,.func (PySem.W.fnOf "minus" "minus" (defArgs s_minus) (defBody s_minus) (defScope s_minus) .none kV6 dc6 pm6 an6 cd6 ct6),sl6⟩) (c6:PySem.W.codeIn K cd6 "minus" = true) (k6:PySem.W.keepIn K (.ref f6)=true)
    {f7:Addr} {od7 an7:Option Addr} {sl7:Array (Option Value)} {oc7 kV7 dc7 pm7 cd7 ct7:Value}
    (a7:PySem.W.nsIn K mainGlobals "times" = some (some (.ref f7))) (l7:K.lookup f7=some ⟨oc7,od7,.func (PySem.W.fnOf "times" "times" (defArgs s_times) (defBody s_times) (defScope s_times) .none kV7 dc7 pm7 an7 cd7 ct7),sl7⟩) (c7:PySem.W.codeIn K cd7 "times" = true) (k7:PySem.W.keepIn K (.ref f7)=true)
    {f8:Addr} {od8 an8:Option Addr} {sl8:Array (Option Value)} {oc8 kV8 dc8 pm8 cd8 ct8:Value}
    (a8:PySem.W.nsIn K mainGlobals "parted" = some (some (.ref f8))) (l8:K.lookup f8=some ⟨oc8,od8,.func (PySem.W.fnOf "parted" "parted" (defArgs s_parted) (defBody s_parted) (defScope s_parted) .none kV8 dc8 pm8 an8 cd8 ct8),sl8⟩) (c8:PySem.W.codeIn K cd8 "parted" = true) (k8:PySem.W.keepIn K (.ref f8)=true)
    {f9:Addr} {od9 an9:Option Addr} {sl9:Array (Option Value)} {oc9 kV9 dc9 pm9 cd9 ct9:Value}
    (a9:PySem.W.nsIn K mainGlobals "rest_by" = some (some (.ref f9))) (l9:K.lookup f9=some ⟨oc9,od9,.func (PySem.W.fnOf "rest_by" "rest_by" (defArgs s_rest_by) (defBody s_rest_by) (defScope s_rest_by) .none kV9 dc9 pm9 an9 cd9 ct9),sl9⟩) (c9:PySem.W.codeIn K cd9 "rest_by" = true) (k9:PySem.W.keepIn K (.ref f9)=true)
    {f10:Addr} {od10 an10:Option Addr} {sl10:Array (Option Value)} {oc10 kV10 dc10 pm10 cd10 ct10:Value}
    (a10:PySem.W.nsIn K mainGlobals "value" = some (some (.ref f10))) (l10:K.lookup f10=some ⟨oc10,od10,.func (PySem.W.fnOf "value" "value" (defArgs s_value) (defBody s_value) (defScope s_value) .none kV10 dc10 pm10 an10 cd10 ct10),sl10⟩) (c10:PySem.W.codeIn K cd10 "value" = true) (k10:PySem.W.keepIn K (.ref f10)=true)
    {f11:Addr} {od11 an11:Option Addr} {sl11:Array (Option Value)} {oc11 kV11 dc11 pm11 cd11 ct11:Value}
    (a11:PySem.W.nsIn K mainGlobals "roots" = some (some (.ref f11))) (l11:K.lookup f11=some ⟨oc11,od11,.func (PySem.W.fnOf "roots" "roots" (defArgs s_roots) (defBody s_roots) (defScope s_roots) .none kV11 dc11 pm11 an11 cd11 ct11),sl11⟩) (c11:PySem.W.codeIn K cd11 "roots" = true) (k11:PySem.W.keepIn K (.ref f11)=true)
    {f12:Addr} {od12 an12:Option Addr} {sl12:Array (Option Value)} {oc12 kV12 dc12 pm12 cd12 ct12:Value}
    (a12:PySem.W.nsIn K mainGlobals "row_less" = some (some (.ref f12))) (l12:K.lookup f12=some ⟨oc12,od12,.func (PySem.W.fnOf "row_less" "row_less" (defArgs s_row_less) (defBody s_row_less) (defScope s_row_less) .none kV12 dc12 pm12 an12 cd12 ct12),sl12⟩) (c12:PySem.W.codeIn K cd12 "row_less" = true) (k12:PySem.W.keepIn K (.ref f12)=true)
    {f13:Addr} {od13 an13:Option Addr} {sl13:Array (Option Value)} {oc13 kV13 dc13 pm13 cd13 ct13:Value}
    (a13:PySem.W.nsIn K mainGlobals "common" = some (some (.ref f13))) (l13:K.lookup f13=some ⟨oc13,od13,.func (PySem.W.fnOf "common" "common" (defArgs s_common) (defBody s_common) (defScope s_common) .none kV13 dc13 pm13 an13 cd13 ct13),sl13⟩) (c13:PySem.W.codeIn K cd13 "common" = true) (k13:PySem.W.keepIn K (.ref f13)=true)
    {f14:Addr} {od14 an14:Option Addr} {sl14:Array (Option Value)} {oc14 kV14 dc14 pm14 cd14 ct14:Value}
    (a14:PySem.W.nsIn K mainGlobals "slope" = some (some (.ref f14))) (l14:K.lookup f14=some ⟨oc14,od14,.func (PySem.W.fnOf "slope" "slope" (defArgs s_slope) (defBody s_slope) (defScope s_slope) .none kV14 dc14 pm14 an14 cd14 ct14),sl14⟩) (c14:PySem.W.codeIn K cd14 "slope" = true) (k14:PySem.W.keepIn K (.ref f14)=true)
    {f15:Addr} {od15 an15:Option Addr} {sl15:Array (Option Value)} {oc15 kV15 dc15 pm15 cd15 ct15:Value}
    (a15:PySem.W.nsIn K mainGlobals "cleared" = some (some (.ref f15))) (l15:K.lookup f15=some ⟨oc15,od15,.func (PySem.W.fnOf "cleared" "cleared" (defArgs s_cleared) (defBody s_cleared) (defScope s_cleared) .none kV15 dc15 pm15 an15 cd15 ct15),sl15⟩) (c15:PySem.W.codeIn K cd15 "cleared" = true) (k15:PySem.W.keepIn K (.ref f15)=true)
    {f16:Addr} {od16 an16:Option Addr} {sl16:Array (Option Value)} {oc16 kV16 dc16 pm16 cd16 ct16:Value}
    (a16:PySem.W.nsIn K mainGlobals "steady_sum" = some (some (.ref f16))) (l16:K.lookup f16=some ⟨oc16,od16,.func (PySem.W.fnOf "steady_sum" "steady_sum" (defArgs s_steady_sum) (defBody s_steady_sum) (defScope s_steady_sum) .none kV16 dc16 pm16 an16 cd16 ct16),sl16⟩) (c16:PySem.W.codeIn K cd16 "steady_sum" = true) (k16:PySem.W.keepIn K (.ref f16)=true)
    {f17:Addr} {od17 an17:Option Addr} {sl17:Array (Option Value)} {oc17 kV17 dc17 pm17 cd17 ct17:Value}
    (a17:PySem.W.nsIn K mainGlobals "part_by_steady" = some (some (.ref f17))) (l17:K.lookup f17=some ⟨oc17,od17,.func (PySem.W.fnOf "part_by_steady" "part_by_steady" (defArgs s_part_by_steady) (defBody s_part_by_steady) (defScope s_part_by_steady) .none kV17 dc17 pm17 an17 cd17 ct17),sl17⟩) (c17:PySem.W.codeIn K cd17 "part_by_steady" = true) (k17:PySem.W.keepIn K (.ref f17)=true)
    {f18:Addr} {od18 an18:Option Addr} {sl18:Array (Option Value)} {oc18 kV18 dc18 pm18 cd18 ct18:Value}
    (a18:PySem.W.nsIn K mainGlobals "part_of" = some (some (.ref f18))) (l18:K.lookup f18=some ⟨oc18,od18,.func (PySem.W.fnOf "part_of" "part_of" (defArgs s_part_of) (defBody s_part_of) (defScope s_part_of) .none kV18 dc18 pm18 an18 cd18 ct18),sl18⟩) (c18:PySem.W.codeIn K cd18 "part_of" = true) (k18:PySem.W.keepIn K (.ref f18)=true)
    {f19:Addr} {od19 an19:Option Addr} {sl19:Array (Option Value)} {oc19 kV19 dc19 pm19 cd19 ct19:Value}
    (a19:PySem.W.nsIn K mainGlobals "split" = some (some (.ref f19))) (l19:K.lookup f19=some ⟨oc19,od19,.func (PySem.W.fnOf "split" "split" (defArgs s_split) (defBody s_split) (defScope s_split) .none kV19 dc19 pm19 an19 cd19 ct19),sl19⟩) (c19:PySem.W.codeIn K cd19 "split" = true) (k19:PySem.W.keepIn K (.ref f19)=true)
    {f20:Addr} {od20 an20:Option Addr} {sl20:Array (Option Value)} {oc20 kV20 dc20 pm20 cd20 ct20:Value}
    (a20:PySem.W.nsIn K mainGlobals "is_prime" = some (some (.ref f20))) (l20:K.lookup f20=some ⟨oc20,od20,.func (PySem.W.fnOf "is_prime" "is_prime" (defArgs s_is_prime) (defBody s_is_prime) (defScope s_is_prime) .none kV20 dc20 pm20 an20 cd20 ct20),sl20⟩) (c20:PySem.W.codeIn K cd20 "is_prime" = true) (k20:PySem.W.keepIn K (.ref f20)=true)
    {f21:Addr} {od21 an21:Option Addr} {sl21:Array (Option Value)} {oc21 kV21 dc21 pm21 cd21 ct21:Value}
    (a21:PySem.W.nsIn K mainGlobals "_law_cell_at" = some (some (.ref f21))) (l21:K.lookup f21=some ⟨oc21,od21,.func (PySem.W.fnOf "_law_cell_at" "_law_cell_at" (defArgs s_l_cell_at) (defBody s_l_cell_at) (defScope s_l_cell_at) .none kV21 dc21 pm21 an21 cd21 ct21),sl21⟩) (c21:PySem.W.codeIn K cd21 "_law_cell_at" = true) (k21:PySem.W.keepIn K (.ref f21)=true)
    {f22:Addr} {od22 an22:Option Addr} {sl22:Array (Option Value)} {oc22 kV22 dc22 pm22 cd22 ct22:Value}
    (a22:PySem.W.nsIn K mainGlobals "_law_mixed" = some (some (.ref f22))) (l22:K.lookup f22=some ⟨oc22,od22,.func (PySem.W.fnOf "_law_mixed" "_law_mixed" (defArgs s_l_mixed) (defBody s_l_mixed) (defScope s_l_mixed) .none kV22 dc22 pm22 an22 cd22 ct22),sl22⟩) (c22:PySem.W.codeIn K cd22 "_law_mixed" = true) (k22:PySem.W.keepIn K (.ref f22)=true)
    {f23:Addr} {od23 an23:Option Addr} {sl23:Array (Option Value)} {oc23 kV23 dc23 pm23 cd23 ct23:Value}
    (a23:PySem.W.nsIn K mainGlobals "_law_drawn" = some (some (.ref f23))) (l23:K.lookup f23=some ⟨oc23,od23,.func (PySem.W.fnOf "_law_drawn" "_law_drawn" (defArgs s_l_drawn) (defBody s_l_drawn) (defScope s_l_drawn) .none kV23 dc23 pm23 an23 cd23 ct23),sl23⟩) (c23:PySem.W.codeIn K cd23 "_law_drawn" = true) (k23:PySem.W.keepIn K (.ref f23)=true)
    {f24:Addr} {od24 an24:Option Addr} {sl24:Array (Option Value)} {oc24 kV24 dc24 pm24 cd24 ct24:Value}
    (a24:PySem.W.nsIn K mainGlobals "_law_number" = some (some (.ref f24))) (l24:K.lookup f24=some ⟨oc24,od24,.func (PySem.W.fnOf "_law_number" "_law_number" (defArgs s_l_number) (defBody s_l_number) (defScope s_l_number) .none kV24 dc24 pm24 an24 cd24 ct24),sl24⟩) (c24:PySem.W.codeIn K cd24 "_law_number" = true) (k24:PySem.W.keepIn K (.ref f24)=true)
    {f25:Addr} {od25 an25:Option Addr} {sl25:Array (Option Value)} {oc25 kV25 dc25 pm25 cd25 ct25:Value}
    (a25:PySem.W.nsIn K mainGlobals "_law_sum" = some (some (.ref f25))) (l25:K.lookup f25=some ⟨oc25,od25,.func (PySem.W.fnOf "_law_sum" "_law_sum" (defArgs s_l_sum) (defBody s_l_sum) (defScope s_l_sum) .none kV25 dc25 pm25 an25 cd25 ct25),sl25⟩) (c25:PySem.W.codeIn K cd25 "_law_sum" = true) (k25:PySem.W.keepIn K (.ref f25)=true)
    {f26:Addr} {od26 an26:Option Addr} {sl26:Array (Option Value)} {oc26 kV26 dc26 pm26 cd26 ct26:Value}
    (a26:PySem.W.nsIn K mainGlobals "_law_trim" = some (some (.ref f26))) (l26:K.lookup f26=some ⟨oc26,od26,.func (PySem.W.fnOf "_law_trim" "_law_trim" (defArgs s_l_trim) (defBody s_l_trim) (defScope s_l_trim) .none kV26 dc26 pm26 an26 cd26 ct26),sl26⟩) (c26:PySem.W.codeIn K cd26 "_law_trim" = true) (k26:PySem.W.keepIn K (.ref f26)=true)
    {f27:Addr} {od27 an27:Option Addr} {sl27:Array (Option Value)} {oc27 kV27 dc27 pm27 cd27 ct27:Value}
    (a27:PySem.W.nsIn K mainGlobals "_law_times" = some (some (.ref f27))) (l27:K.lookup f27=some ⟨oc27,od27,.func (PySem.W.fnOf "_law_times" "_law_times" (defArgs s_l_times) (defBody s_l_times) (defScope s_l_times) .none kV27 dc27 pm27 an27 cd27 ct27),sl27⟩) (c27:PySem.W.codeIn K cd27 "_law_times" = true) (k27:PySem.W.keepIn K (.ref f27)=true)
    {f28:Addr} {od28 an28:Option Addr} {sl28:Array (Option Value)} {oc28 kV28 dc28 pm28 cd28 ct28:Value}
    (a28:PySem.W.nsIn K mainGlobals "_law_rest" = some (some (.ref f28))) (l28:K.lookup f28=some ⟨oc28,od28,.func (PySem.W.fnOf "_law_rest" "_law_rest" (defArgs s_l_rest) (defBody s_l_rest) (defScope s_l_rest) .none kV28 dc28 pm28 an28 cd28 ct28),sl28⟩) (c28:PySem.W.codeIn K cd28 "_law_rest" = true) (k28:PySem.W.keepIn K (.ref f28)=true)
    {f29:Addr} {od29 an29:Option Addr} {sl29:Array (Option Value)} {oc29 kV29 dc29 pm29 cd29 ct29:Value}
    (a29:PySem.W.nsIn K mainGlobals "_law_is_long_sum" = some (some (.ref f29))) (l29:K.lookup f29=some ⟨oc29,od29,.func (PySem.W.fnOf "_law_is_long_sum" "_law_is_long_sum" (defArgs s_l_is_long_sum) (defBody s_l_is_long_sum) (defScope s_l_is_long_sum) .none kV29 dc29 pm29 an29 cd29 ct29),sl29⟩) (c29:PySem.W.codeIn K cd29 "_law_is_long_sum" = true) (k29:PySem.W.keepIn K (.ref f29)=true)
    {f30:Addr} {od30 an30:Option Addr} {sl30:Array (Option Value)} {oc30 kV30 dc30 pm30 cd30 ct30:Value}
    (a30:PySem.W.nsIn K mainGlobals "_law_wholes" = some (some (.ref f30))) (l30:K.lookup f30=some ⟨oc30,od30,.func (PySem.W.fnOf "_law_wholes" "_law_wholes" (defArgs s_l_wholes) (defBody s_l_wholes) (defScope s_l_wholes) .none kV30 dc30 pm30 an30 cd30 ct30),sl30⟩) (c30:PySem.W.codeIn K cd30 "_law_wholes" = true) (k30:PySem.W.keepIn K (.ref f30)=true)
    {f31:Addr} {od31 an31:Option Addr} {sl31:Array (Option Value)} {oc31 kV31 dc31 pm31 cd31 ct31:Value}
    (a31:PySem.W.nsIn K mainGlobals "_law_is_prime" = some (some (.ref f31))) (l31:K.lookup f31=some ⟨oc31,od31,.func (PySem.W.fnOf "_law_is_prime" "_law_is_prime" (defArgs s_l_is_prime) (defBody s_l_is_prime) (defScope s_l_is_prime) .none kV31 dc31 pm31 an31 cd31 ct31),sl31⟩) (c31:PySem.W.codeIn K cd31 "_law_is_prime" = true) (k31:PySem.W.keepIn K (.ref f31)=true)
    {f32:Addr} {od32 an32:Option Addr} {sl32:Array (Option Value)} {oc32 kV32 dc32 pm32 cd32 ct32:Value}
    (a32:PySem.W.nsIn K mainGlobals "law" = some (some (.ref f32))) (l32:K.lookup f32=some ⟨oc32,od32,.func (PySem.W.fnOf "law" "law" (defArgs s_law) (defBody s_law) (defScope s_law) .none kV32 dc32 pm32 an32 cd32 ct32),sl32⟩) (c32:PySem.W.codeIn K cd32 "law" = true) (k32:PySem.W.keepIn K (.ref f32)=true)
    (z_bool:PySem.W.nsIn K mainGlobals "bool" = some none)
    (z_enumerate:PySem.W.nsIn K mainGlobals "enumerate" = some none)
    (z_int:PySem.W.nsIn K mainGlobals "int" = some none)
    (z_isinstance:PySem.W.nsIn K mainGlobals "isinstance" = some none)
    (z_len:PySem.W.nsIn K mainGlobals "len" = some none)
    (z_list:PySem.W.nsIn K mainGlobals "list" = some none)
    (z_max:PySem.W.nsIn K mainGlobals "max" = some none)
    (z_range:PySem.W.nsIn K mainGlobals "range" = some none)
    (z_reversed:PySem.W.nsIn K mainGlobals "reversed" = some none)
    (z_tuple:PySem.W.nsIn K mainGlobals "tuple" = some none)
    (z_zip:PySem.W.nsIn K mainGlobals "zip" = some none)
    {t_ONE:Addr} {od_ONE:Option Addr} {n_ONE:Nat} {sl_ONE:Array (Option Value)} {tk_ONE_0:Tok} (y_ONE:PySem.W.nsIn K mainGlobals "ONE" = some (some (.ref t_ONE))) (o_ONE:K.lookup t_ONE=some ⟨.type "tuple",od_ONE,.seq #[.int 1 tk_ONE_0] n_ONE,sl_ONE⟩)
    : ∃ fd:FuncData,(∀ (s:Shared) (v:Value),BindsTo s fd ⟨[v],[]⟩ [("_law_script",v)])∧∀ base:Heap,K.In base→base.Ns mainGlobals mg→FnOk l.prog w K mg base CX0 9 fa fd ["_law_script"] (spM K 1 R.m_law_k21):=by
  have e:=hfa.symm.trans (PySem.W.mg_of X G a32)
  cases e
  have T:Tx K mg:=⟨PySem.W.mg_none_of X G z_bool,PySem.W.mg_none_of X G z_enumerate,PySem.W.mg_none_of X G z_int,PySem.W.mg_none_of X G z_isinstance,PySem.W.mg_none_of X G z_len,PySem.W.mg_none_of X G z_list,PySem.W.mg_none_of X G z_max,PySem.W.mg_none_of X G z_range,PySem.W.mg_none_of X G z_reversed,PySem.W.mg_none_of X G z_tuple,PySem.W.mg_none_of X G z_zip,⟨_,PySem.W.mg_of X G y_ONE,_,_,_,o_ONE,rfl,rfl,by show 1 ≤ sizeLine; decide,.cons ⟨_,rfl⟩ (.nil)⟩⟩
  have F1:=fun_mk (st:=s_trimmed) l1 c1 k1
  have b1:=F1.binds (ps:=p_trimmed) fun _ _ _ _ _ _ us hl=>match us,hl with | [_],_=>rfl
  have F2:=fun_mk (st:=s_lone_power) l2 c2 k2
  have b2:=F2.binds (ps:=p_lone_power) fun _ _ _ _ _ _ us hl=>match us,hl with | [_],_=>rfl
  have F3:=fun_mk (st:=s_scaled) l3 c3 k3
  have b3:=F3.binds (ps:=p_scaled) fun _ _ _ _ _ _ us hl=>match us,hl with | [_,_,_],_=>rfl
  have F4:=fun_mk (st:=s_turned_number) l4 c4 k4
  have b4:=F4.binds (ps:=p_turned_number) fun _ _ _ _ _ _ us hl=>match us,hl with | [_,_],_=>rfl
  have F5:=fun_mk (st:=s_plus) l5 c5 k5
  have b5:=F5.binds (ps:=p_plus) fun _ _ _ _ _ _ us hl=>match us,hl with | [_,_,_],_=>rfl
  have F6:=fun_mk (st:=s_minus) l6 c6 k6
  have b6:=F6.binds (ps:=p_minus) fun _ _ _ _ _ _ us hl=>match us,hl with | [_,_,_],_=>rfl
  have F7:=fun_mk (st:=s_times) l7 c7 k7
  have b7:=F7.binds (ps:=p_times) fun _ _ _ _ _ _ us hl=>match us,hl with | [_,_,_],_=>rfl
  have F8:=fun_mk (st:=s_parted) l8 c8 k8
  have b8:=F8.binds (ps:=p_parted) fun _ _ _ _ _ _ us hl=>match us,hl with | [_,_,_],_=>rfl
  have F9:=fun_mk (st:=s_rest_by) l9 c9 k9
  have b9:=F9.binds (ps:=p_rest_by) fun _ _ _ _ _ _ us hl=>match us,hl with | [_,_,_],_=>rfl
  have F10:=fun_mk (st:=s_value) l10 c10 k10
  have b10:=F10.binds (ps:=p_value) fun _ _ _ _ _ _ us hl=>match us,hl with | [_,_,_],_=>rfl
  have F11:=fun_mk (st:=s_roots) l11 c11 k11
  have b11:=F11.binds (ps:=p_roots) fun _ _ _ _ _ _ us hl=>match us,hl with | [_,_],_=>rfl
  have F12:=fun_mk (st:=s_row_less) l12 c12 k12
  have b12:=F12.binds (ps:=p_row_less) fun _ _ _ _ _ _ us hl=>match us,hl with | [_,_,_],_=>rfl
  have F13:=fun_mk (st:=s_common) l13 c13 k13
  have b13:=F13.binds (ps:=p_common) fun _ _ _ _ _ _ us hl=>match us,hl with | [_,_,_],_=>rfl
  have F14:=fun_mk (st:=s_slope) l14 c14 k14
  have b14:=F14.binds (ps:=p_slope) fun _ _ _ _ _ _ us hl=>match us,hl with | [_,_],_=>rfl
  have F15:=fun_mk (st:=s_cleared) l15 c15 k15
  have b15:=F15.binds (ps:=p_cleared) fun _ _ _ _ _ _ us hl=>match us,hl with | [_,_,_],_=>rfl
  have F16:=fun_mk (st:=s_steady_sum) l16 c16 k16
  have b16:=F16.binds (ps:=p_steady_sum) fun _ _ _ _ _ _ us hl=>match us,hl with | [_,_],_=>rfl
  have F17:=fun_mk (st:=s_part_by_steady) l17 c17 k17
  have b17:=F17.binds (ps:=p_part_by_steady) fun _ _ _ _ _ _ us hl=>match us,hl with | [_,_],_=>rfl
  have F18:=fun_mk (st:=s_part_of) l18 c18 k18
  have b18:=F18.binds (ps:=p_part_of) fun _ _ _ _ _ _ us hl=>match us,hl with | [_,_],_=>rfl
  have F19:=fun_mk (st:=s_split) l19 c19 k19
  have b19:=F19.binds (ps:=p_split) fun _ _ _ _ _ _ us hl=>match us,hl with | [_,_],_=>rfl
  have F20:=fun_mk (st:=s_is_prime) l20 c20 k20
  have b20:=F20.binds (ps:=p_is_prime) fun _ _ _ _ _ _ us hl=>match us,hl with | [_,_],_=>rfl
  have F21:=fun_mk (st:=s_l_cell_at) l21 c21 k21
  have b21:=F21.binds (ps:=p_l_cell_at) fun _ _ _ _ _ _ us hl=>match us,hl with | [_,_],_=>rfl
  have F22:=fun_mk (st:=s_l_mixed) l22 c22 k22
  have b22:=F22.binds (ps:=p_l_mixed) fun _ _ _ _ _ _ us hl=>match us,hl with | [_,_],_=>rfl
  have F23:=fun_mk (st:=s_l_drawn) l23 c23 k23
  have b23:=F23.binds (ps:=p_l_drawn) fun _ _ _ _ _ _ us hl=>match us,hl with | [_,_],_=>rfl
  have F24:=fun_mk (st:=s_l_number) l24 c24 k24
  have b24:=F24.binds (ps:=p_l_number) fun _ _ _ _ _ _ us hl=>match us,hl with | [_,_,_],_=>rfl
  have F25:=fun_mk (st:=s_l_sum) l25 c25 k25
  have b25:=F25.binds (ps:=p_l_sum) fun _ _ _ _ _ _ us hl=>match us,hl with | [_,_,_],_=>rfl
  have F26:=fun_mk (st:=s_l_trim) l26 c26 k26
  have b26:=F26.binds (ps:=p_l_trim) fun _ _ _ _ _ _ us hl=>match us,hl with | [_],_=>rfl
  have F27:=fun_mk (st:=s_l_times) l27 c27 k27
  have b27:=F27.binds (ps:=p_l_times) fun _ _ _ _ _ _ us hl=>match us,hl with | [_,_,_],_=>rfl
  have F28:=fun_mk (st:=s_l_rest) l28 c28 k28
  have b28:=F28.binds (ps:=p_l_rest) fun _ _ _ _ _ _ us hl=>match us,hl with | [_,_,_],_=>rfl
  have F29:=fun_mk (st:=s_l_is_long_sum) l29 c29 k29
  have b29:=F29.binds (ps:=p_l_is_long_sum) fun _ _ _ _ _ _ us hl=>match us,hl with | [_,_],_=>rfl
  have F30:=fun_mk (st:=s_l_wholes) l30 c30 k30
  have b30:=F30.binds (ps:=p_l_wholes) fun _ _ _ _ _ _ us hl=>match us,hl with | [_,_],_=>rfl
  have F31:=fun_mk (st:=s_l_is_prime) l31 c31 k31
  have b31:=F31.binds (ps:=p_l_is_prime) fun _ _ _ _ _ _ us hl=>match us,hl with | [_,_],_=>rfl
  have F32:=fun_mk (st:=s_law) l32 c32 k32
  refine ⟨PySem.W.fnOf "law" "law" (defArgs s_law) (defBody s_law) (defScope s_law) .none kV32 dc32 pm32 an32 cd32 ct32,fun s v=>.of_eq rfl,fun base _ _=>?_⟩
  have D_trimmed:=Fun.fnd (P:=l.prog) (w:=w) (base:=base) (CX:=CX0) (PySem.W.mg_of X G a1) k1 b1 (ok_trimmed (k:=0) T F1  rfl)
  have D_lone_power:=Fun.fnd (P:=l.prog) (w:=w) (base:=base) (CX:=CX0) (PySem.W.mg_of X G a2) k2 b2 (ok_lone_power (k:=0) T F2  rfl)
  have D_scaled:=Fun.fnd (P:=l.prog) (w:=w) (base:=base) (CX:=CX0) (PySem.W.mg_of X G a3) k3 b3 (ok_scaled (k:=1) T F3 (D_trimmed.mono (by decide)) rfl)
  have D_turned_number:=Fun.fnd (P:=l.prog) (w:=w) (base:=base) (CX:=CX0) (PySem.W.mg_of X G a4) k4 b4 (ok_turned_number (k:=0) T F4  rfl)
  have D_plus:=Fun.fnd (P:=l.prog) (w:=w) (base:=base) (CX:=CX0) (PySem.W.mg_of X G a5) k5 b5 (ok_plus (k:=1) T F5 (D_trimmed.mono (by decide)) rfl)
  have D_minus:=Fun.fnd (P:=l.prog) (w:=w) (base:=base) (CX:=CX0) (PySem.W.mg_of X G a6) k6 b6 (ok_minus (k:=2) T F6 (D_plus.mono (by decide)) (D_scaled.mono (by decide)) rfl)
  have D_times:=Fun.fnd (P:=l.prog) (w:=w) (base:=base) (CX:=CX0) (PySem.W.mg_of X G a7) k7 b7 (ok_times (k:=1) T F7 (D_trimmed.mono (by decide)) rfl)
  have D_parted:=Fun.fnd (P:=l.prog) (w:=w) (base:=base) (CX:=CX0) (PySem.W.mg_of X G a8) k8 b8 (ok_parted (k:=1) T F8 (D_turned_number.mono (by decide)) (D_trimmed.mono (by decide)) rfl)
  have D_rest_by:=Fun.fnd (P:=l.prog) (w:=w) (base:=base) (CX:=CX0) (PySem.W.mg_of X G a9) k9 b9 (ok_rest_by (k:=2) T F9 (D_parted.mono (by decide)) rfl)
  have D_value:=Fun.fnd (P:=l.prog) (w:=w) (base:=base) (CX:=CX0) (PySem.W.mg_of X G a10) k10 b10 (ok_value (k:=0) T F10  rfl)
  have D_roots:=Fun.fnd (P:=l.prog) (w:=w) (base:=base) (CX:=CX0) (PySem.W.mg_of X G a11) k11 b11 (ok_roots (k:=1) T F11 (D_value.mono (by decide)) rfl)
  have D_row_less:=Fun.fnd (P:=l.prog) (w:=w) (base:=base) (CX:=CX0) (PySem.W.mg_of X G a12) k12 b12 (ok_row_less (k:=3) T F12 (D_parted.mono (by decide)) (D_minus.mono (by decide)) (D_times.mono (by decide)) rfl)
  have D_common:=Fun.fnd (P:=l.prog) (w:=w) (base:=base) (CX:=CX0) (PySem.W.mg_of X G a13) k13 b13 (ok_common (k:=4) T F13 (D_row_less.mono (by decide)) (D_turned_number.mono (by decide)) (D_scaled.mono (by decide)) rfl)
  have D_slope:=Fun.fnd (P:=l.prog) (w:=w) (base:=base) (CX:=CX0) (PySem.W.mg_of X G a14) k14 b14 (ok_slope (k:=1) T F14 (D_trimmed.mono (by decide)) rfl)
  have D_cleared:=Fun.fnd (P:=l.prog) (w:=w) (base:=base) (CX:=CX0) (PySem.W.mg_of X G a15) k15 b15 (ok_cleared (k:=3) T F15 (D_minus.mono (by decide)) (D_scaled.mono (by decide)) rfl)
  have D_steady_sum:=Fun.fnd (P:=l.prog) (w:=w) (base:=base) (CX:=CX0) (PySem.W.mg_of X G a16) k16 b16 (ok_steady_sum (k:=4) T F16 (D_lone_power.mono (by decide)) (D_rest_by.mono (by decide)) (D_cleared.mono (by decide)) (D_minus.mono (by decide)) (D_turned_number.mono (by decide)) (D_scaled.mono (by decide)) rfl)
  have D_part_by_steady:=Fun.fnd (P:=l.prog) (w:=w) (base:=base) (CX:=CX0) (PySem.W.mg_of X G a17) k17 b17 (ok_part_by_steady (k:=5) T F17 (D_steady_sum.mono (by decide)) (D_minus.mono (by decide)) (D_scaled.mono (by decide)) (D_common.mono (by decide)) rfl)
  have D_part_of:=Fun.fnd (P:=l.prog) (w:=w) (base:=base) (CX:=CX0) (PySem.W.mg_of X G a18) k18 b18 (ok_part_of (k:=6) T F18 (D_roots.mono (by decide)) (D_slope.mono (by decide)) (D_common.mono (by decide)) (D_part_by_steady.mono (by decide)) rfl)
  have D_split:=Fun.fnd (P:=l.prog) (w:=w) (base:=base) (CX:=CX0) (PySem.W.mg_of X G a19) k19 b19 (ok_split (k:=7) T F19 (D_part_of.mono (by decide)) (D_parted.mono (by decide)) rfl)
  have D_is_prime:=Fun.fnd (P:=l.prog) (w:=w) (base:=base) (CX:=CX0) (PySem.W.mg_of X G a20) k20 b20 (ok_is_prime (k:=7) T F20 (D_part_of.mono (by decide)) rfl)
  have D_l_cell_at:=Fun.fnd (P:=l.prog) (w:=w) (base:=base) (CX:=CX0) (PySem.W.mg_of X G a21) k21 b21 (ok_l_cell_at (k:=0) T F21  rfl)
  have D_l_mixed:=Fun.fnd (P:=l.prog) (w:=w) (base:=base) (CX:=CX0) (PySem.W.mg_of X G a22) k22 b22 (ok_l_mixed (k:=1) T F22 (D_l_cell_at.mono (by decide)) rfl)
  have D_l_drawn:=Fun.fnd (P:=l.prog) (w:=w) (base:=base) (CX:=CX0) (PySem.W.mg_of X G a23) k23 b23 (ok_l_drawn (k:=0) T F23  rfl)
  have D_l_number:=Fun.fnd (P:=l.prog) (w:=w) (base:=base) (CX:=CX0) (PySem.W.mg_of X G a24) k24 b24 (ok_l_number (k:=0) T F24  rfl)
  have D_l_sum:=Fun.fnd (P:=l.prog) (w:=w) (base:=base) (CX:=CX0) (PySem.W.mg_of X G a25) k25 b25 (ok_l_sum (k:=1) T F25 (D_l_drawn.mono (by decide)) rfl)
  have D_l_trim:=Fun.fnd (P:=l.prog) (w:=w) (base:=base) (CX:=CX0) (PySem.W.mg_of X G a26) k26 b26 (ok_l_trim (k:=0) T F26  rfl)
  have D_l_times:=Fun.fnd (P:=l.prog) (w:=w) (base:=base) (CX:=CX0) (PySem.W.mg_of X G a27) k27 b27 (ok_l_times (k:=1) T F27 (D_l_trim.mono (by decide)) rfl)
  have D_l_rest:=Fun.fnd (P:=l.prog) (w:=w) (base:=base) (CX:=CX0) (PySem.W.mg_of X G a28) k28 b28 (ok_l_rest (k:=1) T F28 (D_l_trim.mono (by decide)) rfl)
  have D_l_is_long_sum:=Fun.fnd (P:=l.prog) (w:=w) (base:=base) (CX:=CX0) (PySem.W.mg_of X G a29) k29 b29 (ok_l_is_long_sum (k:=1) T F29 (D_l_number.mono (by decide)) rfl)
  have D_l_wholes:=Fun.fnd (P:=l.prog) (w:=w) (base:=base) (CX:=CX0) (PySem.W.mg_of X G a30) k30 b30 (ok_l_wholes (k:=0) T F30  rfl)
  have D_l_is_prime:=Fun.fnd (P:=l.prog) (w:=w) (base:=base) (CX:=CX0) (PySem.W.mg_of X G a31) k31 b31 (ok_l_is_prime (k:=2) T F31 (D_l_wholes.mono (by decide)) (D_l_rest.mono (by decide)) rfl)
  exact ok_law (k:=8) T F32 (D_l_mixed.mono (by decide)) (D_l_sum.mono (by decide)) (D_l_times.mono (by decide)) (D_split.mono (by decide)) (D_is_prime.mono (by decide)) (D_l_is_prime.mono (by decide)) (D_l_is_long_sum.mono (by decide)) rfl
end K21
open PySem PySem.W PyProof.Rows
set_option maxRecDepth 100000 in
set_option maxHeartbeats 0 in
theorem PySem.Challenge.cw_primefold_k21_whole_split_or_prime_holds : PySem.Challenge.rw_primefold_k21_whole_split_or_prime.Holds := by
  w_on; o_law; k_head; (case hw=>w_witness2)
  k_fill
  refine PF.walkM (l:=PySem.Challenge.rw_primefold_k21_whole_split_or_prime) (k:=9) (m:=R.m_law_k21) (x := "_law_script") ⟨rfl,by decide,by decide⟩ rfl rfl K21.law_holds (fun w h Y=>PySem.W.kIn_of Y) ?F
  case F=>
    intro w mg fa h KX G hmg
    refine' K21.all_mk KX G hmg ?a1 ?l1 ?c1 ?k1 ?a2 ?l2 ?c2 ?k2 ?a3 ?l3 ?c3 ?k3 ?a4 ?l4 ?c4 ?k4 ?a5 ?l5 ?c5 ?k5 ?a6 ?l6 ?c6 ?k6 ?a7 ?l7 ?c7 ?k7 ?a8 ?l8 ?c8 ?k8 ?a9 ?l9 ?c9 ?k9 ?a10 ?l10 ?c10 ?k10 ?a11 ?l11 ?c11 ?k11 ?a12 ?l12 ?c12 ?k12 ?a13 ?l13 ?c13 ?k13 ?a14 ?l14 ?c14 ?k14 ?a15 ?l15 ?c15 ?k15 ?a16 ?l16 ?c16 ?k16 ?a17 ?l17 ?c17 ?k17 ?a18 ?l18 ?c18 ?k18 ?a19 ?l19 ?c19 ?k19 ?a20 ?l20 ?c20 ?k20 ?a21 ?l21 ?c21 ?k21 ?a22 ?l22 ?c22 ?k22 ?a23 ?l23 ?c23 ?k23 ?a24 ?l24 ?c24 ?k24 ?a25 ?l25 ?c25 ?k25 ?a26 ?l26 ?c26 ?k26 ?a27 ?l27 ?c27 ?k27 ?a28 ?l28 ?c28 ?k28 ?a29 ?l29 ?c29 ?k29 ?a30 ?l30 ?c30 ?k30 ?a31 ?l31 ?c31 ?k31 ?a32 ?l32 ?c32 ?k32 ?z_bool ?z_enumerate ?z_int ?z_isinstance ?z_len ?z_list ?z_max ?z_range ?z_reversed ?z_tuple ?z_zip ?y_ONE ?o_ONE
    (case a1=>k_is)
    (case l1=>k_is)
    (case c1=>k_is)
    (case k1=>k_is)
    (case a2=>k_is)
    (case l2=>k_is)
    (case c2=>k_is)
    (case k2=>k_is)
    (case a3=>k_is)
    (case l3=>k_is)
    (case c3=>k_is)
    (case k3=>k_is)
    (case a4=>k_is)
    (case l4=>k_is)
    (case c4=>k_is)
    (case k4=>k_is)
    (case a5=>k_is)
    (case l5=>k_is)
    (case c5=>k_is)
    (case k5=>k_is)
    (case a6=>k_is)
    (case l6=>k_is)
    (case c6=>k_is)
    (case k6=>k_is)
    (case a7=>k_is)
    (case l7=>k_is)
    (case c7=>k_is)
    (case k7=>k_is)
    (case a8=>k_is)
    (case l8=>k_is)
    (case c8=>k_is)
    (case k8=>k_is)
    (case a9=>k_is)
    (case l9=>k_is)
    (case c9=>k_is)
    (case k9=>k_is)
    (case a10=>k_is)
    (case l10=>k_is)
    (case c10=>k_is)
    (case k10=>k_is)
    (case a11=>k_is)
    (case l11=>k_is)
    (case c11=>k_is)
    (case k11=>k_is)
    (case a12=>k_is)
    (case l12=>k_is)
    (case c12=>k_is)
    (case k12=>k_is)
    (case a13=>k_is)
    (case l13=>k_is)
    (case c13=>k_is)
    (case k13=>k_is)
    (case a14=>k_is)
    (case l14=>k_is)
    (case c14=>k_is)
    (case k14=>k_is)
    (case a15=>k_is)
    (case l15=>k_is)
    (case c15=>k_is)
    (case k15=>k_is)
    (case a16=>k_is)
    (case l16=>k_is)
    (case c16=>k_is)
    (case k16=>k_is)
    (case a17=>k_is)
    (case l17=>k_is)
    (case c17=>k_is)
    (case k17=>k_is)
    (case a18=>k_is)
    (case l18=>k_is)
    (case c18=>k_is)
    (case k18=>k_is)
    (case a19=>k_is)
    (case l19=>k_is)
    (case c19=>k_is)
    (case k19=>k_is)
    (case a20=>k_is)
    (case l20=>k_is)
    (case c20=>k_is)
    (case k20=>k_is)
    (case a21=>k_is)
    (case l21=>k_is)
    (case c21=>k_is)
    (case k21=>k_is)
    (case a22=>k_is)
    (case l22=>k_is)
    (case c22=>k_is)
    (case k22=>k_is)
    (case a23=>k_is)
    (case l23=>k_is)
    (case c23=>k_is)
    (case k23=>k_is)
    (case a24=>k_is)
    (case l24=>k_is)
    (case c24=>k_is)
    (case k24=>k_is)
    (case a25=>k_is)
    (case l25=>k_is)
    (case c25=>k_is)
    (case k25=>k_is)
    (case a26=>k_is)
    (case l26=>k_is)
    (case c26=>k_is)
    (case k26=>k_is)
    (case a27=>k_is)
    (case l27=>k_is)
    (case c27=>k_is)
    (case k27=>k_is)
    (case a28=>k_is)
    (case l28=>k_is)
    (case c28=>k_is)
    (case k28=>k_is)
    (case a29=>k_is)
    (case l29=>k_is)
    (case c29=>k_is)
    (case k29=>k_is)
    (case a30=>k_is)
    (case l30=>k_is)
    (case c30=>k_is)
    (case k30=>k_is)
    (case a31=>k_is)
    (case l31=>k_is)
    (case c31=>k_is)
    (case k31=>k_is)
    (case a32=>k_is)
    (case l32=>k_is)
    (case c32=>k_is)
    (case k32=>k_is)
    (case z_bool=>k_is)
    (case z_enumerate=>k_is)
    (case z_int=>k_is)
    (case z_isinstance=>k_is)
    (case z_len=>k_is)
    (case z_list=>k_is)
    (case z_max=>k_is)
    (case z_range=>k_is)
    (case z_reversed=>k_is)
    (case z_tuple=>k_is)
    (case z_zip=>k_is)
    (case y_ONE=>k_is)
    (case o_ONE=>k_is)
#print axioms PySem.Challenge.cw_primefold_k21_whole_split_or_prime_holds
